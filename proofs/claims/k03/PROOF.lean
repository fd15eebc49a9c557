import PyProof.Rows.All
import HandS.ForMost
import HandS.TupAny
import HandS.TupMul
import HandS.ForExc
import HandS.EndBits
import HandS.Wide
import HandS.WideBits
import HandS.Zip
import HandS.IsInst
import HandS.ExcIs
import HandS.Flow
import HandS.Strs
import HandS.Conv
import HandS.Style
import HandS.GenList
import HandS.ExcCtx
import HandS.Hot
import HandS.HotCalls
import HandS.WordsExc
import HandS.Text
import HandS.RaiseMore
import KE.GoesEnumKw
import HandS.Nested
import HandS.ExcInit
import KE.KSuper
import KE.KExcSuper
import HandS.ExcField
import KE.KExcIs
import HandS.FStr
import HandS.FStrTup
import PyProof.ListStr
import HandS.ExcOwn
import HandS.SetFor
import HandS.More
import HandS.Sort
import PyProof.Rows.SetFrom
import HandS.IterVal
import HandS.Iter
import PyProof.Rows.CallKwBuiltin
import KE.GoesZip
import KE.GoesMore
import KE.GoesEnum
import PyProof.P3Eq
import KE.KOpsOwn
import PySem.Challenge.RW_choosersrow_k03_wrong_aims
import Open.SpecLaws
import KE.OsGo
import KE.RegKSuper
set_option Elab.async false
set_option linter.all false
set_option maxRecDepth 100000
set_option maxHeartbeats 4000000
namespace DW
open PySem PySem.Spec PyProof.Rows L2
/-- the object of a new tuple -/
abbrev tupObj (its : List Value) : Obj := { cls := .type "tuple", data := .seq its.toArray }
theorem tup_okN {P : Program} {w : World} {H : Hp} {h : Heap} {xs : List V} {its : List Value} (hz : xs.length ≤ sizeLine) (r : Vals xs its) :
    ObjOk P w H (h.push (tupObj its)) h.objs.size (.frz (tupObj its) (.tup xs)) := ⟨Heap.get?_push_size _ rfl, hz, its, r, IsTup.new _ _⟩
section
variable {X : Cx} {pins : List (Addr × Obj)} {σ : L2.St} {H : Hp} {s : Shared} {Q : VK}
/-- what is wished of a new tuple -/
def NewT (H : Hp) (xs : List V) (Q : VK) : Prop := ∀ p o, o.dict = none → o.cls = .type "tuple" → H p = none → Q (.ref p) (upd H p (.frz o (.tup xs)))
theorem new_tup {xs : List V} {its : List Value} (I : Inv X pins σ H s) (hz : xs.length ≤ sizeLine) (r : Vals xs its) (q : NewT H xs Q) : EP X pins σ Q (.ref s.heap.objs.size) { s with heap := s.heap.push (tupObj its) } :=
  ⟨.ref s.heap.objs.size, _, I.laid (t' := s.toks) (fun b u e => Heap.get?_push_of_some _ e) (Nat.le_refl _) (tup_okN hz r), rfl, q _ _ rfl rfl (I.hok.fresh (Nat.le_refl _))⟩
end
def tTupN (t : TA) : TE := fun σ H Q => t σ H fun xs H1 => xs.length ≤ sizeLine ∧ NewT H1 xs Q
theorem pe_tupN {X : Cx} {es : List Expr} {x1 : Nat} {pos : Pos} {t : TA} (h : PA X es t) : PE X (.Tuple es x1 pos) (tTupN t) :=
  ⟨fun pins s σ H Q I hq => wpAny_Tuple_spliced (thn (h.run pos pins s σ H _ I hq) fun us s1 ⟨xs, H1, I1, r, z, q⟩ => ⟨by rw [← r.length]; exact z, new_tup I1 z r q⟩)⟩
/-- t + u -/
def rCatN (K : PySem.W.Frag) : R2 := fun x y H Q => ∃ a b xs ys, x = .ref a ∧ y = .ref b ∧ SqT K H a xs ∧ SqT K H b ys ∧ xs.length + ys.length ≤ sizeLine ∧
  (xs = [] → Q (.ref b) H) ∧ (xs ≠ [] → ys = [] → Q (.ref a) H) ∧ (xs ≠ [] → ys ≠ [] → NewT H (xs ++ ys) Q)
theorem op_catN {X : Cx} : OpR X (binaryOp .Add) (rCatN X.K) := by
  intro pins s σ H x y v u Q I rx ry h
  obtain ⟨a, b, xs, ys, rfl, rfl, ha, hb, hz, q0, q1, q2⟩ := h
  cases rx
  cases ry
  obtain ⟨its, r1, p1, _⟩ := I.tuple ha
  obtain ⟨its2, r2, p2, _⟩ := I.tuple hb
  by_cases hx : xs = []
  · subst hx
    cases r1
    exact cat_tup0 p1 p2 ⟨.ref b, H, I, rfl, q0 rfl⟩
  · refine HT.cat_tup p1 p2 (fun z => hx (r1.nil_iff.mp z)) (fun z => ⟨.ref a, H, I, rfl, q1 hx (r2.nil_iff.mp z)⟩) (fun z => ?_) (by rw [← r1.length, ← r2.length]; exact hz)
    exact new_tup I (by rw [List.length_append]; exact hz) (r1.append r2) (q2 hx fun w => z (r2.nil_iff.mpr w))
/-- t[lo:hi] -/
def rSlN (K : PySem.W.Frag) : V → Option Int → Option Int → Hp → VK → Prop := fun x lo hi H Q => ∃ a xs, x = .ref a ∧ SqT K H a xs ∧
  (HT.sIx xs.length 0 lo = 0 ∧ HT.sIx xs.length xs.length hi = xs.length → Q (.ref a) H) ∧ (¬ (HT.sIx xs.length 0 lo = 0 ∧ HT.sIx xs.length xs.length hi = xs.length) → NewT H (cutV xs lo hi) Q)
theorem sl_tupN {X : Cx} : SlR X (rSlN X.K) := by
  intro pins s σ H x v vl vu lo hi sl Q I rx hs pl pu h
  obtain ⟨a, xs, rfl, hx, q1, q2⟩ := h
  cases rx
  obtain ⟨its, r, ht, hz⟩ := I.tuple hx
  have many : its.toArray.size = xs.length := by rw [List.size_toArray]; exact r.length.symm
  refine ⟨"tuple", _, PyProof.Rows.slot_tuple_getitem.lookup, ht.typeIs, ?_⟩
  by_cases hw : HT.sIx xs.length 0 lo = 0 ∧ HT.sIx xs.length xs.length hi = xs.length
  · exact getItem_tuple_whole ht hs pl pu (by rw [many]; exact hw) ⟨.ref a, H, I, rfl, q1 hw⟩
  · refine HT.getItem_tuple_cut ht hs pl pu (by rw [many]; exact hw) ?_ (by rw [many]; exact hz)
    rw [many]
    exact new_tup I (Nat.le_trans (cutV_length xs lo hi) hz) ((r.drop (HT.sIx xs.length 0 lo)).take (HT.sIx xs.length xs.length hi - HT.sIx xs.length 0 lo)) (q2 hw)
/-- tuple(xs) -/
theorem call_tupleN {X : Cx} : CallR X (.type "tuple") (fun xs H Q => ∃ p ys, xs = [.ref p] ∧ ((SqL X.K H p ys ∧ NewT H ys Q) ∨ (SqT X.K H p ys ∧ Q (.ref p) H))) := by
  intro pins s σ H xs us Q I r h
  obtain ⟨p, ys, rfl, h⟩ := h
  obtain ⟨u, rfl, rx⟩ := vals1 r
  cases rx
  rcases h with ⟨hq, q⟩ | ⟨hq, q⟩
  · obtain ⟨its, r', pl, hz⟩ := I.list hq
    have many := r'.length
    refine call_tuple_list pl.isList (fun h' kp => ?_) (by simp only [List.size_toArray] <;> omega)
    have I1 : Inv X pins σ H { s with heap := h' } := I.kept (t' := s.toks) kp
    exact new_tup I1 hz r' q
  · obtain ⟨its, r', pl, hz⟩ := I.tuple hq
    exact call_tuple_same pl ⟨.ref p, H, I, rfl, q⟩
end DW
set_option Elab.async false
set_option linter.all false
set_option maxRecDepth 100000
namespace DW
open PySem PySem.Spec L2
abbrev Fg := PySem.W.Frag
/-- plain data: what a value stands for; hd: a value taken as it is (a handle, a def, a type) -/
inductive D where
  | non | bl (b : Bool) | int (i : Int) | str (x : Str)
  | tup (xs : List D) | lst (xs : List D)
  | pr (xs : List D)
  | obj (C : Addr) (ns : List Str) (ds : List D)
  | hd (v : V)
  | scr (ns : List Int)
/-- what stands at a handle's address: a list that may change, one that stands still, an instance in the making -/
inductive Cell where
  | lst (ds : List D) | frz (ds : List D) | ins (C : Addr) (ns : List Str) (ds : List D)
abbrev Sto := Addr → Option Cell
def sset (μ : Sto) (a : Addr) (c : Cell) : Sto := fun b => if b = a then some c else μ b
theorem sset_same {μ : Sto} {a : Addr} {c : Cell} : sset μ a c a = some c := by unfold sset; rw [if_pos rfl]
theorem sset_ne {μ : Sto} {a b : Addr} {c : Cell} (h : b ≠ a) : sset μ a c b = μ b := by unfold sset; rw [if_neg h]
theorem sset_sset {μ : Sto} {a : Addr} {c d : Cell} : sset (sset μ a c) a d = sset μ a d := by
  funext b; unfold sset; split <;> rfl
def still : Option Cell → Prop
  | some (.lst _) => False
  | some (.ins _ _ _) => False
  | _ => True
/-- nothing that may change stands at a -/
def NM (μ : Sto) (a : Addr) : Prop := still (μ a)
theorem NM.of {μ : Sto} {a : Addr} (h : μ a = none) : NM μ a := by unfold NM; rw [h]; exact trivial
theorem NM.frz {μ : Sto} {a : Addr} {ds : List D} (h : μ a = some (.frz ds)) : NM μ a := by unfold NM; rw [h]; exact trivial
theorem NM.notL {μ : Sto} {a : Addr} {ds : List D} (h : NM μ a) (q : μ a = some (.lst ds)) : False := by unfold NM at h; rw [q] at h; exact h
theorem NM.notI {μ : Sto} {a C : Addr} {ns : List Str} {ds : List D} (h : NM μ a) (q : μ a = some (.ins C ns ds)) : False := by unfold NM at h; rw [q] at h; exact h
def SqLw (K : Fg) (a : Addr) (xs : List V) : Prop :=
  ∃ (o : Obj) (its : Array Value) (n : Nat), K.lookup a = some o ∧ o.cls = .type "list" ∧ o.dict = none ∧ o.data = .seq its n ∧ its.size ≤ sizeLine ∧ Vals xs its.toList
def SqTw (K : Fg) (a : Addr) (xs : List V) : Prop :=
  ∃ (o : Obj) (its : Array Value) (n : Nat), K.lookup a = some o ∧ o.cls = .type "tuple" ∧ o.dict = none ∧ o.data = .seq its n ∧ its.size ≤ sizeLine ∧ Vals xs its.toList
def LstAt (μ : Sto) (H : Hp) (a : Addr) (xs : List V) : Prop := H a = some (.lst xs) ∧ NM μ a
def ScrAt (K : Fg) (μ : Sto) (H : Hp) (a : Addr) (xs : List V) : Prop := (Rd H a (.lst xs) ∧ NM μ a) ∨ SqLw K a xs
def TupAt (K : Fg) (μ : Sto) (H : Hp) (a : Addr) (xs : List V) : Prop := (∃ o : Obj, H a = some (.frz o (.tup xs)) ∧ o.dict = none ∧ o.cls = .type "tuple" ∧ NM μ a) ∨ SqTw K a xs
/-- a tuple that is taken apart at once -/
def PrAt (μ : Sto) (H : Hp) (a : Addr) (xs : List V) : Prop := Rd H a (.tup xs) ∧ NM μ a
theorem LstAt.sq {K : Fg} {μ : Sto} {H : Hp} {a : Addr} {xs : List V} (h : LstAt μ H a xs) : SqL K H a xs := .inl (.inl h.1)
theorem ScrAt.sq {K : Fg} {μ : Sto} {H : Hp} {a : Addr} {xs : List V} (h : ScrAt K μ H a xs) : SqL K H a xs := h.elim (fun q => .inl q.1) fun q => .inr q
theorem TupAt.sq {K : Fg} {μ : Sto} {H : Hp} {a : Addr} {xs : List V} (h : TupAt K μ H a xs) : SqT K H a xs := h.elim (fun ⟨o, q, _⟩ => .inl (.inr ⟨o, q⟩)) fun ⟨o, its, n, q1, q2, _, q3⟩ => .inr ⟨o, its, n, q1, q2, q3⟩
theorem PrAt.sq {K : Fg} {μ : Sto} {H : Hp} {a : Addr} {xs : List V} (h : PrAt μ H a xs) : SqT K H a xs := .inl h.1
/-- what values stand for what data -/
inductive Reps (K : Fg) (μ : Sto) (H : Hp) : List V → List D → Prop
  | nil : Reps K μ H [] []
  | non {vs ds} : Reps K μ H vs ds → Reps K μ H (.non :: vs) (.non :: ds)
  | bl {vs ds} (b : Bool) : Reps K μ H vs ds → Reps K μ H (.bl b :: vs) (.bl b :: ds)
  | int {vs ds} (i : Int) : Reps K μ H vs ds → Reps K μ H (.int i :: vs) (.int i :: ds)
  | str {vs ds} (x : Str) : Reps K μ H vs ds → Reps K μ H (.str x :: vs) (.str x :: ds)
  | hd {vs ds} (v : V) : Reps K μ H vs ds → Reps K μ H (v :: vs) (.hd v :: ds)
  | tup {vs ds a us es} : TupAt K μ H a us → Reps K μ H us es → Reps K μ H vs ds → Reps K μ H (.ref a :: vs) (.tup es :: ds)
  | pr {vs ds a us es} : PrAt μ H a us → Reps K μ H us es → Reps K μ H vs ds → Reps K μ H (.ref a :: vs) (.pr es :: ds)
  | scr {vs ds a ns} : ScrAt K μ H a (ns.map V.int) → Reps K μ H vs ds → Reps K μ H (.ref a :: vs) (.scr ns :: ds)
  | lst {vs ds a us es} : LstAt μ H a us → Reps K μ H us es → Reps K μ H vs ds → Reps K μ H (.ref a :: vs) (.lst es :: ds)
  | obj {vs ds a C dx ns us es} : H a = some (.ins C dx (ns.zip us)) → NM μ a → us.length = ns.length → Reps K μ H us es → Reps K μ H vs ds → Reps K μ H (.ref a :: vs) (.obj C ns es :: ds)
abbrev Rep (K : Fg) (μ : Sto) (H : Hp) (v : V) (d : D) : Prop := Reps K μ H [v] [d]
section
variable {K : Fg} {μ μ' μ'' : Sto} {H H' H'' : Hp} {v w : V} {d e : D} {vs us : List V} {ds es : List D}
theorem Reps.length (h : Reps K μ H vs ds) : vs.length = ds.length := by
  induction h <;> simp_all
theorem Reps.split (h : Reps K μ H (v :: vs) (d :: ds)) : Rep K μ H v d ∧ Reps K μ H vs ds := by
  cases h with
  | non r => exact ⟨.non .nil, r⟩
  | bl b r => exact ⟨.bl b .nil, r⟩
  | int i r => exact ⟨.int i .nil, r⟩
  | str x r => exact ⟨.str x .nil, r⟩
  | hd v r => exact ⟨.hd v .nil, r⟩
  | tup h1 h2 r => exact ⟨.tup h1 h2 .nil, r⟩
  | pr h1 h2 r => exact ⟨.pr h1 h2 .nil, r⟩
  | lst h1 h2 r => exact ⟨.lst h1 h2 .nil, r⟩
  | scr h1 r => exact ⟨.scr h1 .nil, r⟩
  | obj h1 h2 h3 h4 r => exact ⟨.obj h1 h2 h3 h4 .nil, r⟩
theorem Reps.cons (h : Rep K μ H v d) (r : Reps K μ H vs ds) : Reps K μ H (v :: vs) (d :: ds) := by
  cases h with
  | non _ => exact .non r
  | bl b _ => exact .bl b r
  | int i _ => exact .int i r
  | str x _ => exact .str x r
  | hd v _ => exact .hd v r
  | tup h1 h2 _ => exact .tup h1 h2 r
  | pr h1 h2 _ => exact .pr h1 h2 r
  | lst h1 h2 _ => exact .lst h1 h2 r
  | scr h1 _ => exact .scr h1 r
  | obj h1 h2 h3 h4 _ => exact .obj h1 h2 h3 h4 r
theorem Reps.get (h : Reps K μ H vs ds) : ∀ {i : Nat} {d : D}, ds[i]? = some d → ∃ v, vs[i]? = some v ∧ Rep K μ H v d := by
  intro i
  induction i generalizing vs ds with
  | zero =>
    intro d e
    cases ds with
    | nil => cases e
    | cons x r =>
      cases vs with
      | nil => have := h.length; simp at this
      | cons v vs =>
        cases e
        exact ⟨v, rfl, h.split.1⟩
  | succ i ih =>
    intro d e
    cases ds with
    | nil => cases e
    | cons x r =>
      cases vs with
      | nil => have := h.length; simp at this
      | cons v vs => exact ih h.split.2 e
theorem Reps.getV (h : Reps K μ H vs ds) {i : Nat} {v : V} (e : vs[i]? = some v) : ∃ d, ds[i]? = some d ∧ Rep K μ H v d := by
  have hi : i < ds.length := by rw [← h.length]; exact (List.getElem?_eq_some_iff.mp e).1
  obtain ⟨v', e', r⟩ := h.get (List.getElem?_eq_getElem hi)
  rw [e] at e'
  cases e'
  exact ⟨_, List.getElem?_eq_getElem hi, r⟩
theorem Reps.append (h : Reps K μ H vs ds) (r : Reps K μ H us es) : Reps K μ H (vs ++ us) (ds ++ es) := by
  induction vs generalizing ds with
  | nil => cases h; exact r
  | cons v vs ih =>
    cases ds with
    | nil => have := h.length; simp at this
    | cons d ds => exact .cons h.split.1 (ih h.split.2)
theorem Reps.take (h : Reps K μ H vs ds) : ∀ n, Reps K μ H (vs.take n) (ds.take n) := by
  intro n
  induction n generalizing vs ds with
  | zero => exact .nil
  | succ n ih =>
    cases ds with
    | nil =>
      cases vs with
      | nil => exact .nil
      | cons v vs => have := h.length; simp at this
    | cons d ds =>
      cases vs with
      | nil => have := h.length; simp at this
      | cons v vs => exact .cons h.split.1 (ih h.split.2)
theorem Reps.drop (h : Reps K μ H vs ds) : ∀ n, Reps K μ H (vs.drop n) (ds.drop n) := by
  intro n
  induction n generalizing vs ds with
  | zero => exact h
  | succ n ih =>
    cases ds with
    | nil =>
      cases vs with
      | nil => exact .nil
      | cons v vs => have := h.length; simp at this
    | cons d ds =>
      cases vs with
      | nil => have := h.length; simp at this
      | cons v vs => exact ih h.split.2
theorem Reps.set (h : Reps K μ H vs ds) (r : Rep K μ H v d) : ∀ j, Reps K μ H (vs.set j v) (ds.set j d) := by
  intro j
  induction j generalizing vs ds with
  | zero =>
    cases ds with
    | nil =>
      cases vs with
      | nil => exact .nil
      | cons v vs => have := h.length; simp at this
    | cons d ds =>
      cases vs with
      | nil => have := h.length; simp at this
      | cons v vs => exact .cons r h.split.2
  | succ n ih =>
    cases ds with
    | nil =>
      cases vs with
      | nil => exact .nil
      | cons v vs => have := h.length; simp at this
    | cons d ds =>
      cases vs with
      | nil => have := h.length; simp at this
      | cons v vs => exact .cons h.split.1 (ih h.split.2)
theorem Reps.reverse (h : Reps K μ H vs ds) : Reps K μ H vs.reverse ds.reverse := by
  induction vs generalizing ds with
  | nil => cases h; exact .nil
  | cons v vs ih =>
    cases ds with
    | nil => have := h.length; simp at this
    | cons d ds =>
      rw [List.reverse_cons, List.reverse_cons]
      exact (ih h.split.2).append (.cons h.split.1 .nil)
/-- all that stands still there, stands still here; nothing is gone -/
structure Evo (μ : Sto) (H : Hp) (μ' : Sto) (H' : Hp) : Prop where
  st : ∀ b o, H b = some o → NM μ b → H' b = some o ∧ NM μ' b
  th : ∀ b, H' b = none → H b = none
theorem Evo.refl : Evo μ H μ H := ⟨fun _ _ h n => ⟨h, n⟩, fun _ h => h⟩
theorem Evo.trans (a : Evo μ H μ' H') (b : Evo μ' H' μ'' H'') : Evo μ H μ'' H'' := ⟨fun c o h n => b.st c o (a.st c o h n).1 (a.st c o h n).2, fun c h => a.th c (b.th c h)⟩
theorem Evo.rd {a : Addr} {u : HO} (e : Evo μ H μ' H') (h : Rd H a u) (n : NM μ a) : Rd H' a u ∧ NM μ' a := by
  rcases h with h | ⟨o, h⟩
  · exact ⟨.inl (e.st a _ h n).1, (e.st a _ h n).2⟩
  · exact ⟨.inr ⟨o, (e.st a _ h n).1⟩, (e.st a _ h n).2⟩
theorem LstAt.mono {a : Addr} {xs : List V} (e : Evo μ H μ' H') (h : LstAt μ H a xs) : LstAt μ' H' a xs := e.st _ _ h.1 h.2
theorem ScrAt.mono {a : Addr} {xs : List V} (e : Evo μ H μ' H') (h : ScrAt K μ H a xs) : ScrAt K μ' H' a xs := by
  rcases h with ⟨h, n⟩ | h
  · exact .inl (e.rd h n)
  · exact .inr h
theorem TupAt.mono {a : Addr} {xs : List V} (e : Evo μ H μ' H') (h : TupAt K μ H a xs) : TupAt K μ' H' a xs := by
  rcases h with ⟨o, h, d, c, n⟩ | h
  · exact .inl ⟨o, (e.st a _ h n).1, d, c, (e.st a _ h n).2⟩
  · exact .inr h
theorem Reps.mono (e : Evo μ H μ' H') (h : Reps K μ H vs ds) : Reps K μ' H' vs ds := by
  induction h with
  | nil => exact .nil
  | non _ i => exact .non i
  | bl b _ i => exact .bl b i
  | int b _ i => exact .int b i
  | str b _ i => exact .str b i
  | hd b _ i => exact .hd b i
  | tup h1 _ _ i1 i2 => exact .tup (h1.mono e) i1 i2
  | pr h1 _ _ i1 i2 => exact .pr ⟨(e.rd h1.1 h1.2).1, (e.rd h1.1 h1.2).2⟩ i1 i2
  | lst h1 _ _ i1 i2 => exact .lst (h1.mono e) i1 i2
  | scr h1 _ i1 => exact .scr (h1.mono e) i1
  | obj h1 h2 h3 _ _ i1 i2 => exact .obj (e.st _ _ h1 h2).1 (e.st _ _ h1 h2).2 h3 i1 i2
/-- what is said of the handles holds of the heap -/
def CellOk (K : Fg) (μ : Sto) (H : Hp) (a : Addr) : Cell → Prop
  | .lst ds => ∃ vs, H a = some (.lst vs) ∧ Reps K μ H vs ds
  | .frz ds => ∃ vs, H a = some (.lst vs) ∧ Reps K μ H vs ds
  | .ins C ns ds => ∃ dx us, H a = some (.ins C dx (ns.zip us)) ∧ us.length = ns.length ∧ Reps K μ H us ds
def StoOk (K : Fg) (μ : Sto) (H : Hp) : Prop := ∀ a c, μ a = some c → CellOk K μ H a c
theorem CellOk.there {a : Addr} {c : Cell} (h : CellOk K μ H a c) : ∃ o, H a = some o := by
  cases c with
  | lst ds => obtain ⟨_, e, _⟩ := h; exact ⟨_, e⟩
  | frz ds => obtain ⟨_, e, _⟩ := h; exact ⟨_, e⟩
  | ins C ns ds => obtain ⟨_, _, e, _⟩ := h; exact ⟨_, e⟩
theorem StoOk.fresh {p : Addr} (s : StoOk K μ H) (h : H p = none) : μ p = none := by
  cases e : μ p with
  | none => rfl
  | some c =>
    obtain ⟨o, q⟩ := (s p c e).there
    rw [h] at q
    cases q
theorem CellOk.mono {a : Addr} {c : Cell} (e : Evo μ H μ' H') (hs : ∀ o, H a = some o → H' a = some o) (h : CellOk K μ H a c) : CellOk K μ' H' a c := by
  cases c with
  | lst ds => obtain ⟨vs, q, r⟩ := h; exact ⟨vs, hs _ q, r.mono e⟩
  | frz ds => obtain ⟨vs, q, r⟩ := h; exact ⟨vs, hs _ q, r.mono e⟩
  | ins C ns ds => obtain ⟨dx, us, q, l, r⟩ := h; exact ⟨dx, us, hs _ q, l, r.mono e⟩
/-- a new object -/
theorem upd_th {p : Addr} {o : HO} {b : Addr} (h : upd H p o b = none) : H b = none := by
  by_cases e : b = p
  · subst e; rw [upd_same] at h; cases h
  · rw [upd_ne e] at h; exact h
theorem Evo.new {p : Addr} {o : HO} (h : H p = none) : Evo μ H μ (upd H p o) := ⟨fun b u e n => ⟨by rw [upd_ne (ne_of_none e h)]; exact e, n⟩, fun b q => upd_th q⟩
theorem StoOk.new {p : Addr} {o : HO} (s : StoOk K μ H) (h : H p = none) : StoOk K μ (upd H p o) := fun a c e =>
  (s a c e).mono (.new h) fun u q => by rw [upd_ne (ne_of_none q h)]; exact q
theorem NM.new {p : Addr} (s : StoOk K μ H) (h : H p = none) : NM μ p := .of (s.fresh h)
/-- a new object that has a cell -/
theorem Evo.newC {p : Addr} {o : HO} {c : Cell} (s : StoOk K μ H) (h : H p = none) : Evo μ H (sset μ p c) (upd H p o) := ⟨fun b u e n => by
  have hb : b ≠ p := ne_of_none e h
  refine ⟨by rw [upd_ne hb]; exact e, ?_⟩
  unfold NM
  rw [sset_ne hb]
  exact n, fun b q => upd_th q⟩
/-- the cell at p changes; nothing else does -/
theorem Evo.cell {p : Addr} {o : HO} {c c' : Cell} (hp : μ p = some c) (hn : ¬ NM μ p) : Evo μ H (sset μ p c') (upd H p o) := ⟨fun b u e n => by
  have hb : b ≠ p := fun q => hn (q ▸ n)
  refine ⟨by rw [upd_ne hb]; exact e, ?_⟩
  unfold NM
  rw [sset_ne hb]
  exact n, fun b q => upd_th q⟩
theorem StoOk.cell {p : Addr} {o : HO} {c' : Cell} (s : StoOk K μ H) (e : Evo μ H (sset μ p c') (upd H p o)) (h : CellOk K (sset μ p c') (upd H p o) p c') : StoOk K (sset μ p c') (upd H p o) := fun a x q => by
  by_cases ha : a = p
  · subst ha
    rw [sset_same] at q
    cases q
    exact h
  · rw [sset_ne ha] at q
    exact (s a x q).mono e fun u z => by rw [upd_ne ha]; exact z
/-- fewer cells -/
def Sub (μ μ' : Sto) : Prop := ∀ a c, μ a = some c → μ' a = some c
theorem Sub.refl : Sub μ μ := fun _ _ h => h
theorem Sub.trans (a : Sub μ μ') (b : Sub μ' μ'') : Sub μ μ'' := fun c x h => b c x (a c x h)
theorem Sub.set {p : Addr} {c : Cell} (s : Sub μ μ') (h : μ p = none) : Sub μ (sset μ' p c) := fun a x e => by
  have : a ≠ p := fun q => by subst q; rw [h] at e; cases e
  rw [sset_ne this]
  exact s a x e
theorem Sub.none {p : Addr} (s : Sub μ μ') (h : μ' p = none) : μ p = none := by
  cases e : μ p with
  | none => rfl
  | some c => rw [s p c e] at h; cases h
theorem Sub.nm {a : Addr} (s : Sub μ μ') (h : NM μ' a) : NM μ a := by
  unfold NM at h ⊢
  cases e : μ a with
  | none => exact trivial
  | some c => rw [s a c e] at h; exact h
theorem Sub.evo (s : Sub μ' μ) : Evo μ H μ' H := ⟨fun b o e n => ⟨e, s.nm n⟩, fun _ q => q⟩
/-- without the cell at p -/
def sdel (μ : Sto) (p : Addr) : Sto := fun b => if b = p then none else μ b
theorem sdel_sub {p : Addr} : Sub (sdel μ p) μ := fun a c e => by
  unfold sdel at e
  split at e
  · cases e
  · exact e
theorem sdel_sset {p : Addr} {c : Cell} (h : μ p = none) : sdel (sset μ p c) p = μ := by
  funext b; unfold sdel sset; by_cases e : b = p
  · subst e; rw [if_pos rfl, h]
  · rw [if_neg e, if_neg e]
theorem sdel_same {p : Addr} : sdel μ p p = none := by unfold sdel; rw [if_pos rfl]
theorem Sub.sto (s : Sub μ' μ) (h : StoOk K μ H) : StoOk K μ' H := fun a c e => (h a c (s a c e)).mono s.evo fun _ z => z
/-- the names' values -/
abbrev DEnv := List (Option D)
structure EnvOk (K : Fg) (μ : Sto) (H : Hp) (σ : St) (δ : DEnv) : Prop where
  len : σ.length = δ.length
  at_ : ∀ (i : Nat) (d : D), δ[i]? = some (some d) → ∃ v, σ[i]? = some (some v) ∧ Rep K μ H v d
theorem EnvOk.mono {σ : St} {δ : DEnv} (e : Evo μ H μ' H') (h : EnvOk K μ H σ δ) : EnvOk K μ' H' σ δ := ⟨h.len, fun i d q => by
  obtain ⟨v, a, b⟩ := h.at_ i d q
  exact ⟨v, a, b.mono e⟩⟩
theorem EnvOk.set {σ : St} {δ : DEnv} (h : EnvOk K μ H σ δ) (r : Rep K μ H v d) (j : Nat) : EnvOk K μ H (σ.set j (some v)) (δ.set j (some d)) := ⟨by rw [List.length_set, List.length_set]; exact h.len, fun i x q => by
  rw [List.getElem?_set] at q
  rw [List.getElem?_set]
  by_cases hj : j = i
  · rw [if_pos hj] at q ⊢
    rw [h.len]
    by_cases hl : j < δ.length
    · rw [if_pos hl] at q ⊢
      cases q
      exact ⟨v, rfl, r⟩
    · rw [if_neg hl] at q
      cases q
  · rw [if_neg hj] at q ⊢
    exact h.at_ i x q⟩
/-- what is known where one stands -/
structure Sm (K : Fg) (H0 : Hp) (μ0 : Sto) (σ : St) (H : Hp) (δ : DEnv) (μ : Sto) : Prop where
  evo : Evo μ0 H0 μ H
  sto : StoOk K μ H
  env : EnvOk K μ H σ δ
theorem Sm.step {H0 : Hp} {μ0 : Sto} {σ : St} {δ : DEnv} (S : Sm K H0 μ0 σ H δ μ) (e : Evo μ H μ' H') (s : StoOk K μ' H') : Sm K H0 μ0 σ H' δ μ' := ⟨S.evo.trans e, s, S.env.mono e⟩
theorem Sm.set {H0 : Hp} {μ0 : Sto} {σ : St} {δ : DEnv} (S : Sm K H0 μ0 σ H δ μ) (r : Rep K μ H v d) (j : Nat) : Sm K H0 μ0 (σ.set j (some v)) H (δ.set j (some d)) μ := ⟨S.evo, S.sto, S.env.set r j⟩
end
end DW
set_option Elab.async false
set_option linter.all false
set_option maxRecDepth 100000
namespace DW
open PySem PySem.Spec L2
/-- an exception that is on its way: its class, its own fields -/
inductive XD where
  | mk (C : Addr) (fs : Option (List Str × List D))
abbrev XP := XD → DEnv → Sto → Prop
abbrev DK := D → Sto → Prop
def RepX (K : Fg) (μ : Sto) (H : Hp) (cls : Value) (dd : Option Addr) : XD → Prop
  | .mk C none => cls = .ref C ∧ dd = none
  | .mk C (some (ns, ds)) => cls = .ref C ∧ ∃ d us, dd = some d ∧ H d = some (.xd (ns.zip us)) ∧ NM μ d ∧ us.length = ns.length ∧ Reps K μ H us ds
/-- where a piece of code stands: the written part, the heap and the handles at the entry, what is wished of exceptions -/
structure Bx (K : Fg) where
  H0 : Hp
  μ0 : Sto
  W : WX
  Ψ : XP
  hW : ∀ cls dd σ H x δ μ, Sm K H0 μ0 σ H δ μ → RepX K μ H cls dd x → Ψ x δ μ → W cls dd σ H
/-- the same, from a later moment on -/
abbrev Bx.re {K : Fg} (B : Bx K) (H1 : Hp) (μ1 : Sto) (e : Evo B.μ0 B.H0 μ1 H1) : Bx K := ⟨H1, μ1, B.W, B.Ψ, fun cls dd σ H x δ μ S => B.hW cls dd σ H x δ μ ⟨e.trans S.evo, S.sto, S.env⟩⟩
abbrev DE := XP → DEnv → Sto → DK → Prop
abbrev DA := XP → DEnv → Sto → (List D → Sto → Prop) → Prop
abbrev DT := XP → DEnv → Sto → (Bool → Sto → Prop) → Prop
structure DEnds where
  nx : DEnv → Sto → Prop
  rt : D → Sto → Prop
  bk : DEnv → Sto → Prop
  ct : DEnv → Sto → Prop
abbrev DSt := XP → DEnds → DEnv → Sto → Prop
section
variable {K : Fg} (B : Bx K)
abbrev Bx.S {K : Fg} (B : Bx K) (σ : L2.St) (H : Hp) (δ : DEnv) (μ : Sto) : Prop := Sm K B.H0 B.μ0 σ H δ μ
/-- the reading te follows from the data's reading φ -/
def SE (te : TE) (φ : DE) : Prop := ∀ (σ : L2.St) (H : Hp) (δ : DEnv) (μ : Sto) (Φ : DK) (Q : VK), B.S σ H δ μ → φ B.Ψ δ μ Φ →
  (∀ v H' d μ', B.S σ H' δ μ' → Evo μ H μ' H' → Rep K μ' H' v d → Φ d μ' → Q v H') → te σ H Q
def SA (ta : TA) (φ : DA) : Prop := ∀ (σ : L2.St) (H : Hp) (δ : DEnv) (μ : Sto) (Φ : List D → Sto → Prop) (Q : List V → Hp → Prop), B.S σ H δ μ → φ B.Ψ δ μ Φ →
  (∀ vs H' ds μ', B.S σ H' δ μ' → Evo μ H μ' H' → Reps K μ' H' vs ds → Φ ds μ' → Q vs H') → ta σ H Q
def ST (tt : TT) (φ : DT) : Prop := ∀ (σ : L2.St) (H : Hp) (δ : DEnv) (μ : Sto) (Φ : Bool → Sto → Prop) (Q : Bool → Hp → Prop), B.S σ H δ μ → φ B.Ψ δ μ Φ →
  (∀ b H' μ', B.S σ H' δ μ' → Evo μ H μ' H' → Φ b μ' → Q b H') → tt σ H Q
structure EO (D : Ends) (Δ : DEnds) : Prop where
  nx : ∀ σ H δ μ, B.S σ H δ μ → Δ.nx δ μ → D.nx σ H
  rt : ∀ v H d μ σ δ, B.S σ H δ μ → Rep K μ H v d → Δ.rt d μ → D.rt v H
  bk : ∀ σ H δ μ, B.S σ H δ μ → Δ.bk δ μ → D.bk σ H
  ct : ∀ σ H δ μ, B.S σ H δ μ → Δ.ct δ μ → D.ct σ H
def SS (ts : TS) (φ : DSt) : Prop := ∀ (D : Ends) (Δ : DEnds) (σ : L2.St) (H : Hp) (δ : DEnv) (μ : Sto), EO B D Δ → B.S σ H δ μ → φ B.Ψ Δ δ μ → ts D σ H
end
section
variable {K : Fg} {B : Bx K} {te ta tb tc : TE} {φ φa φb φc : DE} {tt tu : TT} {θ ϑ : DT} {tas : TA} {ψ : DA} {ts tz : TS} {ω ζ : DSt}
def dVar (i : Nat) : DE := fun _ δ μ Φ => ∃ d, δ[i]? = some (some d) ∧ Φ d μ
theorem sVar {i : Nat} : SE B (tVar i) (dVar i) := fun σ H δ μ Φ Q S h k => by
  obtain ⟨d, e, h⟩ := h
  obtain ⟨v, ev, r⟩ := S.env.at_ i d e
  exact ⟨v, ev, k v H d μ S .refl r h⟩
/-- a name that holds a list's handle, read as the list: it changes no more -/
def dRest (i : Nat) : DE := fun _ δ μ Φ => ∃ a ds, δ[i]? = some (some (.hd (.ref a))) ∧ μ a = some (.lst ds) ∧ Φ (.lst ds) (sset μ a (.frz ds))
theorem Rep.hd_inv {K : Fg} {μ : Sto} {H : Hp} {v w : V} (h : Rep K μ H v (.hd w)) : v = w := by cases h; rfl
def dC (d : D) : DE := fun _ _ μ Φ => Φ d μ
theorem sC {v : V} {d : D} (r : ∀ K μ H, Rep K μ H v d) : SE B (tC v) (dC d) := fun σ H δ μ Φ Q S h k => k v H d μ S .refl (r _ _ _) h
theorem sInt {i : Int} : SE B (tC (.int i)) (dC (.int i)) := sC fun _ _ _ => .int i .nil
theorem sStr {x : Str} : SE B (tC (.str x)) (dC (.str x)) := sC fun _ _ _ => .str x .nil
theorem sBl {b : Bool} : SE B (tC (.bl b)) (dC (.bl b)) := sC fun _ _ _ => .bl b .nil
theorem sNon : SE B (tC .non) (dC .non) := sC fun _ _ _ => .non .nil
theorem sHd {v : V} : SE B (tC v) (dC (.hd v)) := sC fun _ _ _ => .hd v .nil
/-- an operator by data -/
abbrev DO := D → D → Sto → DK → Prop
def RO (K : Fg) (r : R2) (ρ : DO) : Prop := ∀ (H : Hp) (μ : Sto) (v w : V) (d e : D) (Φ : DK) (Q : VK), StoOk K μ H → Rep K μ H v d → Rep K μ H w e → ρ d e μ Φ →
  (∀ z H' c μ', Evo μ H μ' H' → StoOk K μ' H' → Rep K μ' H' z c → Φ c μ' → Q z H') → r v w H Q
def dOp (ρ : DO) (φa φb : DE) : DE := fun Ψ δ μ Φ => φa Ψ δ μ fun x μ1 => φb Ψ δ μ1 fun y μ2 => ρ x y μ2 Φ
theorem sOp {r : R2} {ρ : DO} (h : RO K r ρ) (a : SE B ta φa) (b : SE B tb φb) : SE B (tOp r ta tb) (dOp ρ φa φb) := fun σ H δ μ Φ Q S q k =>
  a σ H δ μ _ _ S q fun v H1 x μ1 S1 e1 r1 q1 => b σ H1 δ μ1 _ _ S1 q1 fun w H2 y μ2 S2 e2 r2 q2 =>
    h H2 μ2 v w x y Φ Q S2.sto (Reps.mono e2 r1) r2 q2 fun z H3 c μ3 e3 s3 r3 p => k z H3 c μ3 (S2.step e3 s3) ((e1.trans e2).trans e3) r3 p
abbrev DU := D → Sto → DK → Prop
def RU (K : Fg) (r : V → Hp → VK → Prop) (ρ : DU) : Prop := ∀ (H : Hp) (μ : Sto) (v : V) (d : D) (Φ : DK) (Q : VK), StoOk K μ H → Rep K μ H v d → ρ d μ Φ →
  (∀ z H' c μ', Evo μ H μ' H' → StoOk K μ' H' → Rep K μ' H' z c → Φ c μ' → Q z H') → r v H Q
def dUn (ρ : DU) (φa : DE) : DE := fun Ψ δ μ Φ => φa Ψ δ μ fun x μ1 => ρ x μ1 Φ
theorem sUn {r : V → Hp → VK → Prop} {ρ : DU} (h : RU K r ρ) (a : SE B ta φa) : SE B (tUn r ta) (dUn ρ φa) := fun σ H δ μ Φ Q S q k =>
  a σ H δ μ _ _ S q fun v H1 x μ1 S1 e1 r1 q1 => h H1 μ1 v x Φ Q S1.sto r1 q1 fun z H3 c μ3 e3 s3 r3 p => k z H3 c μ3 (S1.step e3 s3) (e1.trans e3) r3 p
def dTest (φ : DE) : DT := fun Ψ δ μ Φ => φ Ψ δ μ fun x μ1 => ∃ b, x = .bl b ∧ Φ b μ1
theorem Rep.bl_inv {K : Fg} {μ : Sto} {H : Hp} {v : V} {b : Bool} (h : Rep K μ H v (.bl b)) : v = .bl b := by cases h; rfl
theorem Rep.int_inv {K : Fg} {μ : Sto} {H : Hp} {v : V} {b : Int} (h : Rep K μ H v (.int b)) : v = .int b := by cases h; rfl
theorem Rep.str_inv {K : Fg} {μ : Sto} {H : Hp} {v : V} {b : Str} (h : Rep K μ H v (.str b)) : v = .str b := by cases h; rfl
theorem Rep.non_inv {K : Fg} {μ : Sto} {H : Hp} {v : V} (h : Rep K μ H v .non) : v = .non := by cases h; rfl
theorem sTest (a : SE B ta φa) : ST B (tTest ta) (dTest φa) := fun σ H δ μ Φ Q S q k =>
  a σ H δ μ _ _ S q fun v H1 x μ1 S1 e1 r1 q1 => by
    obtain ⟨b, rfl, q2⟩ := q1
    obtain rfl := Rep.bl_inv r1
    exact ⟨b, rfl, k b H1 μ1 S1 e1 q2⟩
theorem sB (a : SE B ta φa) : ST B (tB ta) (dTest φa) := fun σ H δ μ Φ Q S q k =>
  a σ H δ μ _ _ S q fun v H1 x μ1 S1 e1 r1 q1 => by
    obtain ⟨b, rfl, q2⟩ := q1
    obtain rfl := Rep.bl_inv r1
    exact ⟨b, rfl, k b H1 μ1 S1 e1 q2⟩
def dAnd (θ ϑ : DT) : DT := fun Ψ δ μ Φ => θ Ψ δ μ fun b μ1 => (b = true → ϑ Ψ δ μ1 Φ) ∧ (b = false → Φ false μ1)
def dOr (θ ϑ : DT) : DT := fun Ψ δ μ Φ => θ Ψ δ μ fun b μ1 => (b = true → Φ true μ1) ∧ (b = false → ϑ Ψ δ μ1 Φ)
def dNot (θ : DT) : DT := fun Ψ δ μ Φ => θ Ψ δ μ fun b μ1 => Φ (!b) μ1
theorem sAnd (a : ST B tt θ) (b : ST B tu ϑ) : ST B (tAnd tt tu) (dAnd θ ϑ) := fun σ H δ μ Φ Q S q k =>
  a σ H δ μ _ _ S q fun v H1 μ1 S1 e1 q1 => by
    cases v with
    | true => exact b σ H1 δ μ1 _ _ S1 (q1.1 rfl) fun w H2 μ2 S2 e2 q2 => k w H2 μ2 S2 (e1.trans e2) q2
    | false => exact k false H1 μ1 S1 e1 (q1.2 rfl)
theorem sOr (a : ST B tt θ) (b : ST B tu ϑ) : ST B (tOr tt tu) (dOr θ ϑ) := fun σ H δ μ Φ Q S q k =>
  a σ H δ μ _ _ S q fun v H1 μ1 S1 e1 q1 => by
    cases v with
    | true => exact k true H1 μ1 S1 e1 (q1.1 rfl)
    | false => exact b σ H1 δ μ1 _ _ S1 (q1.2 rfl) fun w H2 μ2 S2 e2 q2 => k w H2 μ2 S2 (e1.trans e2) q2
theorem sNot (a : ST B tt θ) : ST B (tNot tt) (dNot θ) := fun σ H δ μ Φ Q S q k =>
  a σ H δ μ _ _ S q fun v H1 μ1 S1 e1 q1 => k (!v) H1 μ1 S1 e1 q1
def dAndV (φa φb : DE) : DE := fun Ψ δ μ Φ => φa Ψ δ μ fun x μ1 => ∃ b, x = .bl b ∧ (b = true → φb Ψ δ μ1 Φ) ∧ (b = false → Φ (.bl false) μ1)
def dOrV (φa φb : DE) : DE := fun Ψ δ μ Φ => φa Ψ δ μ fun x μ1 => ∃ b, x = .bl b ∧ (b = true → Φ (.bl true) μ1) ∧ (b = false → φb Ψ δ μ1 Φ)
def dNotV (φa : DE) : DE := fun Ψ δ μ Φ => φa Ψ δ μ fun x μ1 => ∃ b, x = .bl b ∧ Φ (.bl (!b)) μ1
theorem sAndV (a : SE B ta φa) (b : SE B tb φb) : SE B (tAndV ta tb) (dAndV φa φb) := fun σ H δ μ Φ Q S q k =>
  a σ H δ μ _ _ S q fun v H1 x μ1 S1 e1 r1 q1 => by
    obtain ⟨c, rfl, q2, q3⟩ := q1
    obtain rfl := Rep.bl_inv r1
    refine ⟨c, rfl, ?_⟩
    cases c with
    | true => exact b σ H1 δ μ1 _ _ S1 (q2 rfl) fun w H2 y μ2 S2 e2 r2 p => k w H2 y μ2 S2 (e1.trans e2) r2 p
    | false => exact k _ H1 _ μ1 S1 e1 (.bl false .nil) (q3 rfl)
theorem sNotV (a : SE B ta φa) : SE B (tNotV ta) (dNotV φa) := fun σ H δ μ Φ Q S q k =>
  a σ H δ μ _ _ S q fun v H1 x μ1 S1 e1 r1 q1 => by
    obtain ⟨c, rfl, q2⟩ := q1
    obtain rfl := Rep.bl_inv r1
    exact ⟨c, rfl, k _ H1 _ μ1 S1 e1 (.bl _ .nil) q2⟩
def dIf (θ : DT) (φa φb : DE) : DE := fun Ψ δ μ Φ => θ Ψ δ μ fun b μ1 => (b = true → φa Ψ δ μ1 Φ) ∧ (b = false → φb Ψ δ μ1 Φ)
theorem sIf (c : ST B tt θ) (a : SE B ta φa) (b : SE B tb φb) : SE B (tIf tt ta tb) (dIf θ φa φb) := fun σ H δ μ Φ Q S q k =>
  c σ H δ μ _ _ S q fun v H1 μ1 S1 e1 q1 => by
    cases v with
    | true => exact a σ H1 δ μ1 _ _ S1 (q1.1 rfl) fun w H2 y μ2 S2 e2 r2 p => k w H2 y μ2 S2 (e1.trans e2) r2 p
    | false => exact b σ H1 δ μ1 _ _ S1 (q1.2 rfl) fun w H2 y μ2 S2 e2 r2 p => k w H2 y μ2 S2 (e1.trans e2) r2 p
/-- a comparison of three -/
def dChain (ρ ρ' : DO) (φa φb φc : DE) : DE := fun Ψ δ μ Φ => φa Ψ δ μ fun x μ1 => φb Ψ δ μ1 fun y μ2 => ρ x y μ2 fun z μ3 => ∃ b, z = .bl b ∧ (b = true → φc Ψ δ μ3 fun u μ4 => ρ' y u μ4 Φ) ∧ (b = false → Φ (.bl false) μ3)
theorem sChain {r r' : R2} {ρ ρ' : DO} (h : RO K r ρ) (h' : RO K r' ρ') (a : SE B ta φa) (b : SE B tb φb) (c : SE B tc φc) : SE B (tChain r r' ta tb tc) (dChain ρ ρ' φa φb φc) := fun σ H δ μ Φ Q S q k =>
  a σ H δ μ _ _ S q fun v H1 x μ1 S1 e1 r1 q1 => b σ H1 δ μ1 _ _ S1 q1 fun w H2 y μ2 S2 e2 r2 q2 =>
    h H2 μ2 v w x y _ _ S2.sto (Reps.mono e2 r1) r2 q2 fun z H3 d μ3 e3 s3 r3 p => by
      obtain ⟨i, rfl, p1, p2⟩ := p
      obtain rfl := Rep.bl_inv r3
      refine ⟨i, rfl, ?_⟩
      have S3 := S2.step e3 s3
      cases i with
      | true =>
        exact c σ H3 δ μ3 _ _ S3 (p1 rfl) fun w4 H4 y4 μ4 S4 e4 r4 p4 =>
          h' H4 μ4 w w4 y y4 _ _ S4.sto (Reps.mono (e3.trans e4) r2) r4 p4 fun z5 H5 d5 μ5 e5 s5 r5 p5 => k z5 H5 d5 μ5 (S4.step e5 s5) (((e1.trans e2).trans e3).trans (e4.trans e5)) r5 p5
      | false => exact k _ H3 _ μ3 S3 ((e1.trans e2).trans e3) (.bl false .nil) (p2 rfl)
def dNil : DA := fun _ _ μ Φ => Φ [] μ
def dCons (φ : DE) (ψ : DA) : DA := fun Ψ δ μ Φ => φ Ψ δ μ fun x μ1 => ψ Ψ δ μ1 fun xs μ2 => Φ (x :: xs) μ2
theorem sNil : SA B tNil dNil := fun σ H δ μ Φ Q S q k => k [] H [] μ S .refl .nil q
theorem sCons (a : SE B ta φa) (b : SA B tas ψ) : SA B (tCons ta tas) (dCons φa ψ) := fun σ H δ μ Φ Q S q k =>
  a σ H δ μ _ _ S q fun v H1 x μ1 S1 e1 r1 q1 => b σ H1 δ μ1 _ _ S1 q1 fun vs H2 xs μ2 S2 e2 r2 q2 => k _ H2 _ μ2 S2 (e1.trans e2) (.cons (Reps.mono e2 r1) r2) q2
def dTup (ψ : DA) : DE := fun Ψ δ μ Φ => ψ Ψ δ μ fun xs μ1 => xs.length ≤ 100000 ∧ Φ (.tup xs) μ1
theorem rep_tup {K : Fg} {μ : Sto} {H : Hp} {p : Addr} {vs : List V} {ds : List D} (s : StoOk K μ H) (hp : H p = none) (r : Reps K μ H vs ds) : Rep K μ (upd H p (.tup vs)) (.ref p) (.pr ds) :=
  .pr ⟨.inl upd_same, .new s hp⟩ (r.mono (.new hp)) .nil
theorem rep_tupN {K : Fg} {μ : Sto} {H : Hp} {p : Addr} {o : Obj} {vs : List V} {ds : List D} (s : StoOk K μ H) (hp : H p = none) (ho : o.dict = none) (hc : o.cls = .type "tuple") (r : Reps K μ H vs ds) : Rep K μ (upd H p (.frz o (.tup vs))) (.ref p) (.tup ds) :=
  .tup (.inl ⟨o, upd_same, ho, hc, .new s hp⟩) (r.mono (.new hp)) .nil
theorem rep_lst {K : Fg} {μ : Sto} {H : Hp} {p : Addr} {vs : List V} {ds : List D} (s : StoOk K μ H) (hp : H p = none) (r : Reps K μ H vs ds) : Rep K μ (upd H p (.lst vs)) (.ref p) (.lst ds) :=
  .lst ⟨upd_same, .new s hp⟩ (r.mono (.new hp)) .nil
theorem sz {n : Nat} (h : n ≤ 100000) : n ≤ sizeLine := Nat.le_trans h (by decide)
theorem sTup (b : SA B tas ψ) : SE B (tTupN tas) (dTup ψ) := fun σ H δ μ Φ Q S q k =>
  b σ H δ μ _ _ S q fun vs H1 xs μ1 S1 e1 r1 q1 => ⟨sz (by rw [r1.length]; exact q1.1), fun p o ho hc hp => k _ _ _ μ1 (S1.step (.new hp) (S1.sto.new hp)) (e1.trans (.new hp)) (rep_tupN S1.sto hp ho hc r1) q1.2⟩
def dLst (ψ : DA) : DE := fun Ψ δ μ Φ => ψ Ψ δ μ fun xs μ1 => xs.length ≤ 100000 ∧ Φ (.lst xs) μ1
theorem sLst (b : SA B tas ψ) : SE B (tLst tas) (dLst ψ) := fun σ H δ μ Φ Q S q k =>
  b σ H δ μ _ _ S q fun vs H1 xs μ1 S1 e1 r1 q1 => ⟨sz (by rw [r1.length]; exact q1.1), fun p hp => k _ _ _ μ1 (S1.step (.new hp) (S1.sto.new hp)) (e1.trans (.new hp)) (rep_lst S1.sto hp r1) q1.2⟩
/-- a list that will change: its handle -/
def dOwn (ψ : DA) : DE := fun Ψ δ μ Φ => ψ Ψ δ μ fun xs μ1 => xs.length ≤ 100000 ∧ ∀ p, μ1 p = none → Φ (.hd (.ref p)) (sset μ1 p (.lst xs))
theorem sto_own {K : Fg} {μ : Sto} {H : Hp} {p : Addr} {vs : List V} {ds : List D} (s : StoOk K μ H) (hp : H p = none) (r : Reps K μ H vs ds) : StoOk K (sset μ p (.lst ds)) (upd H p (.lst vs)) :=
  s.cell (.newC s hp) ⟨vs, upd_same, r.mono (.newC s hp)⟩
theorem sOwn (b : SA B tas ψ) : SE B (tLst tas) (dOwn ψ) := fun σ H δ μ Φ Q S q k =>
  b σ H δ μ _ _ S q fun vs H1 xs μ1 S1 e1 r1 q1 => ⟨sz (by rw [r1.length]; exact q1.1), fun p hp =>
    k _ _ _ _ (S1.step (.newC S1.sto hp) (sto_own S1.sto hp r1)) (e1.trans (.newC S1.sto hp)) (.hd _ .nil) (q1.2 p (S1.sto.fresh hp))⟩
def dSeq (ω ζ : DSt) : DSt := fun Ψ Δ δ μ => ω Ψ { Δ with nx := ζ Ψ Δ } δ μ
theorem sSeq (a : SS B ts ω) (b : SS B tz ζ) : SS B (tSeq ts tz) (dSeq ω ζ) := fun D Δ σ H δ μ E S q =>
  a { D with nx := tz D } { Δ with nx := ζ B.Ψ Δ } σ H δ μ ⟨fun σ' H' δ' μ' S' q' => b D Δ σ' H' δ' μ' E S' q', E.rt, E.bk, E.ct⟩ S q
def dNext : DSt := fun _ Δ δ μ => Δ.nx δ μ
theorem sNext : SS B tNext dNext := fun D Δ σ H δ μ E S q => E.nx σ H δ μ S q
def dBreak : DSt := fun _ Δ δ μ => Δ.bk δ μ
theorem sBreak : SS B tBreak dBreak := fun D Δ σ H δ μ E S q => E.bk σ H δ μ S q
def dCont : DSt := fun _ Δ δ μ => Δ.ct δ μ
def dDrop (φ : DE) : DSt := fun Ψ Δ δ μ => φ Ψ δ μ fun _ μ1 => Δ.nx δ μ1
def dRet (φ : DE) : DSt := fun Ψ Δ δ μ => φ Ψ δ μ Δ.rt
theorem sRet (a : SE B ta φa) : SS B (tRet ta) (dRet φa) := fun D Δ σ H δ μ E S q => a σ H δ μ _ _ S q fun v H1 x μ1 S1 e1 r1 q1 => E.rt v H1 x μ1 σ δ S1 r1 q1
def dRetN : DSt := fun _ Δ δ μ => Δ.rt .non μ
def dIfS (θ : DT) (ω ζ : DSt) : DSt := fun Ψ Δ δ μ => θ Ψ δ μ fun b μ1 => (b = true → ω Ψ Δ δ μ1) ∧ (b = false → ζ Ψ Δ δ μ1)
theorem sIfS (c : ST B tt θ) (a : SS B ts ω) (b : SS B tz ζ) : SS B (tIfS tt ts tz) (dIfS θ ω ζ) := fun D Δ σ H δ μ E S q =>
  c σ H δ μ _ _ S q fun v H1 μ1 S1 e1 q1 => by
    cases v with
    | true => exact a D Δ σ H1 δ μ1 E S1 (q1.1 rfl)
    | false => exact b D Δ σ H1 δ μ1 E S1 (q1.2 rfl)
/-- targets -/
abbrev DG := D → DEnv → Sto → (DEnv → Sto → Prop) → Prop
def SG {K : Fg} (B : Bx K) (g : TG) (γ : DG) : Prop := ∀ (v : V) (d : D) (σ : L2.St) (H : Hp) (δ : DEnv) (μ : Sto) (Φ : DEnv → Sto → Prop) (Q : L2.St → Hp → Prop), B.S σ H δ μ → Rep K μ H v d → γ d δ μ Φ →
  (∀ σ' H' δ' μ', B.S σ' H' δ' μ' → Evo μ H μ' H' → Φ δ' μ' → Q σ' H') → g v σ H Q
def SGs {K : Fg} (B : Bx K) (g : TGs) (γ : List D → DEnv → Sto → (DEnv → Sto → Prop) → Prop) : Prop := ∀ (v : List V) (d : List D) (σ : L2.St) (H : Hp) (δ : DEnv) (μ : Sto) (Φ : DEnv → Sto → Prop) (Q : L2.St → Hp → Prop), B.S σ H δ μ → Reps K μ H v d → γ d δ μ Φ →
  (∀ σ' H' δ' μ', B.S σ' H' δ' μ' → Evo μ H μ' H' → Φ δ' μ' → Q σ' H') → g v σ H Q
def eName (i : Nat) : DG := fun d δ μ Φ => Φ (δ.set i (some d)) μ
theorem sName {i : Nat} : SG B (gName i) (eName i) := fun v d σ H δ μ Φ Q S r q k => k _ H _ μ (S.set r i) .refl q
def eNil : List D → DEnv → Sto → (DEnv → Sto → Prop) → Prop := fun ds δ μ Φ => ds = [] ∧ Φ δ μ
def eCons (γ : DG) (η : List D → DEnv → Sto → (DEnv → Sto → Prop) → Prop) : List D → DEnv → Sto → (DEnv → Sto → Prop) → Prop := fun ds δ μ Φ => ∃ d r, ds = d :: r ∧ γ d δ μ fun δ' μ' => η r δ' μ' Φ
theorem sgNil : SGs B gNil eNil := fun v d σ H δ μ Φ Q S r q k => by
  obtain ⟨rfl, q⟩ := q
  cases r
  exact ⟨rfl, k σ H δ μ S .refl q⟩
theorem sgCons {g : TG} {gs : TGs} {γ : DG} {η : List D → DEnv → Sto → (DEnv → Sto → Prop) → Prop} (a : SG B g γ) (b : SGs B gs η) : SGs B (gCons g gs) (eCons γ η) := fun v d σ H δ μ Φ Q S r q k => by
  obtain ⟨x, xs, rfl, q⟩ := q
  cases v with
  | nil => have := r.length; simp at this
  | cons v vs =>
    exact ⟨v, vs, rfl, a v x σ H δ μ _ _ S r.split.1 q fun σ1 H1 δ1 μ1 S1 e1 q1 => b vs xs σ1 H1 δ1 μ1 _ _ S1 (r.split.2.mono e1) q1 fun σ2 H2 δ2 μ2 S2 e2 q2 => k σ2 H2 δ2 μ2 S2 (e1.trans e2) q2⟩
def tpl : D → Option (List D)
  | .tup ds => some ds
  | .pr ds => some ds
  | _ => none
def eTup (n : Nat) (η : List D → DEnv → Sto → (DEnv → Sto → Prop) → Prop) : DG := fun d δ μ Φ => ∃ ds, tpl d = some ds ∧ ds.length = n ∧ η ds δ μ Φ
theorem Rep.tup_inv {K : Fg} {μ : Sto} {H : Hp} {v : V} {ds : List D} (h : Rep K μ H v (.tup ds)) : ∃ a vs, v = .ref a ∧ TupAt K μ H a vs ∧ Reps K μ H vs ds := by
  cases h with
  | tup h1 h2 _ => exact ⟨_, _, rfl, h1, h2⟩
theorem Rep.lst_inv {K : Fg} {μ : Sto} {H : Hp} {v : V} {ds : List D} (h : Rep K μ H v (.lst ds)) : ∃ a vs, v = .ref a ∧ LstAt μ H a vs ∧ Reps K μ H vs ds := by
  cases h with
  | lst h1 h2 _ => exact ⟨_, _, rfl, h1, h2⟩
theorem Rep.tpl_inv {K : Fg} {μ : Sto} {H : Hp} {v : V} {d : D} {ds : List D} (h : Rep K μ H v d) (e : tpl d = some ds) : ∃ a vs, v = .ref a ∧ SqT K H a vs ∧ Reps K μ H vs ds := by
  cases h with
  | tup h1 h2 _ => cases e; exact ⟨_, _, rfl, h1.sq, h2⟩
  | pr h1 h2 _ => cases e; exact ⟨_, _, rfl, h1.sq, h2⟩
  | _ => cases e
theorem sgTup {n : Nat} {gs : TGs} {η : List D → DEnv → Sto → (DEnv → Sto → Prop) → Prop} (b : SGs B gs η) : SG B (gTup K n gs) (eTup n η) := fun v d σ H δ μ Φ Q S r q k => by
  obtain ⟨ds, ed, hn, q⟩ := q
  obtain ⟨a, vs, rfl, ht, hr⟩ := Rep.tpl_inv r ed
  exact ⟨a, vs, rfl, ht, by rw [hr.length]; exact hn, b vs ds σ H δ μ Φ Q S hr q k⟩
def dAsg (φ : DE) (γ : DG) : DSt := fun Ψ Δ δ μ => φ Ψ δ μ fun x μ1 => γ x δ μ1 Δ.nx
theorem sAsg {g : TG} {γ : DG} (a : SE B ta φa) (b : SG B g γ) : SS B (tAsg ta g) (dAsg φa γ) := fun D Δ σ H δ μ E S q =>
  a σ H δ μ _ _ S q fun v H1 x μ1 S1 e1 r1 q1 => b v x σ H1 δ μ1 _ _ S1 r1 q1 fun σ2 H2 δ2 μ2 S2 e2 q2 => E.nx σ2 H2 δ2 μ2 S2 q2
/-- x += e -/
def dAug (i : Nat) (φ : DE) (ρ : DO) : DSt := fun Ψ Δ δ μ => ∃ x, δ[i]? = some (some x) ∧ φ Ψ δ μ fun y μ1 => ρ x y μ1 fun z μ2 => Δ.nx (δ.set i (some z)) μ2
/-- while, by a word and a number that falls -/
def dWhile (θ : DT) (ω : DSt) : DSt := fun Ψ Δ δ μ => ∃ W : Nat → DEnv → Sto → Prop, (∃ m, W m δ μ) ∧ ∀ m δ μ, W m δ μ → θ Ψ δ μ fun b μ1 =>
  (b = true → ω Ψ { Δ with nx := fun δ' μ' => ∃ m', m' < m ∧ W m' δ' μ', ct := fun δ' μ' => ∃ m', m' < m ∧ W m' δ' μ', bk := Δ.nx } δ μ1) ∧ (b = false → Δ.nx δ μ1)
end
end DW
set_option Elab.async false
set_option linter.all false
set_option maxRecDepth 100000
namespace DW
open PySem PySem.Spec L2
section
variable {K : Fg}
def oI (C : Int → Int → Prop) (g : Int → Int → D) : DO := fun x y μ Φ => ∃ i j, x = .int i ∧ y = .int j ∧ C i j ∧ Φ (g i j) μ
def oI0 (g : Int → Int → D) : DO := fun x y μ Φ => ∃ i j, x = .int i ∧ y = .int j ∧ Φ (g i j) μ
theorem roI {C : Int → Int → Prop} {g : Int → Int → V} {g' : Int → Int → D} (hg : ∀ i j μ H, Rep K μ H (g i j) (g' i j)) : RO K (rI C g) (oI C g') := fun H μ v w d e Φ Q s r1 r2 q k => by
  obtain ⟨i, j, rfl, rfl, hc, q⟩ := q
  exact ⟨i, j, Rep.int_inv r1, Rep.int_inv r2, hc, k _ H _ μ .refl s (hg i j μ H) q⟩
theorem roI0 {g : Int → Int → V} {g' : Int → Int → D} (hg : ∀ i j μ H, Rep K μ H (g i j) (g' i j)) : RO K (rI0 g) (oI0 g') := fun H μ v w d e Φ Q s r1 r2 q k => by
  obtain ⟨i, j, rfl, rfl, q⟩ := q
  exact ⟨i, j, Rep.int_inv r1, Rep.int_inv r2, k _ H _ μ .refl s (hg i j μ H) q⟩
theorem roInt {C : Int → Int → Prop} {g : Int → Int → Int} : RO K (rI C fun i j => .int (g i j)) (oI C fun i j => .int (g i j)) := roI fun _ _ _ _ => .int _ .nil
theorem roInt0 {g : Int → Int → Int} : RO K (rI0 fun i j => .int (g i j)) (oI0 fun i j => .int (g i j)) := roI0 fun _ _ _ _ => .int _ .nil
theorem roBl0 {g : Int → Int → Bool} : RO K (rI0 fun i j => .bl (g i j)) (oI0 fun i j => .bl (g i j)) := roI0 fun _ _ _ _ => .bl _ .nil
def uI (g : Int → Int) : DU := fun x μ Φ => ∃ i, x = .int i ∧ Φ (.int (g i)) μ
theorem ruInt {g : Int → Int} : RU K (rU fun i => .int (g i)) (uI g) := fun H μ v d Φ Q s r q k => by
  obtain ⟨i, rfl, q⟩ := q
  exact ⟨i, Rep.int_inv r, k _ H _ μ .refl s (.int _ .nil) q⟩
def sEq : D → D → Option Bool
  | .int i, .int j => some (decide (i = j))
  | .str i, .str j => some (decide (i = j))
  | .bl i, .bl j => some (decide (i = j))
  | .non, .non => some true
  | .non, .int _ => some false
  | .int _, .non => some false
  | .non, .bl _ => some false
  | .bl _, .non => some false
  | .non, .str _ => some false
  | .str _, .non => some false
  | .int _, .str _ => some false
  | .str _, .int _ => some false
  | .bl _, .str _ => some false
  | .str _, .bl _ => some false
  | _, _ => none
theorem sEq_ok {μ : Sto} {H : Hp} {v w : V} {d e : D} {b : Bool} (r1 : Rep K μ H v d) (r2 : Rep K μ H w e) (h : sEq d e = some b) : scal v w = true ∧ decide (v = w) = b := by
  cases d <;> cases e <;> (first | (unfold sEq at h; cases h; done) | skip) <;> cases r1 <;> cases r2 <;> (injection h with h; subst h; first | exact ⟨rfl, by simp⟩ | exact ⟨rfl, rfl⟩)
def oEq : DO := fun x y μ Φ => ∃ b, sEq x y = some b ∧ Φ (.bl b) μ
def oNe : DO := fun x y μ Φ => ∃ b, sEq x y = some b ∧ Φ (.bl (!b)) μ
theorem roEq : RO K rEq oEq := fun H μ v w d e Φ Q s r1 r2 q k => by
  obtain ⟨b, hb, q⟩ := q
  obtain ⟨h1, h2⟩ := sEq_ok r1 r2 hb
  exact ⟨h1, by rw [h2]; exact k _ H _ μ .refl s (.bl _ .nil) q⟩
theorem roNe : RO K rNe oNe := fun H μ v w d e Φ Q s r1 r2 q k => by
  obtain ⟨b, hb, q⟩ := q
  obtain ⟨h1, h2⟩ := sEq_ok r1 r2 hb
  exact ⟨h1, by rw [h2]; exact k _ H _ μ .refl s (.bl _ .nil) q⟩
def isNone : D → Option Bool
  | .non => some true
  | .bl _ => some false
  | .int _ => some false
  | .str _ => some false
  | .tup _ => some false
  | .lst _ => some false
  | .obj _ _ _ => some false
  | _ => none
theorem isNone_ok {μ : Sto} {H : Hp} {v : V} {d : D} {b : Bool} (r1 : Rep K μ H v d) (h : isNone d = some b) : decide (v = .non) = b := by
  cases d <;> unfold isNone at h <;> first | (cases h; done) | (cases h; cases r1; rfl) | (cases h; cases r1; simp)
def oIsN : DO := fun x y μ Φ => y = .non ∧ ∃ b, isNone x = some b ∧ Φ (.bl b) μ
def oNotN : DO := fun x y μ Φ => y = .non ∧ ∃ b, isNone x = some b ∧ Φ (.bl (!b)) μ
theorem roIsN : RO K (fun x y H Q => y = .non ∧ Q (.bl (decide (x = .non))) H) oIsN := fun H μ v w d e Φ Q s r1 r2 q k => by
  obtain ⟨rfl, b, hb, q⟩ := q
  exact ⟨Rep.non_inv r2, by rw [isNone_ok r1 hb]; exact k _ H _ μ .refl s (.bl _ .nil) q⟩
theorem roNotN : RO K (fun x y H Q => y = .non ∧ Q (.bl (!decide (x = .non))) H) oNotN := fun H μ v w d e Φ Q s r1 r2 q k => by
  obtain ⟨rfl, b, hb, q⟩ := q
  exact ⟨Rep.non_inv r2, by rw [isNone_ok r1 hb]; exact k _ H _ μ .refl s (.bl _ .nil) q⟩
def flatD : D → Bool
  | .non => true
  | .bl _ => true
  | .int _ => true
  | .str _ => true
  | _ => false
def eqF : D → D → Bool
  | .non, .non => true
  | .bl a, .bl b => a == b
  | .bl a, .int b => (if a then 1 else 0) == b
  | .int a, .bl b => a == (if b then 1 else 0)
  | .int a, .int b => a == b
  | .str a, .str b => a == b
  | _, _ => false
theorem flatD_ok {μ : Sto} {H : Hp} {v : V} {d : D} (r : Rep K μ H v d) (h : flatD d = true) : flatV v = true := by
  cases d <;> (first | (exact absurd h Bool.false_ne_true) | skip) <;> cases r <;> rfl
theorem eqF_ok {μ : Sto} {H : Hp} {v w : V} {d e : D} (r1 : Rep K μ H v d) (r2 : Rep K μ H w e) (f1 : flatD d = true) (f2 : flatD e = true) : eqV v w = eqF d e := by
  cases d <;> (first | (exact absurd f1 Bool.false_ne_true) | skip) <;> cases r1 <;> cases e <;> (first | (exact absurd f2 Bool.false_ne_true) | skip) <;> cases r2 <;> rfl
theorem flatAll_ok {μ : Sto} {H : Hp} : ∀ {vs : List V} {ds : List D}, Reps K μ H vs ds → ds.all flatD = true → vs.all flatV = true
  | [], [], _, _ => rfl
  | [], _ :: _, r, _ => by have := r.length; simp at this
  | _ :: _, [], r, _ => by have := r.length; simp at this
  | v :: vs, d :: ds, r, h => by
    rw [List.all_cons, Bool.and_eq_true] at h ⊢
    exact ⟨flatD_ok r.split.1 h.1, flatAll_ok r.split.2 h.2⟩
def inD (x : D) (ds : List D) : Bool := ds.any fun y => eqF y x
theorem inD_ok {μ : Sto} {H : Hp} {v : V} {d : D} (r1 : Rep K μ H v d) (f1 : flatD d = true) : ∀ {vs : List V} {ds : List D}, Reps K μ H vs ds → ds.all flatD = true → inV v vs = inD d ds
  | [], [], _, _ => rfl
  | [], _ :: _, r, _ => by have := r.length; simp at this
  | _ :: _, [], r, _ => by have := r.length; simp at this
  | w :: vs, e :: ds, r, h => by
    rw [List.all_cons, Bool.and_eq_true] at h
    have ih := inD_ok r1 f1 r.split.2 h.2
    unfold inV inD at ih ⊢
    rw [List.any_cons, List.any_cons, eqF_ok r.split.1 r1 h.1 f1, ih]
/-- the items of a tuple, of a list, of a handle's list -/
inductive Items (μ : Sto) : D → List D → Prop
  | tup (ds) : Items μ (.tup ds) ds
  | lst (ds) : Items μ (.lst ds) ds
  | own {a ds} : μ a = some (.lst ds) → Items μ (.hd (.ref a)) ds
  | frz {a ds} : μ a = some (.frz ds) → Items μ (.hd (.ref a)) ds
  | scr (ns) : Items μ (.scr ns) (ns.map .int)
theorem reps_ints {μ : Sto} {H : Hp} : ∀ (ns : List Int), Reps K μ H (ns.map V.int) (ns.map D.int)
  | [] => .nil
  | n :: ns => .int n (reps_ints ns)
theorem Items.ok {μ : Sto} {H : Hp} {v : V} {d : D} {ds : List D} (s : StoOk K μ H) (r : Rep K μ H v d) (h : Items μ d ds) : ∃ a vs, v = .ref a ∧ (SqL K H a vs ∨ SqT K H a vs) ∧ Reps K μ H vs ds := by
  cases h with
  | tup => obtain ⟨a, vs, rfl, h1, h2⟩ := Rep.tup_inv r; exact ⟨a, vs, rfl, .inr h1.sq, h2⟩
  | lst => obtain ⟨a, vs, rfl, h1, h2⟩ := Rep.lst_inv r; exact ⟨a, vs, rfl, .inl h1.sq, h2⟩
  | own h => obtain rfl := Rep.hd_inv r; obtain ⟨vs, h1, h2⟩ := s _ _ h; exact ⟨_, vs, rfl, .inl (.of h1), h2⟩
  | frz h => obtain rfl := Rep.hd_inv r; obtain ⟨vs, h1, h2⟩ := s _ _ h; exact ⟨_, vs, rfl, .inl (.of h1), h2⟩
  | scr ns =>
    cases r with
    | scr h1 _ => exact ⟨_, _, rfl, .inl h1.sq, reps_ints ns⟩
def oIn (neg : Bool) : DO := fun x y μ Φ => ∃ ds, Items μ y ds ∧ flatD x = true ∧ ds.all flatD = true ∧ Φ (.bl (if neg then !inD x ds else inD x ds)) μ
theorem roIn {neg : Bool} : RO K (rIn K neg) (oIn neg) := fun H μ v w d e Φ Q s r1 r2 q k => by
  obtain ⟨ds, hi, f1, f2, q⟩ := q
  obtain ⟨a, vs, rfl, h1, h2⟩ := hi.ok s r2
  refine ⟨a, vs, rfl, h1, flatD_ok r1 f1, flatAll_ok h2 f2, ?_⟩
  rw [inD_ok r1 f1 h2 f2]
  exact k _ H _ μ .refl s (.bl _ .nil) q
theorem atI_reps {μ : Sto} {H : Hp} {vs : List V} {ds : List D} (r : Reps K μ H vs ds) {i : Int} {d : D} (h : atI ds i = some d) : ∃ v, atI vs i = some v ∧ Rep K μ H v d := by
  unfold atI at h ⊢
  rw [r.length]
  cases e : ixN ds.length i with
  | none => rw [e] at h; cases h
  | some j => rw [e] at h; exact r.get h
def isTup : D → Bool
  | .tup _ => true
  | _ => false
def oIxT : DO := fun x y μ Φ => ∃ ds i d, x = .tup ds ∧ y = .int i ∧ atI ds i = some d ∧ Φ d μ
theorem roIxT : RO K (rIxT K) oIxT := fun H μ v w d e Φ Q s r1 r2 q k => by
  obtain ⟨ds, i, c, rfl, rfl, hi, q⟩ := q
  obtain ⟨a, vs, rfl, h1, h2⟩ := Rep.tup_inv r1
  obtain ⟨z, hz, rz⟩ := atI_reps h2 hi
  exact ⟨a, vs, i, z, rfl, Rep.int_inv r2, h1.sq, hz, k _ H _ μ .refl s rz q⟩
def oIxL : DO := fun x y μ Φ => ∃ ds i d, Items μ x ds ∧ isTup x = false ∧ y = .int i ∧ atI ds i = some d ∧ Φ d μ
theorem Items.okL {μ : Sto} {H : Hp} {v : V} {d : D} {ds : List D} (s : StoOk K μ H) (r : Rep K μ H v d) (h : Items μ d ds) (n : isTup d = false) : ∃ a vs, v = .ref a ∧ SqL K H a vs ∧ Reps K μ H vs ds := by
  cases h with
  | tup => cases n
  | lst => obtain ⟨a, vs, rfl, h1, h2⟩ := Rep.lst_inv r; exact ⟨a, vs, rfl, h1.sq, h2⟩
  | own h => obtain rfl := Rep.hd_inv r; obtain ⟨vs, h1, h2⟩ := s _ _ h; exact ⟨_, vs, rfl, .of h1, h2⟩
  | frz h => obtain rfl := Rep.hd_inv r; obtain ⟨vs, h1, h2⟩ := s _ _ h; exact ⟨_, vs, rfl, .of h1, h2⟩
  | scr ns =>
    cases r with
    | scr h1 _ => exact ⟨_, _, rfl, h1.sq, reps_ints ns⟩
theorem roIxL : RO K (rIxL K) oIxL := fun H μ v w d e Φ Q s r1 r2 q k => by
  obtain ⟨ds, i, c, hi, hn, rfl, ha, q⟩ := q
  obtain ⟨a, vs, rfl, h1, h2⟩ := hi.okL s r1 hn
  obtain ⟨z, hz, rz⟩ := atI_reps h2 ha
  exact ⟨a, vs, i, z, rfl, Rep.int_inv r2, h1, hz, k _ H _ μ .refl s rz q⟩
/-- t + u, tuples -/
def oCatT : DO := fun x y μ Φ => ∃ xs ys, x = .tup xs ∧ y = .tup ys ∧ xs.length + ys.length ≤ 100000 ∧ Φ (.tup (xs ++ ys)) μ
theorem roCatT : RO K (rCatN K) oCatT := fun H μ v w d e Φ Q s r1 r2 q k => by
  obtain ⟨xs, ys, rfl, rfl, hz, q⟩ := q
  obtain ⟨a, vs, rfl, h1, h2⟩ := Rep.tup_inv r1
  obtain ⟨b, us, rfl, h3, h4⟩ := Rep.tup_inv r2
  refine ⟨a, b, vs, us, rfl, rfl, h1.sq, h3.sq, sz (by rw [h2.length, h4.length]; exact hz), fun e => ?_, fun _ e => ?_, fun _ _ p o ho hc hp => ?_⟩
  · subst e
    have ex : xs = [] := List.eq_nil_of_length_eq_zero (by rw [← h2.length]; rfl)
    subst ex
    exact k _ H _ μ .refl s r2 q
  · subst e
    have ex : ys = [] := List.eq_nil_of_length_eq_zero (by rw [← h4.length]; rfl)
    subst ex
    rw [List.append_nil] at q
    exact k _ H _ μ .refl s r1 q
  · exact k _ _ _ μ (.new hp) (s.new hp) (rep_tupN s hp ho hc (h2.append h4)) q
/-- xs + ys, lists -/
def oCatL : DO := fun x y μ Φ => ∃ xs ys, x = .lst xs ∧ y = .lst ys ∧ xs.length + ys.length ≤ 100000 ∧ Φ (.lst (xs ++ ys)) μ
theorem roCatL : RO K rCat oCatL := fun H μ v w d e Φ Q s r1 r2 q k => by
  obtain ⟨xs, ys, rfl, rfl, hz, q⟩ := q
  obtain ⟨a, vs, rfl, h1, h2⟩ := Rep.lst_inv r1
  obtain ⟨b, us, rfl, h3, h4⟩ := Rep.lst_inv r2
  exact ⟨a, b, vs, us, rfl, rfl, h1.1, h3.1, sz (by rw [h2.length, h4.length]; exact hz), fun p hp => k _ _ _ μ (.new hp) (s.new hp) (rep_lst s hp (h2.append h4)) q⟩
/-- t * k for k of two or more -/
theorem reps_rep {μ : Sto} {H : Hp} {vs : List V} {ds : List D} (r : Reps K μ H vs ds) : ∀ n, Reps K μ H (List.replicate n vs).flatten (List.replicate n ds).flatten
  | 0 => .nil
  | n + 1 => by
    rw [List.replicate_succ, List.replicate_succ, List.flatten_cons, List.flatten_cons]
    exact r.append (reps_rep r n)
def dNoPart : XP → DEnv → Sto → (Option Int → Sto → Prop) → Prop := fun _ _ μ Φ => Φ none μ
def dPart (φ : DE) : XP → DEnv → Sto → (Option Int → Sto → Prop) → Prop := fun Ψ δ μ Φ => φ Ψ δ μ fun x μ1 => ∃ i, x = .int i ∧ Φ (some i) μ1
def SO (B : Bx K) (to : TO) (φ : XP → DEnv → Sto → (Option Int → Sto → Prop) → Prop) : Prop := ∀ (σ : L2.St) (H : Hp) (δ : DEnv) (μ : Sto) (Φ : Option Int → Sto → Prop) (Q : Option Int → Hp → Prop), B.S σ H δ μ → φ B.Ψ δ μ Φ →
  (∀ o H' μ', B.S σ H' δ μ' → Evo μ H μ' H' → Φ o μ' → Q o H') → to σ H Q
theorem sNoPart {B : Bx K} : SO B tNoPart dNoPart := fun σ H δ μ Φ Q S q k => k none H μ S .refl q
theorem sPart {B : Bx K} {te : TE} {φ : DE} (a : SE B te φ) : SO B (tPart te) (dPart φ) := fun σ H δ μ Φ Q S q k =>
  a σ H δ μ _ _ S q fun v H1 x μ1 S1 e1 r1 q1 => by
    obtain ⟨i, rfl, q2⟩ := q1
    obtain rfl := Rep.int_inv r1
    exact ⟨i, rfl, k (some i) H1 μ1 S1 e1 q2⟩
def cutD (xs : List D) (lo hi : Option Int) : List D := (xs.drop (HT.sIx xs.length 0 lo)).take (HT.sIx xs.length xs.length hi - HT.sIx xs.length 0 lo)
theorem cut_reps {μ : Sto} {H : Hp} {vs : List V} {ds : List D} (r : Reps K μ H vs ds) (lo hi : Option Int) : Reps K μ H (cutV vs lo hi) (cutD ds lo hi) := by
  unfold cutV cutD
  rw [r.length]
  exact (r.drop _).take _
def dSlT (φ : DE) (ol oh : XP → DEnv → Sto → (Option Int → Sto → Prop) → Prop) : DE := fun Ψ δ μ Φ => φ Ψ δ μ fun x μ1 => ol Ψ δ μ1 fun lo μ2 => oh Ψ δ μ2 fun hi μ3 => ∃ ds, x = .tup ds ∧ Φ (.tup (cutD ds lo hi)) μ3
theorem cutD_whole {ds : List D} {lo hi : Option Int} (h : HT.sIx ds.length 0 lo = 0 ∧ HT.sIx ds.length ds.length hi = ds.length) : cutD ds lo hi = ds := by
  unfold cutD
  rw [h.1, h.2, List.drop_zero, Nat.sub_zero, List.take_length]
theorem sSlT {B : Bx K} {te : TE} {tl th : TO} {φ : DE} {ol oh : XP → DEnv → Sto → (Option Int → Sto → Prop) → Prop} (a : SE B te φ) (b : SO B tl ol) (c : SO B th oh) : SE B (tSl (rSlN K) te tl th) (dSlT φ ol oh) := fun σ H δ μ Φ Q S q k =>
  a σ H δ μ _ _ S q fun v H1 x μ1 S1 e1 r1 q1 => b σ H1 δ μ1 _ _ S1 q1 fun lo H2 μ2 S2 e2 q2 => c σ H2 δ μ2 _ _ S2 q2 fun hi H3 μ3 S3 e3 q3 => by
    obtain ⟨ds, rfl, q3⟩ := q3
    obtain ⟨p, vs, rfl, h1, h2⟩ := Rep.tup_inv ((r1.mono e2).mono e3)
    refine ⟨p, vs, rfl, h1.sq, fun w => ?_, fun w o ob hd hc ho => ?_⟩
    · rw [h2.length] at w
      rw [cutD_whole w] at q3
      exact k _ H3 _ μ3 S3 ((e1.trans e2).trans e3) (.tup h1 h2 .nil) q3
    · exact k _ _ _ μ3 (S3.step (.new ho) (S3.sto.new ho)) (((e1.trans e2).trans e3).trans (.new ho)) (rep_tupN S3.sto ho hd hc (cut_reps h2 lo hi)) q3
def dSlL (φ : DE) (ol oh : XP → DEnv → Sto → (Option Int → Sto → Prop) → Prop) : DE := fun Ψ δ μ Φ => φ Ψ δ μ fun x μ1 => ol Ψ δ μ1 fun lo μ2 => oh Ψ δ μ2 fun hi μ3 => ∃ ds, Items μ3 x ds ∧ isTup x = false ∧ Φ (.lst (cutD ds lo hi)) μ3
/-- xs[::-1], lists -/
def dRevL (φ : DE) : DE := fun Ψ δ μ Φ => φ Ψ δ μ fun x μ1 => ∃ ds, Items μ1 x ds ∧ isTup x = false ∧ Φ (.lst ds.reverse) μ1
abbrev DC := List D → Sto → DK → Prop
def RC (K : Fg) (r : List V → Hp → VK → Prop) (ρ : DC) : Prop := ∀ (H : Hp) (μ : Sto) (vs : List V) (ds : List D) (Φ : DK) (Q : VK), StoOk K μ H → Reps K μ H vs ds → ρ ds μ Φ →
  (∀ z H' c μ', Evo μ H μ' H' → StoOk K μ' H' → Rep K μ' H' z c → Φ c μ' → Q z H') → r vs H Q
def dCB (ρ : DC) (ψ : DA) : DE := fun Ψ δ μ Φ => ψ Ψ δ μ fun xs μ1 => ρ xs μ1 Φ
theorem sCB {B : Bx K} {r : List V → Hp → VK → Prop} {ρ : DC} {tas : TA} {ψ : DA} (h : RC K r ρ) (a : SA B tas ψ) : SE B (tCB r tas) (dCB ρ ψ) := fun σ H δ μ Φ Q S q k =>
  a σ H δ μ _ _ S q fun vs H1 xs μ1 S1 e1 r1 q1 => h H1 μ1 vs xs Φ Q S1.sto r1 q1 fun z H3 c μ3 e3 s3 r3 p => k z H3 c μ3 (S1.step e3 s3) (e1.trans e3) r3 p
theorem reps1 {μ : Sto} {H : Hp} {vs : List V} {d : D} (r : Reps K μ H vs [d]) : ∃ v, vs = [v] ∧ Rep K μ H v d := by
  cases vs with
  | nil => have := r.length; simp at this
  | cons v vs =>
    cases vs with
    | nil => exact ⟨v, rfl, r⟩
    | cons w vs => have := r.length; simp at this
theorem reps2 {μ : Sto} {H : Hp} {vs : List V} {d e : D} (r : Reps K μ H vs [d, e]) : ∃ v w, vs = [v, w] ∧ Rep K μ H v d ∧ Rep K μ H w e := by
  cases vs with
  | nil => have := r.length; simp at this
  | cons v vs =>
    obtain ⟨w, rfl, r2⟩ := reps1 r.split.2
    exact ⟨v, w, rfl, r.split.1, r2⟩
def cLen : DC := fun xs μ Φ => ∃ x ds, xs = [x] ∧ Items μ x ds ∧ Φ (.int ds.length) μ
theorem rcLen : RC K (fun xs H Q => ∃ p ys, xs = [.ref p] ∧ (SqL K H p ys ∨ SqT K H p ys) ∧ Q (.int ys.length) H) cLen := fun H μ vs ds Φ Q s r q k => by
  obtain ⟨x, es, rfl, hi, q⟩ := q
  obtain ⟨v, rfl, r⟩ := reps1 r
  obtain ⟨a, us, rfl, h1, h2⟩ := hi.ok s r
  refine ⟨a, us, rfl, h1, ?_⟩
  rw [h2.length]
  exact k _ H _ μ .refl s (.int _ .nil) q
/-- list(..) of a list or tuple -/
def cList : DC := fun xs μ Φ => ∃ x ds, xs = [x] ∧ Items μ x ds ∧ Φ (.lst ds) μ
theorem rcList : RC K (fun xs H Q => ∃ p ys, xs = [.ref p] ∧ (SqL K H p ys ∨ SqT K H p ys) ∧ ∀ l, H l = none → Q (.ref l) (upd H l (.lst ys))) cList := fun H μ vs ds Φ Q s r q k => by
  obtain ⟨x, es, rfl, hi, q⟩ := q
  obtain ⟨v, rfl, r⟩ := reps1 r
  obtain ⟨a, us, rfl, h1, h2⟩ := hi.ok s r
  exact ⟨a, us, rfl, h1, fun p hp => k _ _ _ μ (.new hp) (s.new hp) (rep_lst s hp h2) q⟩
/-- the same, a handle -/
def cListOwn : DC := fun xs μ Φ => ∃ x ds, xs = [x] ∧ Items μ x ds ∧ ∀ p, μ p = none → Φ (.hd (.ref p)) (sset μ p (.lst ds))
def cTuple : DC := fun xs μ Φ => ∃ x ds, xs = [x] ∧ Items μ x ds ∧ Φ (.tup ds) μ
theorem rcTuple : RC K (fun xs H Q => ∃ p ys, xs = [.ref p] ∧ ((SqL K H p ys ∧ NewT H ys Q) ∨ (SqT K H p ys ∧ Q (.ref p) H))) cTuple := fun H μ vs ds Φ Q s r q k => by
  obtain ⟨x, es, rfl, hi, q⟩ := q
  obtain ⟨v, rfl, r⟩ := reps1 r
  cases hi with
  | tup => obtain ⟨a, us, rfl, h1, h2⟩ := Rep.tup_inv r; exact ⟨a, us, rfl, .inr ⟨h1.sq, k _ H _ μ .refl s r q⟩⟩
  | lst => obtain ⟨a, us, rfl, h1, h2⟩ := (Items.lst es).okL s r rfl; exact ⟨a, us, rfl, .inl ⟨h1, fun p o ho hc hp => k _ _ _ μ (.new hp) (s.new hp) (rep_tupN s hp ho hc h2) q⟩⟩
  | own h => obtain ⟨a, us, rfl, h1, h2⟩ := (Items.own h).okL s r rfl; exact ⟨a, us, rfl, .inl ⟨h1, fun p o ho hc hp => k _ _ _ μ (.new hp) (s.new hp) (rep_tupN s hp ho hc h2) q⟩⟩
  | frz h => obtain ⟨a, us, rfl, h1, h2⟩ := (Items.frz h).okL s r rfl; exact ⟨a, us, rfl, .inl ⟨h1, fun p o ho hc hp => k _ _ _ μ (.new hp) (s.new hp) (rep_tupN s hp ho hc h2) q⟩⟩
  | scr ns => obtain ⟨a, us, rfl, h1, h2⟩ := (Items.scr ns).okL s r rfl; exact ⟨a, us, rfl, .inl ⟨h1, fun p o ho hc hp => k _ _ _ μ (.new hp) (s.new hp) (rep_tupN s hp ho hc h2) q⟩⟩
def cInt : DC := fun xs μ Φ => ∃ i, xs = [.int i] ∧ Φ (.int i) μ ∨ ∃ b, xs = [.bl b] ∧ Φ (.int (if b then 1 else 0)) μ
theorem rcInt : RC K (fun xs H Q => (∃ i, xs = [.int i] ∧ Q (.int i) H) ∨ ∃ k, xs = [.bl k] ∧ Q (.int (if k then 1 else 0)) H) cInt := fun H μ vs ds Φ Q s r q k => by
  obtain ⟨i, q⟩ := q
  rcases q with ⟨rfl, q⟩ | ⟨b, rfl, q⟩
  · obtain ⟨v, rfl, r⟩ := reps1 r
    obtain rfl := Rep.int_inv r
    exact .inl ⟨i, rfl, k _ H _ μ .refl s r q⟩
  · obtain ⟨v, rfl, r⟩ := reps1 r
    obtain rfl := Rep.bl_inv r
    exact .inr ⟨b, rfl, k _ H _ μ .refl s (.int _ .nil) q⟩
theorem reps_bls {μ : Sto} {H : Hp} : ∀ {vs : List V} {bs : List Bool}, Reps K μ H vs (bs.map .bl) → vs = bs.map .bl
  | [], [], _ => rfl
  | [], _ :: _, r => by have := r.length; simp at this
  | _ :: _, [], r => by have := r.length; simp at this
  | v :: vs, b :: bs, r => by
    have e := Rep.bl_inv r.split.1
    have ih := reps_bls r.split.2
    rw [e, ih, List.map_cons]
def cAll : DC := fun xs μ Φ => ∃ bs : List Bool, xs = [.lst (bs.map .bl)] ∧ Φ (.bl (bs.all id)) μ
def cAny : DC := fun xs μ Φ => ∃ bs : List Bool, xs = [.lst (bs.map .bl)] ∧ Φ (.bl (bs.any id)) μ
theorem rcAll : RC K (rAll K) cAll := fun H μ vs ds Φ Q s r q k => by
  obtain ⟨bs, rfl, q⟩ := q
  obtain ⟨v, rfl, r⟩ := reps1 r
  obtain ⟨a, us, rfl, h1, h2⟩ := Rep.lst_inv r
  have e := reps_bls h2
  subst e
  exact ⟨a, bs, rfl, h1.sq, k _ H _ μ .refl s (.bl _ .nil) q⟩
theorem rcAny : RC K (rAny K) cAny := fun H μ vs ds Φ Q s r q k => by
  obtain ⟨bs, rfl, q⟩ := q
  obtain ⟨v, rfl, r⟩ := reps1 r
  obtain ⟨a, us, rfl, h1, h2⟩ := Rep.lst_inv r
  have e := reps_bls h2
  subst e
  exact ⟨a, bs, rfl, h1.sq, k _ H _ μ .refl s (.bl _ .nil) q⟩
def cMin2 : DC := fun xs μ Φ => ∃ i j, xs = [.int i, .int j] ∧ Φ (.int (if j < i then j else i)) μ
theorem rcMin2 : RC K (fun xs H Q => ∃ i j, xs = [.int i, .int j] ∧ Q (.int (if j < i then j else i)) H) cMin2 := fun H μ vs ds Φ Q s r q k => by
  obtain ⟨i, j, rfl, q⟩ := q
  obtain ⟨v, w, rfl, r1, r2⟩ := reps2 r
  obtain rfl := Rep.int_inv r1
  obtain rfl := Rep.int_inv r2
  exact ⟨i, j, rfl, k _ H _ μ .refl s (.int _ .nil) q⟩
def cDivmod : DC := fun xs μ Φ => ∃ i j, xs = [.int i, .int j] ∧ CDivP i j ∧ Φ (.pr [.int (i / j), .int (i % j)]) μ
def tyD : D → Option String
  | .non => some "NoneType"
  | .bl _ => some "bool"
  | .int _ => some "int"
  | .str _ => some "str"
  | .tup _ => some "tuple"
  | .lst _ => some "list"
  | _ => none
theorem tyD_ok {μ : Sto} {H : Hp} {v : V} {d : D} {n : String} (r : Rep K μ H v d) (h : tyD d = some n) : TyX K H v (.type n) := by
  cases d with
  | non => cases h; cases r; exact .base .non
  | bl b => cases h; cases r; exact .base (.bl b)
  | int i => cases h; cases r; exact .base (.int i)
  | str i => cases h; cases r; exact .base (.str i)
  | tup ds =>
    cases h
    obtain ⟨a, vs, rfl, h1, h2⟩ := Rep.tup_inv r
    rcases h1 with ⟨o, h1, _⟩ | ⟨o, its, n, h1, h3, _⟩
    · exact .fTuple h1
    · exact .kTuple h1 h3
  | lst ds =>
    cases h
    obtain ⟨a, vs, rfl, h1, h2⟩ := Rep.lst_inv r
    exact .base (.lst h1.1)
  | obj C ns ds => cases h
  | hd v => cases h
  | scr ns => cases h
  | pr ns => cases h
def instB : D → String → Option Bool
  | .non, "int" => some false | .non, "bool" => some false | .non, "str" => some false | .non, "tuple" => some false | .non, "list" => some false
  | .int _, "int" => some true | .int _, "bool" => some false | .int _, "str" => some false | .int _, "tuple" => some false | .int _, "list" => some false
  | .bl _, "int" => some true | .bl _, "bool" => some true | .bl _, "str" => some false | .bl _, "tuple" => some false | .bl _, "list" => some false
  | .str _, "int" => some false | .str _, "bool" => some false | .str _, "str" => some true | .str _, "tuple" => some false | .str _, "list" => some false
  | .tup _, "int" => some false | .tup _, "bool" => some false | .tup _, "str" => some false | .tup _, "tuple" => some true | .tup _, "list" => some false
  | .lst _, "int" => some false | .lst _, "bool" => some false | .lst _, "str" => some false | .lst _, "tuple" => some false | .lst _, "list" => some true
  | _, _ => none
theorem instB_ok {d : D} {T : String} {b : Bool} (h : instB d T = some b) : ∃ n, tyD d = some n ∧ kitB n T = some b := by
  unfold instB at h
  split at h <;> first | (cases h; done) | (cases h; exact ⟨_, rfl, by decide +kernel⟩)
def cIsi (T : String) : DC := fun xs μ Φ => ∃ x b, xs = [x, .hd (.ty T)] ∧ instB x T = some b ∧ Φ (.bl b) μ
theorem rcIsi {T : String} : RC K (rIsi K) (cIsi T) := fun H μ vs ds Φ Q s r q k => by
  obtain ⟨x, b, rfl, hi, q⟩ := q
  obtain ⟨n, hn, hk⟩ := instB_ok hi
  obtain ⟨v, w, rfl, r1, r2⟩ := reps2 r
  obtain rfl := Rep.hd_inv r2
  exact ⟨v, _, _, _, b, rfl, .ty T, tyD_ok r1 hn, kit_ty hk, k _ H _ μ .refl s (.bl _ .nil) q⟩
def dApp (φa φb : DE) : DE := fun Ψ δ μ Φ => φa Ψ δ μ fun x μ1 => ∃ a ds, x = .hd (.ref a) ∧ μ1 a = some (.lst ds) ∧ φb Ψ δ μ1 fun y μ2 => ∃ es, μ2 a = some (.lst es) ∧ es.length ≤ 100000 ∧ Φ .non (sset μ2 a (.lst (es ++ [y])))
theorem own_upd {μ : Sto} {H : Hp} {a : Addr} {ds es : List D} {us : List V} (s : StoOk K μ H) (h : μ a = some (.lst ds)) (r : Reps K (sset μ a (.lst es)) (upd H a (.lst us)) us es) : Evo μ H (sset μ a (.lst es)) (upd H a (.lst us)) ∧ StoOk K (sset μ a (.lst es)) (upd H a (.lst us)) := by
  have e : Evo μ H (sset μ a (.lst es)) (upd H a (.lst us)) := .cell h fun n => n.notL h
  exact ⟨e, s.cell e ⟨us, upd_same, r⟩⟩
theorem own_evo {μ : Sto} {H : Hp} {a : Addr} {ds es : List D} {us : List V} (h : μ a = some (.lst ds)) : Evo μ H (sset μ a (.lst es)) (upd H a (.lst us)) := .cell h fun n => n.notL h
/-- o[i] = e, o a handle of a list -/
def eSub (φo φi : DE) : XP → D → DEnv → Sto → (DEnv → Sto → Prop) → Prop := fun Ψ d δ μ Φ => φo Ψ δ μ fun x μ1 => φi Ψ δ μ1 fun y μ2 => ∃ a ds i j, x = .hd (.ref a) ∧ y = .int i ∧ μ2 a = some (.lst ds) ∧ ixN ds.length i = some j ∧ Φ δ (sset μ2 a (.lst (ds.set j d)))
theorem sSub {B : Bx K} {ta tb : TE} {φa φb : DE} (a : SE B ta φa) (b : SE B tb φb) : SG B (gSub ta tb rSetL) (eSub φa φb B.Ψ) := fun v d σ H δ μ Φ Q S r q k =>
  a σ H δ μ _ _ S q fun o H1 x μ1 S1 e1 r1 q1 => b σ H1 δ μ1 _ _ S1 q1 fun i H2 y μ2 S2 e2 r2 q2 => by
    obtain ⟨p, ds, i, j, rfl, rfl, hp, hj, q2⟩ := q2
    obtain rfl := Rep.hd_inv r1
    obtain rfl := Rep.int_inv r2
    obtain ⟨us, h1, h2⟩ := S2.sto _ _ hp
    refine ⟨p, us, i, j, rfl, rfl, h1, by rw [h2.length]; exact hj, ?_⟩
    have e3 : Evo μ2 H2 (sset μ2 p (.lst (ds.set j d))) (upd H2 p (.lst (us.set j v))) := own_evo hp
    obtain ⟨e4, s4⟩ := own_upd S2.sto hp ((h2.set ((r.mono e1).mono e2) j).mono e3)
    exact k σ _ δ _ (S2.step e4 s4) ((e1.trans e2).trans e4) q2
def dAsgS (φ φo φi : DE) : DSt := fun Ψ Δ δ μ => φ Ψ δ μ fun x μ1 => eSub φo φi Ψ x δ μ1 Δ.nx
theorem sAsgS {B : Bx K} {te ta tb : TE} {φ φa φb : DE} (e : SE B te φ) (a : SE B ta φa) (b : SE B tb φb) : SS B (tAsg te (gSub ta tb rSetL)) (dAsgS φ φa φb) := fun D Δ σ H δ μ E S q =>
  e σ H δ μ _ _ S q fun v H1 x μ1 S1 e1 r1 q1 => sSub a b v x σ H1 δ μ1 _ _ S1 r1 q1 fun σ2 H2 δ2 μ2 S2 e2 q2 => E.nx σ2 H2 δ2 μ2 S2 q2
end
end DW
set_option Elab.async false
set_option linter.all false
set_option maxRecDepth 100000
namespace DW
open PySem PySem.Spec L2
section
variable {K : Fg} {B : Bx K}
abbrev DI := XP → DEnv → Sto → (List D → Sto → Prop) → Prop
/-- the iterator hands out the items, as long as what stood still stands -/
def IterOk (K : Fg) (μ1 : Sto) (H1 : Hp) (J : It) (xs : List D) : Prop := ∀ (i : Nat) (H : Hp) (μ : Sto), StoOk K μ H → Evo μ1 H1 μ H →
  (i < xs.length → J.go i H ∧ ∀ x H', J.yld i H x H' → ∃ d, xs[i]? = some d ∧ StoOk K μ H' ∧ Evo μ H μ H' ∧ Rep K μ H' x d) ∧ (xs.length ≤ i → J.stop i H)
def SI (B : Bx K) (wi : TI) (ι : DI) : Prop := ∀ (σ : L2.St) (H : Hp) (δ : DEnv) (μ : Sto) (Φ : List D → Sto → Prop) (R : It → Hp → Prop), B.S σ H δ μ → ι B.Ψ δ μ Φ →
  (∀ xs J H' μ', B.S σ H' δ μ' → Evo μ H μ' H' → IterOk K μ' H' J xs → Φ xs μ' → R J H') → wi σ H R
def iSeqT (φ : DE) : DI := fun Ψ δ μ Φ => φ Ψ δ μ fun x μ1 => ∃ ds, x = .tup ds ∧ Φ ds μ1
def iSeqL (φ : DE) : DI := fun Ψ δ μ Φ => φ Ψ δ μ fun x μ1 => ∃ ds, x = .lst ds ∧ Φ ds μ1
theorem siT {te : TE} {φ : DE} (a : SE B te φ) : SI B (iTup K te) (iSeqT φ) := fun σ H δ μ Φ R S q k =>
  a σ H δ μ _ _ S q fun v H1 x μ1 S1 e1 r1 q1 => by
    obtain ⟨ds, rfl, q2⟩ := q1
    obtain ⟨p, vs, rfl, h1, h2⟩ := Rep.tup_inv r1
    refine ⟨p, rfl, ⟨vs, h1.sq⟩, k ds _ H1 μ1 S1 e1 (fun i H2 μ2 s2 e2 => ⟨fun hi => ?_, fun hi => ⟨vs, (h1.mono e2).sq, by rw [h2.length]; exact hi⟩⟩) q2⟩
    have hv : i < vs.length := by rw [h2.length]; exact hi
    refine ⟨⟨vs, vs[i], (h1.mono e2).sq, List.getElem?_eq_getElem hv⟩, fun x H' ⟨eH, hy⟩ => ?_⟩
    subst eH
    obtain ⟨d, hd, rd⟩ := (h2.mono e2).getV (hy vs (h1.mono e2).sq)
    exact ⟨d, hd, s2, .refl, rd⟩
theorem siL {te : TE} {φ : DE} (a : SE B te φ) : SI B (iList K te) (iSeqL φ) := fun σ H δ μ Φ R S q k =>
  a σ H δ μ _ _ S q fun v H1 x μ1 S1 e1 r1 q1 => by
    obtain ⟨ds, rfl, q2⟩ := q1
    obtain ⟨p, vs, rfl, h1, h2⟩ := Rep.lst_inv r1
    refine ⟨p, rfl, ⟨vs, h1.sq⟩, k ds _ H1 μ1 S1 e1 (fun i H2 μ2 s2 e2 => ⟨fun hi => ?_, fun hi => ⟨vs, (h1.mono e2).sq, by rw [h2.length]; exact hi⟩⟩) q2⟩
    have hv : i < vs.length := by rw [h2.length]; exact hi
    refine ⟨⟨vs, vs[i], (h1.mono e2).sq, List.getElem?_eq_getElem hv⟩, fun x H' ⟨eH, hy⟩ => ?_⟩
    subst eH
    obtain ⟨d, hd, rd⟩ := (h2.mono e2).getV (hy vs (h1.mono e2).sq)
    exact ⟨d, hd, s2, .refl, rd⟩
def rngD (lo : Int) (n : Nat) : List D := (List.range n).map fun (i : Nat) => .int (lo + (i : Int))
theorem rngD_len {lo : Int} {n : Nat} : (rngD lo n).length = n := by unfold rngD; rw [List.length_map, List.length_range]
theorem rngD_at {lo : Int} {n i : Nat} (h : i < n) : (rngD lo n)[i]? = some (.int (lo + (i : Int))) := by
  unfold rngD
  rw [List.getElem?_map, List.getElem?_range h]
  rfl
theorem iter_rng {μ : Sto} {H : Hp} {lo : Int} {n : Nat} : IterOk K μ H (Itr lo n) (rngD lo n) := fun i H2 μ2 s2 e2 => by
  rw [rngD_len]
  refine ⟨fun hi => ⟨hi, fun x H' ⟨eH, hy⟩ => ?_⟩, fun hi => hi⟩
  subst eH hy
  exact ⟨_, rngD_at hi, s2, .refl, .int _ .nil⟩
def iR1 (φ : DE) : DI := fun Ψ δ μ Φ => φ Ψ δ μ fun x μ1 => ∃ j, x = .int j ∧ j < 4611686018427387904 ∧ -4611686018427387904 ≤ j ∧ Φ (rngD 0 j.toNat) μ1
theorem siR1 {te : TE} {φ : DE} (a : SE B te φ) : SI B (iRng1 (tCons te tNil)) (iR1 φ) := fun σ H δ μ Φ R S q k =>
  a σ H δ μ _ _ S q fun v H1 x μ1 S1 e1 r1 q1 => by
    obtain ⟨j, rfl, h1, h2, q2⟩ := q1
    obtain rfl := Rep.int_inv r1
    exact ⟨j, rfl, by omega, by omega, k _ _ H1 μ1 S1 e1 iter_rng q2⟩
def iR2 (φ φ' : DE) : DI := fun Ψ δ μ Φ => φ Ψ δ μ fun x μ1 => φ' Ψ δ μ1 fun y μ2 => ∃ i j, x = .int i ∧ y = .int j ∧ (-4611686018427387904 ≤ i ∧ i < 4611686018427387904 ∧ -4611686018427387904 ≤ j ∧ j < 4611686018427387904) ∧ Φ (rngD i (j - i).toNat) μ2
/-- zip of two tuples -/
def iZipT (φ φ' : DE) : DI := fun Ψ δ μ Φ => φ Ψ δ μ fun x μ1 => φ' Ψ δ μ1 fun y μ2 => ∃ xs ys, x = .tup xs ∧ y = .tup ys ∧ Φ ((xs.zip ys).map fun p => .pr [p.1, p.2]) μ2
/-- a text, sign by sign -/
def iText (φ : DE) : DI := fun Ψ δ μ Φ => φ Ψ δ μ fun x μ1 => ∃ s, x = .str s ∧ Φ (s.cps.toList.map fun c => .str ⟨#[c]⟩) μ1
/-- a loop -/
def dFor (ι : DI) (γ : DG) (ω : DSt) : DSt := fun Ψ Δ δ μ => ι Ψ δ μ fun xs μ1 => ∃ W : Nat → DEnv → Sto → Prop, W 0 δ μ1 ∧
  (∀ i d δ' μ', xs[i]? = some d → W i δ' μ' → γ d δ' μ' fun δ2 μ2 => ω Ψ { Δ with nx := W (i + 1), ct := W (i + 1), bk := Δ.nx } δ2 μ2) ∧ ∀ δ' μ', W xs.length δ' μ' → Δ.nx δ' μ'
theorem sFor {wi : TI} {g : TG} {tb : TS} {ι : DI} {γ : DG} {ω : DSt} (a : SI B wi ι) (b : ∀ H1 μ1 e, SG (B.re H1 μ1 e) g γ) (c : ∀ H1 μ1 e, SS (B.re H1 μ1 e) tb ω) : SS B (tFor wi g tb) (dFor ι γ ω) := fun D Δ σ H δ μ E S q =>
  a σ H δ μ _ _ S q fun xs J H1 μ1 S1 e1 it q1 => by
    obtain ⟨W, w0, ws, wd⟩ := q1
    refine ⟨fun i m σ' H' => m = xs.length - i ∧ i ≤ xs.length ∧ ∃ δ' μ', (B.re H1 μ1 S1.evo).S σ' H' δ' μ' ∧ W i δ' μ', ⟨xs.length, by simp, Nat.zero_le _, δ, μ1, ⟨.refl, S1.sto, S1.env⟩, w0⟩, ?_⟩
    rintro i m σ' H' ⟨rfl, hi, δ', μ', S', w⟩
    by_cases hlt : i < xs.length
    · obtain ⟨hgo, hy⟩ := (it i H' μ' S'.sto S'.evo).1 hlt
      refine .inr ⟨hgo, fun σ2 H2 => ∃ δ2 μ2, (B.re H1 μ1 S1.evo).S σ2 H2 δ2 μ2 ∧ W (i + 1) δ2 μ2, fun σ2 H2 ⟨δ2, μ2, S2, w2⟩ => ⟨xs.length - (i + 1), by omega, rfl, by omega, δ2, μ2, S2, w2⟩, fun x H2 y => ?_⟩
      obtain ⟨d, hd, s2, e2, r2⟩ := hy x H2 y
      refine b H1 μ1 S1.evo x d σ' H2 δ' μ' _ _ (S'.step e2 s2) r2 (ws i d δ' μ' hd w) fun σ3 H3 δ3 μ3 S3 e3 q3 => ?_
      exact c H1 μ1 S1.evo _ { Δ with nx := W (i + 1), ct := W (i + 1), bk := Δ.nx } σ3 H3 δ3 μ3 ⟨fun σ4 H4 δ4 μ4 S4 q4 => ⟨δ4, μ4, S4, q4⟩, fun v4 H4 d4 μ4 σ4 δ4 S4 r4 q4 => E.rt v4 H4 d4 μ4 σ4 δ4 ⟨S1.evo.trans S4.evo, S4.sto, S4.env⟩ r4 q4, fun σ4 H4 δ4 μ4 S4 q4 => E.nx σ4 H4 δ4 μ4 ⟨S1.evo.trans S4.evo, S4.sto, S4.env⟩ q4, fun σ4 H4 δ4 μ4 S4 q4 => ⟨δ4, μ4, S4, q4⟩⟩ S3 q3
    · have e : i = xs.length := by omega
      subst e
      exact .inl ⟨(it _ H' μ' S'.sto S'.evo).2 (Nat.le_refl _), E.nx σ' H' δ' μ' ⟨S1.evo.trans S'.evo, S'.sto, S'.env⟩ (wd δ' μ' w)⟩
def dwipe (δ : DEnv) : List Nat → DEnv
  | [] => δ
  | v :: vs => (dwipe δ vs).set v none
theorem EnvOk.unset {μ : Sto} {H : Hp} {σ : L2.St} {δ : DEnv} (h : EnvOk K μ H σ δ) (j : Nat) : EnvOk K μ H (σ.set j none) (δ.set j none) := ⟨by rw [List.length_set, List.length_set]; exact h.len, fun i x q => by
  rw [List.getElem?_set] at q
  by_cases hj : j = i
  · rw [if_pos hj] at q
    split at q <;> cases q
  · rw [if_neg hj] at q
    obtain ⟨v, e, r⟩ := h.at_ i x q
    exact ⟨v, by rw [List.getElem?_set, if_neg hj]; exact e, r⟩⟩
theorem EnvOk.wipe {μ : Sto} {H : Hp} {σ : L2.St} {δ : DEnv} (h : EnvOk K μ H σ δ) : ∀ vs, EnvOk K μ H (L2.wipe σ vs) (dwipe δ vs)
  | [] => h
  | v :: vs => (EnvOk.wipe h vs).unset v
theorem wipe_get (σ : L2.St) : ∀ (vs : List Nat) (i : Nat), (L2.wipe σ vs)[i]? = if i ∈ vs ∧ i < σ.length then some none else σ[i]?
  | [], i => by simp [L2.wipe]
  | v :: vs, i => by
    have ih := wipe_get σ vs i
    show ((L2.wipe σ vs).set v none)[i]? = _
    rw [List.getElem?_set, L2.wipe_length, ih]
    by_cases h : v = i
    · subst h
      rw [if_pos rfl]
      by_cases hl : v < σ.length
      · rw [if_pos hl, if_pos ⟨List.mem_cons_self, hl⟩]
      · rw [if_neg hl, if_neg fun z => hl z.2, List.getElem?_eq_none (by omega)]
    · rw [if_neg h]
      have : (i ∈ v :: vs ∧ i < σ.length) ↔ (i ∈ vs ∧ i < σ.length) := by
        constructor
        · rintro ⟨a, b⟩
          rcases List.mem_cons.mp a with e | e
          · exact absurd e.symm h
          · exact ⟨e, b⟩
        · rintro ⟨a, b⟩
          exact ⟨List.mem_cons_of_mem _ a, b⟩
      simp only [this]
theorem wipe_set {σ : L2.St} {vs : List Nat} {j : Nat} {x : Option V} (h : j ∈ vs) : L2.wipe (σ.set j x) vs = L2.wipe σ vs := by
  apply List.ext_getElem?
  intro i
  rw [wipe_get, wipe_get, List.length_set, List.getElem?_set]
  by_cases hi : i ∈ vs ∧ i < σ.length
  · rw [if_pos hi, if_pos hi]
  · rw [if_neg hi, if_neg hi]
    by_cases e : j = i
    · subst e
      rw [if_pos rfl, if_neg (fun z => hi ⟨h, z⟩), List.getElem?_eq_none (Nat.le_of_not_lt fun z => hi ⟨h, z⟩)]
    · rw [if_neg e]
theorem wipe_wipe {σ : L2.St} {vs : List Nat} : L2.wipe (L2.wipe σ vs) vs = L2.wipe σ vs := by
  apply List.ext_getElem?
  intro i
  rw [wipe_get, L2.wipe_length, wipe_get]
  split <;> rfl
/-- a target stores nothing but own names -/
def GW (vs : List Nat) (g : TG) : Prop := ∀ (v : V) (σ W : L2.St) (H : Hp) (Q : L2.St → Hp → Prop), L2.wipe σ vs = W → g v σ H Q → g v σ H fun σ2 H2 => L2.wipe σ2 vs = W ∧ Q σ2 H2
theorem gwName {vs : List Nat} {j : Nat} (h : j ∈ vs) : GW vs (gName j) := fun v σ W H Q e q => ⟨by rw [wipe_set h]; exact e, q⟩
def dLc (ι : DI) (γ : DG) (θ : DT) (φ : DE) (vs : List Nat) : DE := fun Ψ δ μ Φ => ι Ψ δ μ fun xs μ1 => ∀ p, μ1 p = none → ∃ W : Nat → Sto → Prop, W 0 (sset μ1 p (.lst [])) ∧
  (∀ i d μ2, xs[i]? = some d → W i μ2 → γ d (dwipe δ vs) μ2 fun δ3 μ3 => θ Ψ δ3 μ3 fun b μ4 =>
    (b = true → φ Ψ δ3 μ4 fun y μ5 => ∃ acc, μ5 p = some (.lst acc) ∧ acc.length ≤ 100000 ∧ W (i + 1) (sset μ5 p (.lst (acc ++ [y])))) ∧ (b = false → W (i + 1) μ4)) ∧
  ∀ μ2, W xs.length μ2 → ∃ acc, μ2 p = some (.lst acc) ∧ Φ (.lst acc) (sdel μ2 p)
theorem sLc {wi : TI} {g : TG} {tt : TT} {te : TE} {vs : List Nat} {ι : DI} {γ : DG} {θ : DT} {φ : DE} (a : SI B wi ι) (w : GW vs g) (b : ∀ H1 μ1 e, SG (B.re H1 μ1 e) g γ) (c : ∀ H1 μ1 e, ST (B.re H1 μ1 e) tt θ) (d : ∀ H1 μ1 e, SE (B.re H1 μ1 e) te φ) :
    SE B (tLc wi g tt te vs) (dLc ι γ θ φ vs) := fun σ H δ μ Φ Q S q k =>
  a σ H δ μ _ _ S q fun xs J H1 μ1 S1 e1 it q1 => fun p hp => by
    have hμp : μ1 p = none := S1.sto.fresh hp
    obtain ⟨W, w0, ws, wd⟩ := q1 p hμp
    refine ⟨fun i m H' => m = xs.length - i ∧ i ≤ xs.length ∧ ∃ μ', Evo μ1 H1 μ' H' ∧ StoOk K μ' H' ∧ W i μ', ⟨xs.length, by simp, Nat.zero_le _, _, .newC S1.sto hp, sto_own S1.sto hp .nil, w0⟩, ?_⟩
    rintro i m H' ⟨rfl, hi, μ', e', s', wi'⟩
    by_cases hlt : i < xs.length
    · obtain ⟨hgo, hy⟩ := (it i H' μ' s' e').1 hlt
      refine .inr ⟨hgo, fun H2 => ∃ μ2, Evo μ1 H1 μ2 H2 ∧ StoOk K μ2 H2 ∧ W (i + 1) μ2, fun H2 ⟨μ2, e2, s2, w2⟩ => ⟨xs.length - (i + 1), by omega, rfl, by omega, μ2, e2, s2, w2⟩, fun x H2 y => ?_⟩
      obtain ⟨dd, hd, s2, e2, r2⟩ := hy x H2 y
      have S2 : (B.re H1 μ1 S1.evo).S (L2.wipe σ vs) H2 (dwipe δ vs) μ' := ⟨e'.trans e2, s2, ((S1.env.mono e').mono e2).wipe vs⟩
      refine w x (L2.wipe σ vs) (L2.wipe σ vs) H2 _ wipe_wipe ?_
      refine b H1 μ1 S1.evo x dd (L2.wipe σ vs) H2 (dwipe δ vs) μ' _ _ S2 r2 (ws i dd μ' hd wi') fun σ3 H3 δ3 μ3 S3 e3 q3 => ?_
      refine c H1 μ1 S1.evo σ3 H3 δ3 μ3 _ _ S3 q3 fun b4 H4 μ4 S4 e4 q4 => ?_
      cases b4 with
      | true =>
        rw [if_pos rfl]
        refine d H1 μ1 S1.evo σ3 H4 δ3 μ4 _ _ S4 (q4.1 rfl) fun v5 H5 y5 μ5 S5 e5 r5 q5 => ?_
        obtain ⟨acc, hacc, hz, w5⟩ := q5
        obtain ⟨us, h5, hr5⟩ := S5.sto _ _ hacc
        have e6 : Evo μ5 H5 (sset μ5 p (.lst (acc ++ [y5]))) (upd H5 p (.lst (us ++ [v5]))) := own_evo hacc
        obtain ⟨e7, s7⟩ := own_upd S5.sto hacc ((hr5.append r5).mono e6)
        exact ⟨us, h5, Nat.lt_of_le_of_lt (by rw [hr5.length]; exact hz) (by decide), _, S5.evo.trans e7, s7, w5⟩
      | false =>
        rw [if_neg Bool.false_ne_true]
        exact ⟨μ4, S4.evo, S4.sto, q4.2 rfl⟩
    · have e : i = xs.length := by omega
      subst e
      obtain ⟨acc, hacc, q2⟩ := wd μ' wi'
      obtain ⟨us, h5, hr5⟩ := s' _ _ hacc
      refine .inl ⟨(it _ H' μ' s' e').2 (Nat.le_refl _), ?_⟩
      have e8 : Evo μ1 H1 (sdel μ' p) H' := e'.trans sdel_sub.evo
      exact k (.ref p) H' (.lst acc) (sdel μ' p) (S1.step e8 (sdel_sub.sto s')) (e1.trans e8) (.lst ⟨h5, .of sdel_same⟩ (hr5.mono sdel_sub.evo) .nil) q2
def dYes : DT := fun _ _ μ Φ => Φ true μ
theorem sYes : ST B tYes dYes := fun σ H δ μ Φ Q S q k => k true H μ S .refl q
abbrev Con := List D → Sto → DK → (XD → Sto → Prop) → Prop
def spOf (K : Fg) (c : Con) : Sp := fun vs H Q E => ∃ μ ds Φ Ψ, StoOk K μ H ∧ Reps K μ H vs ds ∧ c ds μ Φ Ψ ∧
  (∀ v H' d μ', Evo μ H μ' H' → StoOk K μ' H' → Rep K μ' H' v d → Φ d μ' → Q v H') ∧
  ∀ cls dd H' x μ', Evo μ H μ' H' → StoOk K μ' H' → RepX K μ' H' cls dd x → Ψ x μ' → E cls dd H'
/-- a call that raises nothing -/
def dCall (c : Con) (ψ : DA) : DE := fun Ψ δ μ Φ => ψ Ψ δ μ fun xs μ1 => c xs μ1 Φ fun _ _ => False
theorem sCall {c : Con} {tas : TA} {ψ : DA} (a : SA B tas ψ) : SE B (tCall (spOf K c) [] E0 tas) (dCall c ψ) := fun σ H δ μ Φ Q S q k =>
  a σ H δ μ _ _ S q fun vs H1 xs μ1 S1 e1 r1 q1 => by
    rw [List.append_nil]
    exact ⟨μ1, xs, Φ, fun _ _ => False, S1.sto, r1, q1, fun v H2 d μ2 e2 s2 r2 q2 => k v H2 d μ2 (S1.step e2 s2) (e1.trans e2) r2 q2, fun _ _ _ _ _ _ _ _ z => z⟩
/-- a call that may raise -/
def dCallS (c : Con) (ψ : DA) : DE := fun Ψ δ μ Φ => ψ Ψ δ μ fun xs μ1 => c xs μ1 Φ fun x μ2 => Ψ x δ μ2
/-- raise C('..'), a class without own fields -/
def dRaise0 (C : Addr) : DSt := fun Ψ _ δ μ => Ψ (.mk C none) δ μ
theorem sRaise0 {C : Addr} : SS B (fun _ σ H => (fun (_ : L2.St) (H : Hp) (Q : XK) => Q (.ref C) none H) σ H fun cls d H' => B.W cls d σ H') (dRaise0 C) := fun D Δ σ H δ μ E S q => B.hW _ _ σ H (.mk C none) δ μ S ⟨rfl, rfl⟩ q
def dstart (N : List Str) (ds : List D) : DEnv := ds.map some ++ List.replicate (N.length - ds.length) none
theorem env_start {μ : Sto} {H : Hp} {N : List Str} {vs : List V} {ds : List D} (r : Reps K μ H vs ds) : EnvOk K μ H (L2.start N vs) (dstart N ds) := by
  have hl := r.length
  refine ⟨by unfold L2.start dstart; simp [hl], fun i d q => ?_⟩
  unfold dstart at q
  unfold L2.start
  by_cases h : i < ds.length
  · rw [List.getElem?_append_left (by simpa using h), List.getElem?_map] at q
    cases e : ds[i]? with
    | none => rw [e] at q; cases q
    | some y =>
      rw [e] at q
      cases q
      obtain ⟨v, ev, rv⟩ := r.get e
      exact ⟨v, by rw [List.getElem?_append_left (by simpa [hl] using h), List.getElem?_map, ev]; rfl, rv⟩
  · rw [List.getElem?_append_right (by simpa using h), List.getElem?_replicate] at q
    split at q <;> cases q
/-- what a def's body must bring about -/
abbrev goalE (Φ : DK) : DEnds := ⟨fun _ μ' => ∃ μ2, Sub μ2 μ' ∧ Φ .non μ2, fun d μ' => ∃ μ2, Sub μ2 μ' ∧ Φ d μ2, fun _ _ => False, fun _ _ => False⟩
abbrev goalX (Ψ : XD → Sto → Prop) : XP := fun x _ μ' => ∃ μ2, Sub μ2 μ' ∧ Ψ x μ2
theorem RepX.mono {μ μ' : Sto} {H H' : Hp} {cls : Value} {dd : Option Addr} {x : XD} (e : Evo μ H μ' H') (h : RepX K μ H cls dd x) : RepX K μ' H' cls dd x := by
  obtain ⟨C, fs⟩ := x
  cases fs with
  | none => exact h
  | some f =>
    obtain ⟨ns, ds⟩ := f
    obtain ⟨h1, d, us, h2, h3, h4, h5, h6⟩ := h
    exact ⟨h1, d, us, h2, (e.st _ _ h3 h4).1, (e.st _ _ h3 h4).2, h5, h6.mono e⟩
end
end DW
set_option Elab.async false
set_option linter.all false
set_option maxRecDepth 100000
namespace DW
open PySem PySem.Spec L2
section
variable {α : Type} {μ μ' : Sto} {Φ : DK} {i j : Int} {x y : D} {xs ys ds : List D} {δ : DEnv} {Ψ : XP} {Δ : DEnds} {b : Bool} {s t : Str}
theorem ex_some {a : α} {P : α → Prop} : (∃ d, some (some a) = some (some d) ∧ P d) = P a := propext ⟨fun ⟨d, e, p⟩ => by cases e; exact p, fun p => ⟨a, rfl, p⟩⟩
theorem w_I0 {g : Int → Int → D} : oI0 g (.int i) (.int j) μ Φ = Φ (g i j) μ := propext ⟨fun ⟨a, b, e1, e2, q⟩ => by cases e1; cases e2; exact q, fun q => ⟨i, j, rfl, rfl, q⟩⟩
theorem w_I {C : Int → Int → Prop} {g : Int → Int → D} : oI C g (.int i) (.int j) μ Φ = (C i j ∧ Φ (g i j) μ) := propext ⟨fun ⟨a, b, e1, e2, q⟩ => by cases e1; cases e2; exact q, fun q => ⟨i, j, rfl, rfl, q⟩⟩
theorem w_uI {g : Int → Int} : uI g (.int i) μ Φ = Φ (.int (g i)) μ := propext ⟨fun ⟨a, e1, q⟩ => by cases e1; exact q, fun q => ⟨i, rfl, q⟩⟩
theorem w_int : cInt [.int i] μ Φ = Φ (.int i) μ := propext (Iff.intro (by
  rintro ⟨a, q⟩
  rcases q with ⟨e, q⟩ | ⟨_, e, q⟩
  · cases e; exact q
  · cases e) (fun q => ⟨i, .inl ⟨rfl, q⟩⟩))
theorem w_bl {P : Bool → Prop} : (∃ c, D.bl b = .bl c ∧ P c) = P b := propext ⟨fun ⟨c, e, q⟩ => by cases e; exact q, fun q => ⟨b, rfl, q⟩⟩
theorem w_isi {T : String} : cIsi T [x, .hd (.ty T)] μ Φ = ∃ b, instB x T = some b ∧ Φ (.bl b) μ := propext ⟨fun ⟨y, b, e, q⟩ => by cases e; exact ⟨b, q⟩, fun ⟨b, q⟩ => ⟨x, b, rfl, q⟩⟩
theorem w_someb {P : Bool → Prop} : (∃ c, some b = some c ∧ P c) = P b := propext ⟨fun ⟨c, e, q⟩ => by cases e; exact q, fun q => ⟨b, rfl, q⟩⟩
theorem w_eqI : oEq (.int i) (.int j) μ Φ = Φ (.bl (decide (i = j))) μ := w_someb
theorem w_neI : oNe (.int i) (.int j) μ Φ = Φ (.bl (!decide (i = j))) μ := w_someb
theorem w_eqS : oEq (.str s) (.str t) μ Φ = Φ (.bl (decide (s = t))) μ := w_someb
theorem w_neS : oNe (.str s) (.str t) μ Φ = Φ (.bl (!decide (s = t))) μ := w_someb
theorem w_lenT : cLen [.tup ds] μ Φ = Φ (.int ds.length) μ := propext ⟨fun ⟨x, es, e, h, q⟩ => by cases e; cases h; exact q, fun q => ⟨_, _, rfl, .tup ds, q⟩⟩
theorem w_lenL : cLen [.lst ds] μ Φ = Φ (.int ds.length) μ := propext ⟨fun ⟨x, es, e, h, q⟩ => by cases e; cases h; exact q, fun q => ⟨_, _, rfl, .lst ds, q⟩⟩
theorem w_lenS {ns : List Int} : cLen [.scr ns] μ Φ = Φ (.int ns.length) μ := propext ⟨fun ⟨x, es, e, h, q⟩ => by cases e; cases h; rw [List.length_map] at q; exact q, fun q => ⟨_, _, rfl, .scr ns, by rw [List.length_map]; exact q⟩⟩
theorem w_tupL : cTuple [.lst ds] μ Φ = Φ (.tup ds) μ := propext ⟨fun ⟨x, es, e, h, q⟩ => by cases e; cases h; exact q, fun q => ⟨_, _, rfl, .lst ds, q⟩⟩
theorem w_tupT : cTuple [.tup ds] μ Φ = Φ (.tup ds) μ := propext ⟨fun ⟨x, es, e, h, q⟩ => by cases e; cases h; exact q, fun q => ⟨_, _, rfl, .tup ds, q⟩⟩
theorem w_ixT : oIxT (.tup ds) (.int i) μ Φ = ∃ d, atI ds i = some d ∧ Φ d μ := propext ⟨fun ⟨x, es, d, e1, e2, q⟩ => by cases e1; cases e2; exact ⟨d, q⟩, fun ⟨d, q⟩ => ⟨_, _, d, rfl, rfl, q⟩⟩
theorem w_ixL : oIxL (.lst ds) (.int i) μ Φ = ∃ d, atI ds i = some d ∧ Φ d μ := propext ⟨fun ⟨x, es, d, e1, _, e2, q⟩ => by cases e1; cases e2; exact ⟨d, q⟩, fun ⟨d, q⟩ => ⟨_, _, d, .lst ds, rfl, rfl, q⟩⟩
theorem w_ixS {ns : List Int} : oIxL (.scr ns) (.int i) μ Φ = ∃ d, atI (ns.map D.int) i = some d ∧ Φ d μ := propext ⟨fun ⟨x, es, d, e1, _, e2, q⟩ => by cases e1; cases e2; exact ⟨d, q⟩, fun ⟨d, q⟩ => ⟨_, _, d, .scr ns, rfl, rfl, q⟩⟩
theorem w_catT : oCatT (.tup xs) (.tup ys) μ Φ = (xs.length + ys.length ≤ 100000 ∧ Φ (.tup (xs ++ ys)) μ) := propext ⟨fun ⟨x, es, e1, e2, q⟩ => by cases e1; cases e2; exact q, fun q => ⟨_, _, rfl, rfl, q⟩⟩
theorem w_catL : oCatL (.lst xs) (.lst ys) μ Φ = (xs.length + ys.length ≤ 100000 ∧ Φ (.lst (xs ++ ys)) μ) := propext ⟨fun ⟨x, es, e1, e2, q⟩ => by cases e1; cases e2; exact q, fun q => ⟨_, _, rfl, rfl, q⟩⟩
theorem w_all {bs : List Bool} : cAll [.lst (bs.map .bl)] μ Φ = Φ (.bl (bs.all id)) μ := propext (Iff.intro (by
  rintro ⟨cs, e, q⟩
  have e2 : bs = cs := by
    injection e with e _
    injection e with e
    exact (List.map_inj_right (fun _ _ z => by cases z; rfl)).mp e
  subst e2
  exact q) (fun q => ⟨bs, rfl, q⟩))
theorem w_any {bs : List Bool} : cAny [.lst (bs.map .bl)] μ Φ = Φ (.bl (bs.any id)) μ := propext (Iff.intro (by
  rintro ⟨cs, e, q⟩
  have e2 : bs = cs := by
    injection e with e _
    injection e with e
    exact (List.map_inj_right (fun _ _ z => by cases z; rfl)).mp e
  subst e2
  exact q) (fun q => ⟨bs, rfl, q⟩))
theorem w_min2 : cMin2 [.int i, .int j] μ Φ = Φ (.int (if j < i then j else i)) μ := propext ⟨fun ⟨a, b, e, q⟩ => by cases e; exact q, fun q => ⟨_, _, rfl, q⟩⟩
theorem w_divmod : cDivmod [.int i, .int j] μ Φ = (CDivP i j ∧ Φ (.pr [.int (i / j), .int (i % j)]) μ) := propext ⟨fun ⟨a, b, e, q⟩ => by cases e; exact q, fun q => ⟨_, _, rfl, q⟩⟩
theorem w_listS {ns : List Int} : cList [.scr ns] μ Φ = Φ (.lst (ns.map .int)) μ := propext ⟨fun ⟨x, es, e, h, q⟩ => by cases e; cases h; exact q, fun q => ⟨_, _, rfl, .scr ns, q⟩⟩
theorem w_listL : cList [.lst ds] μ Φ = Φ (.lst ds) μ := propext ⟨fun ⟨x, es, e, h, q⟩ => by cases e; cases h; exact q, fun q => ⟨_, _, rfl, .lst ds, q⟩⟩
theorem w_listT : cList [.tup ds] μ Φ = Φ (.lst ds) μ := propext ⟨fun ⟨x, es, e, h, q⟩ => by cases e; cases h; exact q, fun q => ⟨_, _, rfl, .tup ds, q⟩⟩
theorem w_isN {x : D} : oIsN x .non μ Φ = ∃ b, isNone x = some b ∧ Φ (.bl b) μ := propext ⟨fun ⟨_, q⟩ => q, fun q => ⟨rfl, q⟩⟩
theorem w_notN {x : D} : oNotN x .non μ Φ = ∃ b, isNone x = some b ∧ Φ (.bl (!b)) μ := propext ⟨fun ⟨_, q⟩ => q, fun q => ⟨rfl, q⟩⟩
section
variable {φ φa φb φc : DE} {γ : DG} {ω ζ : DSt} {θ ϑ : DT} {ψ : DA} {ρ ρ' : DO} {σ : DU} {κ : DC} {c : Con} {n : Nat} {C : Addr} {d : D} {Th : Bool → Sto → Prop} {Ls : List D → Sto → Prop} {Pn : DEnv → Sto → Prop} {η : List D → DEnv → Sto → (DEnv → Sto → Prop) → Prop} {ol oh : XP → DEnv → Sto → (Option Int → Sto → Prop) → Prop} {Xo : Option Int → Sto → Prop}
theorem u_seq : dSeq ω ζ Ψ Δ δ μ = ω Ψ { Δ with nx := ζ Ψ Δ } δ μ := rfl
theorem u_asg : dAsg φ γ Ψ Δ δ μ = φ Ψ δ μ fun x μ1 => γ x δ μ1 Δ.nx := rfl
theorem u_asgS : dAsgS φ φa φb Ψ Δ δ μ = φ Ψ δ μ fun x μ1 => eSub φa φb Ψ x δ μ1 Δ.nx := rfl
theorem u_ret : dRet φ Ψ Δ δ μ = φ Ψ δ μ Δ.rt := rfl
theorem u_retN : dRetN Ψ Δ δ μ = Δ.rt .non μ := rfl
theorem u_if : dIfS θ ω ζ Ψ Δ δ μ = θ Ψ δ μ fun b μ1 => (b = true → ω Ψ Δ δ μ1) ∧ (b = false → ζ Ψ Δ δ μ1) := rfl
theorem u_next : dNext Ψ Δ δ μ = Δ.nx δ μ := rfl
theorem u_break : dBreak Ψ Δ δ μ = Δ.bk δ μ := rfl
theorem u_cont : dCont Ψ Δ δ μ = Δ.ct δ μ := rfl
theorem u_drop : dDrop φ Ψ Δ δ μ = φ Ψ δ μ fun _ μ1 => Δ.nx δ μ1 := rfl
theorem u_raise : dRaise0 C Ψ Δ δ μ = Ψ (.mk C none) δ μ := rfl
theorem u_aug : dAug n φ ρ Ψ Δ δ μ = ∃ x, δ[n]? = some (some x) ∧ φ Ψ δ μ fun y μ1 => ρ x y μ1 fun z μ2 => Δ.nx (δ.set n (some z)) μ2 := rfl
theorem u_var : dVar n Ψ δ μ Φ = ∃ d, δ[n]? = some (some d) ∧ Φ d μ := rfl
theorem u_rest : dRest n Ψ δ μ Φ = ∃ a ds, δ[n]? = some (some (.hd (.ref a))) ∧ μ a = some (.lst ds) ∧ Φ (.lst ds) (sset μ a (.frz ds)) := rfl
theorem u_c : dC d Ψ δ μ Φ = Φ d μ := rfl
theorem u_op : dOp ρ φa φb Ψ δ μ Φ = φa Ψ δ μ fun x μ1 => φb Ψ δ μ1 fun y μ2 => ρ x y μ2 Φ := rfl
theorem u_un : dUn σ φa Ψ δ μ Φ = φa Ψ δ μ fun x μ1 => σ x μ1 Φ := rfl
theorem u_test : dTest φ Ψ δ μ Th = φ Ψ δ μ fun x μ1 => ∃ b, x = .bl b ∧ Th b μ1 := rfl
theorem u_and : dAnd θ ϑ Ψ δ μ Th = θ Ψ δ μ fun b μ1 => (b = true → ϑ Ψ δ μ1 Th) ∧ (b = false → Th false μ1) := rfl
theorem u_or : dOr θ ϑ Ψ δ μ Th = θ Ψ δ μ fun b μ1 => (b = true → Th true μ1) ∧ (b = false → ϑ Ψ δ μ1 Th) := rfl
theorem u_not : dNot θ Ψ δ μ Th = θ Ψ δ μ fun b μ1 => Th (!b) μ1 := rfl
theorem u_yes : dYes Ψ δ μ Th = Th true μ := rfl
theorem u_andV : dAndV φa φb Ψ δ μ Φ = φa Ψ δ μ fun x μ1 => ∃ b, x = .bl b ∧ (b = true → φb Ψ δ μ1 Φ) ∧ (b = false → Φ (.bl false) μ1) := rfl
theorem u_orV : dOrV φa φb Ψ δ μ Φ = φa Ψ δ μ fun x μ1 => ∃ b, x = .bl b ∧ (b = true → Φ (.bl true) μ1) ∧ (b = false → φb Ψ δ μ1 Φ) := rfl
theorem u_notV : dNotV φa Ψ δ μ Φ = φa Ψ δ μ fun x μ1 => ∃ b, x = .bl b ∧ Φ (.bl (!b)) μ1 := rfl
theorem u_ifE : dIf θ φa φb Ψ δ μ Φ = θ Ψ δ μ fun b μ1 => (b = true → φa Ψ δ μ1 Φ) ∧ (b = false → φb Ψ δ μ1 Φ) := rfl
theorem u_chain : dChain ρ ρ' φa φb φc Ψ δ μ Φ = φa Ψ δ μ fun x μ1 => φb Ψ δ μ1 fun y μ2 => ρ x y μ2 fun z μ3 => ∃ b, z = .bl b ∧ (b = true → φc Ψ δ μ3 fun u μ4 => ρ' y u μ4 Φ) ∧ (b = false → Φ (.bl false) μ3) := rfl
theorem u_nil : dNil Ψ δ μ Ls = Ls [] μ := rfl
theorem u_cons : dCons φ ψ Ψ δ μ Ls = φ Ψ δ μ fun x μ1 => ψ Ψ δ μ1 fun xs μ2 => Ls (x :: xs) μ2 := rfl
theorem u_tup : dTup ψ Ψ δ μ Φ = ψ Ψ δ μ fun xs μ1 => xs.length ≤ 100000 ∧ Φ (.tup xs) μ1 := rfl
theorem u_lst : dLst ψ Ψ δ μ Φ = ψ Ψ δ μ fun xs μ1 => xs.length ≤ 100000 ∧ Φ (.lst xs) μ1 := rfl
theorem u_own : dOwn ψ Ψ δ μ Φ = ψ Ψ δ μ fun xs μ1 => xs.length ≤ 100000 ∧ ∀ p, μ1 p = none → Φ (.hd (.ref p)) (sset μ1 p (.lst xs)) := rfl
theorem u_cb : dCB κ ψ Ψ δ μ Φ = ψ Ψ δ μ fun xs μ1 => κ xs μ1 Φ := rfl
theorem u_call : dCall c ψ Ψ δ μ Φ = ψ Ψ δ μ fun xs μ1 => c xs μ1 Φ fun _ _ => False := rfl
theorem u_callS : dCallS c ψ Ψ δ μ Φ = ψ Ψ δ μ fun xs μ1 => c xs μ1 Φ fun x μ2 => Ψ x δ μ2 := rfl
theorem u_name : eName n d δ μ Pn = Pn (δ.set n (some d)) μ := rfl
theorem u_etup : eTup n η d δ μ Pn = ∃ ds, tpl d = some ds ∧ ds.length = n ∧ η ds δ μ Pn := rfl
theorem w_tplT {P : List D → Prop} : (∃ es, tpl (.tup ds) = some es ∧ P es) = P ds := propext ⟨fun ⟨c, e, q⟩ => by cases e; exact q, fun q => ⟨ds, rfl, q⟩⟩
theorem w_tplP {P : List D → Prop} : (∃ es, tpl (.pr ds) = some es ∧ P es) = P ds := propext ⟨fun ⟨c, e, q⟩ => by cases e; exact q, fun q => ⟨ds, rfl, q⟩⟩
theorem u_enil : eNil xs δ μ Pn = (xs = [] ∧ Pn δ μ) := rfl
theorem u_econs : eCons γ η xs δ μ Pn = ∃ d r, xs = d :: r ∧ γ d δ μ fun δ' μ' => η r δ' μ' Pn := rfl
theorem u_sub : eSub φa φb Ψ d δ μ Pn = φa Ψ δ μ fun x μ1 => φb Ψ δ μ1 fun y μ2 => ∃ a ds i j, x = .hd (.ref a) ∧ y = .int i ∧ μ2 a = some (.lst ds) ∧ ixN ds.length i = some j ∧ Pn δ (sset μ2 a (.lst (ds.set j d))) := rfl
theorem u_app : dApp φa φb Ψ δ μ Φ = φa Ψ δ μ fun x μ1 => ∃ a ds, x = .hd (.ref a) ∧ μ1 a = some (.lst ds) ∧ φb Ψ δ μ1 fun y μ2 => ∃ es, μ2 a = some (.lst es) ∧ es.length ≤ 100000 ∧ Φ .non (sset μ2 a (.lst (es ++ [y]))) := rfl
theorem u_slT : dSlT φ ol oh Ψ δ μ Φ = φ Ψ δ μ fun x μ1 => ol Ψ δ μ1 fun lo μ2 => oh Ψ δ μ2 fun hi μ3 => ∃ ds, x = .tup ds ∧ Φ (.tup (cutD ds lo hi)) μ3 := rfl
theorem u_slL : dSlL φ ol oh Ψ δ μ Φ = φ Ψ δ μ fun x μ1 => ol Ψ δ μ1 fun lo μ2 => oh Ψ δ μ2 fun hi μ3 => ∃ ds, Items μ3 x ds ∧ isTup x = false ∧ Φ (.lst (cutD ds lo hi)) μ3 := rfl
theorem u_noPart : dNoPart Ψ δ μ Xo = Xo none μ := rfl
theorem u_part : dPart φ Ψ δ μ Xo = φ Ψ δ μ fun x μ1 => ∃ i, x = .int i ∧ Xo (some i) μ1 := rfl
theorem u_revL : dRevL φ Ψ δ μ Φ = φ Ψ δ μ fun x μ1 => ∃ ds, Items μ1 x ds ∧ isTup x = false ∧ Φ (.lst ds.reverse) μ1 := rfl
end
theorem w_tupE {P : List D → Prop} : (∃ es, D.tup ds = .tup es ∧ P es) = P ds := propext ⟨fun ⟨c, e, q⟩ => by cases e; exact q, fun q => ⟨ds, rfl, q⟩⟩
theorem w_intE {P : Int → Prop} : (∃ j, D.int i = .int j ∧ P j) = P i := propext ⟨fun ⟨c, e, q⟩ => by cases e; exact q, fun q => ⟨i, rfl, q⟩⟩
theorem w_consE {P : D → List D → Prop} : (∃ d r, x :: xs = d :: r ∧ P d r) = P x xs := propext ⟨fun ⟨c, r, e, q⟩ => by cases e; exact q, fun q => ⟨x, xs, rfl, q⟩⟩
theorem w_hdE {a : Addr} {P : Addr → List D → Prop} : (∃ b es, D.hd (.ref a) = .hd (.ref b) ∧ P b es) = ∃ es, P a es := propext ⟨fun ⟨b, es, e, q⟩ => by cases e; exact ⟨es, q⟩, fun ⟨es, q⟩ => ⟨a, es, rfl, q⟩⟩
theorem w_cell {a : Addr} {P : List D → Prop} (h : μ a = some (.lst ds)) : (∃ es, μ a = some (.lst es) ∧ P es) = P ds := propext ⟨fun ⟨es, e, q⟩ => by rw [h] at e; cases e; exact q, fun q => ⟨ds, h, q⟩⟩
theorem w_cellS {a : Addr} {P : List D → Prop} : (∃ es, sset μ a (.lst ds) a = some (.lst es) ∧ P es) = P ds := w_cell sset_same
theorem w_set {a : Addr} {P' : Addr → List D → Nat → Prop} : (∃ b es k j, D.hd (.ref a) = .hd (.ref b) ∧ D.int i = .int k ∧ μ b = some (.lst es) ∧ ixN es.length k = some j ∧ P' b es j) = (∃ es, μ a = some (.lst es) ∧ ∃ j, ixN es.length i = some j ∧ P' a es j) := propext ⟨fun ⟨b, es, k, j, e1, e2, q1, q2⟩ => by cases e1; cases e2; exact ⟨es, q1, j, q2⟩, fun ⟨es, q1, j, q2⟩ => ⟨a, es, i, j, rfl, rfl, q1, q2⟩⟩
theorem at0 {P : D → Prop} {x0 : D} : (∃ d, atI (x0 :: xs) 0 = some d ∧ P d) = P x0 := propext ⟨fun ⟨d, e, q⟩ => by rw [show (0 : Int) = ((0 : Nat) : Int) from rfl, atI_nat (j := 0) rfl] at e; cases e; exact q, fun q => ⟨x0, atI_nat (j := 0) rfl, q⟩⟩
theorem at1 {P : D → Prop} {x0 x1 : D} : (∃ d, atI (x0 :: x1 :: xs) 1 = some d ∧ P d) = P x1 := propext ⟨fun ⟨d, e, q⟩ => by rw [show (1 : Int) = ((1 : Nat) : Int) from rfl, atI_nat (j := 1) rfl] at e; cases e; exact q, fun q => ⟨x1, atI_nat (j := 1) rfl, q⟩⟩
theorem at2 {P : D → Prop} {x0 x1 x2 : D} : (∃ d, atI (x0 :: x1 :: x2 :: xs) 2 = some d ∧ P d) = P x2 := propext ⟨fun ⟨d, e, q⟩ => by rw [show (2 : Int) = ((2 : Nat) : Int) from rfl, atI_nat (j := 2) rfl] at e; cases e; exact q, fun q => ⟨x2, atI_nat (j := 2) rfl, q⟩⟩
theorem at3 {P : D → Prop} {x0 x1 x2 x3 : D} : (∃ d, atI (x0 :: x1 :: x2 :: x3 :: xs) 3 = some d ∧ P d) = P x3 := propext ⟨fun ⟨d, e, q⟩ => by rw [show (3 : Int) = ((3 : Nat) : Int) from rfl, atI_nat (j := 3) rfl] at e; cases e; exact q, fun q => ⟨x3, atI_nat (j := 3) rfl, q⟩⟩
theorem ix40 {P : Nat → Prop} : (∃ j, ixN 4 0 = some j ∧ P j) = P 0 := propext ⟨fun ⟨j, e, q⟩ => by cases e; exact q, fun q => ⟨0, rfl, q⟩⟩
theorem ix42 {P : Nat → Prop} : (∃ j, ixN 4 2 = some j ∧ P j) = P 2 := propext ⟨fun ⟨j, e, q⟩ => by cases e; exact q, fun q => ⟨2, rfl, q⟩⟩
theorem ix43 {P : Nat → Prop} : (∃ j, ixN 4 3 = some j ∧ P j) = P 3 := propext ⟨fun ⟨j, e, q⟩ => by cases e; exact q, fun q => ⟨3, rfl, q⟩⟩
theorem mapI_get {ws : List Int} {i : Nat} {d : D} (h : (ws.map D.int)[i]? = some d) : ∃ z, ws[i]? = some z ∧ d = .int z := by
  rw [List.getElem?_map] at h
  cases e : ws[i]? with
  | none => rw [e] at h; cases h
  | some z => rw [e] at h; cases h; exact ⟨z, rfl, rfl⟩
theorem v_ixH {a : Addr} : oIxL (.hd (.ref a)) (.int i) μ Φ = ((∃ es, μ a = some (.lst es) ∧ ∃ d, atI es i = some d ∧ Φ d μ) ∨ (∃ es, μ a = some (.frz es) ∧ ∃ d, atI es i = some d ∧ Φ d μ)) := propext (Iff.intro (by
  rintro ⟨es, k, d, hi, _, e, q⟩
  cases e
  cases hi with
  | own h => exact .inl ⟨es, h, d, q⟩
  | frz h => exact .inr ⟨es, h, d, q⟩) (by
  rintro (⟨es, h, d, q⟩ | ⟨es, h, d, q⟩)
  · exact ⟨es, i, d, .own h, rfl, rfl, q⟩
  · exact ⟨es, i, d, .frz h, rfl, rfl, q⟩))
theorem v_items {a : Addr} {P : List D → Prop} : (∃ es, Items μ (.hd (.ref a)) es ∧ P es) = ((∃ es, μ a = some (.lst es) ∧ P es) ∨ (∃ es, μ a = some (.frz es) ∧ P es)) := propext (Iff.intro (by
  rintro ⟨es, hi, q⟩
  cases hi with
  | own h => exact .inl ⟨es, h, q⟩
  | frz h => exact .inr ⟨es, h, q⟩) (by
  rintro (⟨es, h, q⟩ | ⟨es, h, q⟩)
  · exact ⟨es, .own h, q⟩
  · exact ⟨es, .frz h, q⟩))
theorem v_itemsT {P : List D → Prop} : (∃ es, Items μ (.tup ds) es ∧ P es) = P ds := propext ⟨fun ⟨es, h, q⟩ => by cases h; exact q, fun q => ⟨ds, .tup ds, q⟩⟩
theorem v_itemsL {P : List D → Prop} : (∃ es, Items μ (.lst ds) es ∧ P es) = P ds := propext ⟨fun ⟨es, h, q⟩ => by cases h; exact q, fun q => ⟨ds, .lst ds, q⟩⟩
theorem v_itemsS {ns : List Int} {P : List D → Prop} : (∃ es, Items μ (.scr ns) es ∧ P es) = P (ns.map .int) := propext ⟨fun ⟨es, h, q⟩ => by cases h; exact q, fun q => ⟨_, .scr ns, q⟩⟩
theorem v_len : cLen [x] μ Φ = ∃ es, Items μ x es ∧ Φ (.int es.length) μ := propext ⟨fun ⟨y, es, e, h, q⟩ => by cases e; exact ⟨es, h, q⟩, fun ⟨es, h, q⟩ => ⟨x, es, rfl, h, q⟩⟩
theorem v_tuple : cTuple [x] μ Φ = ∃ es, Items μ x es ∧ Φ (.tup es) μ := propext ⟨fun ⟨y, es, e, h, q⟩ => by cases e; exact ⟨es, h, q⟩, fun ⟨es, h, q⟩ => ⟨x, es, rfl, h, q⟩⟩
theorem v_list : cList [x] μ Φ = ∃ es, Items μ x es ∧ Φ (.lst es) μ := propext ⟨fun ⟨y, es, e, h, q⟩ => by cases e; exact ⟨es, h, q⟩, fun ⟨es, h, q⟩ => ⟨x, es, rfl, h, q⟩⟩
theorem v_listOwn : cListOwn [x] μ Φ = ∃ es, Items μ x es ∧ ∀ p, μ p = none → Φ (.hd (.ref p)) (sset μ p (.lst es)) := propext ⟨fun ⟨y, es, e, h, q⟩ => by cases e; exact ⟨es, h, q⟩, fun ⟨es, h, q⟩ => ⟨x, es, rfl, h, q⟩⟩
section
variable {T : String}
theorem i_tT : instB (.tup xs) "tuple" = some true := rfl
theorem i_tI : instB (.tup xs) "int" = some false := rfl
theorem i_tB : instB (.tup xs) "bool" = some false := rfl
theorem i_tS : instB (.tup xs) "str" = some false := rfl
theorem i_nT : instB .non "tuple" = some false := rfl
theorem i_nI : instB .non "int" = some false := rfl
theorem i_nB : instB .non "bool" = some false := rfl
theorem i_nS : instB .non "str" = some false := rfl
theorem i_iT : instB (.int i) "tuple" = some false := rfl
theorem i_iI : instB (.int i) "int" = some true := rfl
theorem i_iB : instB (.int i) "bool" = some false := rfl
theorem i_iS : instB (.int i) "str" = some false := rfl
theorem i_bT : instB (.bl b) "tuple" = some false := rfl
theorem i_bI : instB (.bl b) "int" = some true := rfl
theorem i_bB : instB (.bl b) "bool" = some true := rfl
theorem i_bS : instB (.bl b) "str" = some false := rfl
theorem i_sT : instB (.str s) "tuple" = some false := rfl
theorem i_sI : instB (.str s) "int" = some false := rfl
theorem i_sB : instB (.str s) "bool" = some false := rfl
theorem i_sS : instB (.str s) "str" = some true := rfl
end
theorem w_eqB {c : Bool} : oEq (.bl b) (.bl c) μ Φ = Φ (.bl (decide (b = c))) μ := w_someb
/-- the turns of a comprehension that changes nothing -/
def givenD (n : Nat) (f : Nat → Bool) (v : Nat → D) : List D := ((List.range n).filter f).map v
theorem givenD_yes {n : Nat} {f : Nat → Bool} {v : Nat → D} (h : f n = true) : givenD (n + 1) f v = givenD n f v ++ [v n] := by
  unfold givenD
  rw [List.range_succ, List.filter_append, List.map_append, List.filter_cons, if_pos h] <;> rfl
theorem givenD_no {n : Nat} {f : Nat → Bool} {v : Nat → D} (h : f n = false) : givenD (n + 1) f v = givenD n f v := by
  unfold givenD
  rw [List.range_succ, List.filter_append, List.map_append, List.filter_cons, if_neg (by rw [h]; decide)]
  exact List.append_nil _
theorem givenD_len (n : Nat) (f : Nat → Bool) (v : Nat → D) : (givenD n f v).length ≤ n := by
  unfold givenD
  rw [List.length_map]
  have h := List.length_filter_le f (List.range n)
  rw [List.length_range] at h
  exact h
theorem givenD_all (n : Nat) (v : Nat → D) : givenD n (fun _ => true) v = (List.range n).map v := by
  unfold givenD
  rw [List.filter_eq_self.mpr fun _ _ => rfl]
theorem lc_go {γ : DG} {θ : DT} {φ : DE} {δw : DEnv} {μ1 : Sto} {xs : List D} (f : Nat → Bool) (v : Nat → D) (hz : xs.length ≤ 100000)
    (hs : ∀ (i : Nat) (d : D) (μ2 : Sto) (X : DK) (Y : Sto → Prop), xs[i]? = some d → Sub μ1 μ2 → (f i = true → X (v i) μ2) → (f i = false → Y μ2) →
      γ d δw μ2 fun δ3 μ3 => θ Ψ δ3 μ3 fun b μ4 => (b = true → φ Ψ δ3 μ4 X) ∧ (b = false → Y μ4))
    (hd : Φ (.lst (givenD xs.length f v)) μ1) : ∀ p, μ1 p = none → ∃ W : Nat → Sto → Prop, W 0 (sset μ1 p (.lst [])) ∧
  (∀ i d μ2, xs[i]? = some d → W i μ2 → γ d δw μ2 fun δ3 μ3 => θ Ψ δ3 μ3 fun b μ4 =>
    (b = true → φ Ψ δ3 μ4 fun y μ5 => ∃ acc, μ5 p = some (.lst acc) ∧ acc.length ≤ 100000 ∧ W (i + 1) (sset μ5 p (.lst (acc ++ [y])))) ∧ (b = false → W (i + 1) μ4)) ∧
  ∀ μ2, W xs.length μ2 → ∃ acc, μ2 p = some (.lst acc) ∧ Φ (.lst acc) (sdel μ2 p) := fun p hp => by
  refine ⟨fun i μ' => μ' = sset μ1 p (.lst (givenD i f v)), rfl, fun i d μ2 hi e => ?_, fun μ2 e => ?_⟩
  · subst e
    have hl : i < xs.length := (List.getElem?_eq_some_iff.mp hi).1
    refine hs i d _ _ _ hi (.set Sub.refl hp) (fun hf => ⟨_, sset_same, ?_, ?_⟩) fun hf => ?_
    · have := givenD_len i f v; omega
    · show sset (sset μ1 p (.lst (givenD i f v))) p (.lst (givenD i f v ++ [v i])) = sset μ1 p (.lst (givenD (i + 1) f v))
      rw [sset_sset, givenD_yes hf]
    · show sset μ1 p (.lst (givenD i f v)) = sset μ1 p (.lst (givenD (i + 1) f v))
      rw [givenD_no hf]
  · subst e
    refine ⟨_, sset_same, ?_⟩
    rw [sdel_sset hp]
    exact hd
/-- the list of a comprehension -/
def LcG (γ : DG) (θ : DT) (φ : DE) (δw : DEnv) (Ψ : XP) (xs : List D) (μ1 : Sto) (Φ : DK) : Prop := ∀ p, μ1 p = none → ∃ W : Nat → Sto → Prop, W 0 (sset μ1 p (.lst [])) ∧
  (∀ i d μ2, xs[i]? = some d → W i μ2 → γ d δw μ2 fun δ3 μ3 => θ Ψ δ3 μ3 fun b μ4 =>
    (b = true → φ Ψ δ3 μ4 fun y μ5 => ∃ acc, μ5 p = some (.lst acc) ∧ acc.length ≤ 100000 ∧ W (i + 1) (sset μ5 p (.lst (acc ++ [y])))) ∧ (b = false → W (i + 1) μ4)) ∧
  ∀ μ2, W xs.length μ2 → ∃ acc, μ2 p = some (.lst acc) ∧ Φ (.lst acc) (sdel μ2 p)
theorem u_lc {ι : DI} {γ : DG} {θ : DT} {φ : DE} {vs : List Nat} : dLc ι γ θ φ vs Ψ δ μ Φ = ι Ψ δ μ fun xs μ1 => LcG γ θ φ (dwipe δ vs) Ψ xs μ1 Φ := rfl
theorem lcG_pure {γ : DG} {θ : DT} {φ : DE} {δw : DEnv} {μ1 : Sto} {xs : List D} (f : Nat → Bool) (v : Nat → D) (hz : xs.length ≤ 100000)
    (hs : ∀ (i : Nat) (d : D) (μ2 : Sto) (X : DK) (Y : Sto → Prop), xs[i]? = some d → Sub μ1 μ2 → (f i = true → X (v i) μ2) → (f i = false → Y μ2) →
      γ d δw μ2 fun δ3 μ3 => θ Ψ δ3 μ3 fun b μ4 => (b = true → φ Ψ δ3 μ4 X) ∧ (b = false → Y μ4))
    (hd : Φ (.lst (givenD xs.length f v)) μ1) : LcG γ θ φ δw Ψ xs μ1 Φ := lc_go f v hz hs hd
/-- each item gives one -/
theorem lcG_map {γ : DG} {φ : DE} {δw : DEnv} {μ1 : Sto} {xs : List D} (v : Nat → D) (hz : xs.length ≤ 100000)
    (hs : ∀ (i : Nat) (d : D) (μ2 : Sto) (X : DK), xs[i]? = some d → Sub μ1 μ2 → X (v i) μ2 → γ d δw μ2 fun δ3 μ3 => φ Ψ δ3 μ3 X)
    (hd : Φ (.lst ((List.range xs.length).map v)) μ1) (mono : ∀ d δ μ (P Q : DEnv → Sto → Prop), (∀ a b, P a b → Q a b) → γ d δ μ P → γ d δ μ Q) : LcG γ dYes φ δw Ψ xs μ1 Φ := by
  refine lcG_pure (fun _ => true) v hz (fun i d μ2 X Y hi hsub hx hy => ?_) (by rw [givenD_all]; exact hd)
  exact mono _ _ _ _ _ (fun δ3 μ3 h => ⟨fun _ => h, fun z => nomatch z⟩) (hs i d μ2 X hi hsub (hx rfl))
theorem lcG_mapN {n : Nat} {φ : DE} {δw : DEnv} {μ1 : Sto} {xs : List D} (v : Nat → D) (hz : xs.length ≤ 100000)
    (hs : ∀ (i : Nat) (d : D) (μ2 : Sto) (X : DK), xs[i]? = some d → Sub μ1 μ2 → X (v i) μ2 → φ Ψ (δw.set n (some d)) μ2 X)
    (hd : Φ (.lst ((List.range xs.length).map v)) μ1) : LcG (eName n) dYes φ δw Ψ xs μ1 Φ :=
  lcG_map v hz hs hd fun d δ μ P Q h q => h _ _ q
theorem u_for {ι : DI} {γ : DG} {ω : DSt} : dFor ι γ ω Ψ Δ δ μ = ι Ψ δ μ fun xs μ1 => ∃ W : Nat → DEnv → Sto → Prop, W 0 δ μ1 ∧
  (∀ i d δ' μ', xs[i]? = some d → W i δ' μ' → γ d δ' μ' fun δ2 μ2 => ω Ψ { Δ with nx := W (i + 1), ct := W (i + 1), bk := Δ.nx } δ2 μ2) ∧ ∀ δ' μ', W xs.length δ' μ' → Δ.nx δ' μ' := rfl
section
variable {φ φ' : DE} {Ls : List D → Sto → Prop}
theorem u_iT : iSeqT φ Ψ δ μ Ls = φ Ψ δ μ fun x μ1 => ∃ ds, x = .tup ds ∧ Ls ds μ1 := rfl
theorem u_iL : iSeqL φ Ψ δ μ Ls = φ Ψ δ μ fun x μ1 => ∃ ds, x = .lst ds ∧ Ls ds μ1 := rfl
theorem u_iR1 : iR1 φ Ψ δ μ Ls = φ Ψ δ μ fun x μ1 => ∃ j, x = .int j ∧ j < 4611686018427387904 ∧ -4611686018427387904 ≤ j ∧ Ls (rngD 0 j.toNat) μ1 := rfl
theorem u_iR2 : iR2 φ φ' Ψ δ μ Ls = φ Ψ δ μ fun x μ1 => φ' Ψ δ μ1 fun y μ2 => ∃ i j, x = .int i ∧ y = .int j ∧ (-4611686018427387904 ≤ i ∧ i < 4611686018427387904 ∧ -4611686018427387904 ≤ j ∧ j < 4611686018427387904) ∧ Ls (rngD i (j - i).toNat) μ2 := rfl
theorem u_iZ : iZipT φ φ' Ψ δ μ Ls = φ Ψ δ μ fun x μ1 => φ' Ψ δ μ1 fun y μ2 => ∃ xs ys, x = .tup xs ∧ y = .tup ys ∧ Ls ((xs.zip ys).map fun p => .pr [p.1, p.2]) μ2 := rfl
theorem u_iS : iText φ Ψ δ μ Ls = φ Ψ δ μ fun x μ1 => ∃ s, x = .str s ∧ Ls (s.cps.toList.map fun c => .str ⟨#[c]⟩) μ1 := rfl
end
theorem w_lstE {P : List D → Prop} : (∃ es, D.lst ds = .lst es ∧ P es) = P ds := propext ⟨fun ⟨c, e, q⟩ => by cases e; exact q, fun q => ⟨ds, rfl, q⟩⟩
theorem rngD_get {lo : Int} {n i : Nat} {d : D} (h : (rngD lo n)[i]? = some d) : i < n ∧ d = .int (lo + (i : Int)) := by
  have hl := (List.getElem?_eq_some_iff.mp h).1
  rw [rngD_len] at hl
  rw [rngD_at hl] at h
  cases h
  exact ⟨hl, rfl⟩
theorem w_allB {P : List Bool} (e : ds = P.map .bl) (h : Φ (.bl (P.all id)) μ) : cAll [.lst ds] μ Φ := ⟨P, by rw [e], h⟩
/-- one statement, what follows named -/
theorem q_seq {ω ζ : DSt} (h : ∀ nx, nx = ζ Ψ Δ → ω Ψ ⟨nx, Δ.rt, Δ.bk, Δ.ct⟩ δ μ) : dSeq ω ζ Ψ Δ δ μ := h _ rfl
theorem atI_n {α : Type} {xs : List α} {j : Nat} {v : α} (h : xs[j]? = some v) : atI xs (j : Int) = some v := atI_nat h
theorem ret_same {Φ : DK} {d : D} {μ : Sto} (h : Φ d μ) : ∃ μ2, Sub μ2 μ ∧ Φ d μ2 := ⟨μ, Sub.refl, h⟩
theorem mulx (a b : Nat) (h1 : i.natAbs < 2 ^ a) (h2 : j.natAbs < 2 ^ b) (h : a + b ≤ 134217728) : CMulX i j := mulx_ok h1 h2 h
end
end DW
set_option Elab.async false
set_option linter.all false
set_option maxRecDepth 100000
set_option maxHeartbeats 4000000
namespace DW
open PySem PySem.Spec PyProof.Rows L2 HT
section
variable {prog : Program} {w : World} {A : Around} {E : Value → Shared → Prop} {s : Shared}
theorem revAdjust (n : Nat) : Builtin.Slice.sliceAdjust none none (-1) (n : Int) = ((n : Int) - 1, -1) := by
  unfold Builtin.Slice.sliceAdjust
  simp
theorem revPlaces (n : Nat) : Builtin.Slice.slicePlaces ((n : Int) - 1) (-1) (-1) = n := by
  unfold Builtin.Slice.slicePlaces
  rw [if_neg (by omega)]
  by_cases h : n = 0
  · subst h; simp
  · rw [if_pos (by omega)]
    have : (((n : Int) - 1) - (-1) - 1) / (- (-1 : Int)) + 1 = (n : Int) := by rw [show (- (-1 : Int)) = 1 from by decide, Int.ediv_one]; omega
    rw [this]
    omega
theorem revPick (xs : Array Value) : ((List.range xs.size).filterMap fun (k : Nat) => xs[(((xs.size : Nat) : Int) - 1 + (k : Int) * (-1)).toNat]?).toArray = xs.toList.reverse.toArray := by
  congr 1
  have h : ∀ n, n ≤ xs.size → ((List.range n).filterMap fun (k : Nat) => xs[(((xs.size : Nat) : Int) - 1 + (k : Int) * (-1)).toNat]?) = xs.toList.reverse.take n := by
    intro n
    induction n with
    | zero => intro _; rfl
    | succ n ih =>
      intro hn
      have e1 : (((xs.size : Nat) : Int) - 1 + ((n : Nat) : Int) * (-1)).toNat = xs.size - 1 - n := by omega
      have hl : n < xs.toList.reverse.length := by simp; omega
      rw [List.range_succ, List.filterMap_append, ih (by omega), List.take_add_one, List.getElem?_eq_getElem hl]
      congr 1
      have e2 : xs[xs.size - 1 - n]? = some xs.toList.reverse[n] := by
        rw [List.getElem_reverse, ← Array.getElem?_toList]
        rw [List.getElem?_eq_getElem (by simp; omega)]
        simp
      simp only [List.filterMap_cons, List.filterMap_nil, e1, e2]
      rfl
  rw [h xs.size (Nat.le_refl _), List.take_of_length_le (by simp)]
theorem sliceApplied_rev {sl : Addr} {vl vu vs : Value} {n : Nat} {Q : Int × Int × Nat → Shared → Prop} (hs : s.heap.IsSliceOf sl vl vu vs) (pl : IsPart vl none) (pu : IsPart vu none) (ps : IsPart vs (some (-1)))
    (h : Q ((n : Int) - 1, -1, n) s) : wpAny (model prog w) A (Builtin.Slice.sliceApplied (.ref sl) (pure (n : Int))) Q E s := by
  obtain ⟨os, hos, hcs, hds⟩ := id hs
  unfold Builtin.Slice.sliceApplied Builtin.Slice.sliceFields
  refine wpAny_bind (wpAny_bind (wpAny_field hos hds (x := vl) rfl (wpAny_bind (wpAny_field hos hds (x := vu) rfl (wpAny_bind (wpAny_field hos hds (x := vs) rfl (wpAny_pure ?_)))))))
  refine wpAny_bind (slicePart_ ps ?_)
  show wpAny _ _ (if ((-1 : Int) == 0) = true then _ else _) _ _ s
  rw [if_neg (by decide)]
  refine wpAny_bind (slicePart_ pl (wpAny_bind (slicePart_ pu (wpAny_bind (wpAny_pure ?_)))))
  show wpAny _ _ (match Builtin.Slice.sliceAdjust none none (-1) (n : Int) with | (lo, hi) => pure (lo, (-1 : Int), Builtin.Slice.slicePlaces lo hi (-1))) _ _ s
  rw [revAdjust n]
  show wpAny _ _ (pure ((n : Int) - 1, (-1 : Int), Builtin.Slice.slicePlaces ((n : Int) - 1) (-1) (-1))) _ _ s
  rw [revPlaces]
  exact wpAny_pure h
theorem getItem_tuple_rev {t sl : Addr} {items : Array Value} {vl vu vs : Value} {Q : Value → Shared → Prop} (ht : IsTup s.heap t items) (hs : s.heap.IsSliceOf sl vl vu vs) (pl : IsPart vl none) (pu : IsPart vu none) (ps : IsPart vs (some (-1)))
    (h : Q (.ref s.heap.objs.size) { s with heap := s.heap.push { cls := .type "tuple", data := .seq items.toList.reverse.toArray } })
    (hsz : items.size ≤ sizeLine) : wpAny (model prog w) A (getItem (.ref t) (.ref sl)) Q E s := by
  have htake : sizeOk (.seq items.toList.reverse.toArray) := by
    show items.toList.reverse.toArray.size ≤ sizeLine
    rw [List.size_toArray, List.length_reverse, Array.length_toList]
    exact hsz
  obtain ⟨os, hos, hcs, hds⟩ := id hs
  have hTs : s.TypeIs (.ref sl) "slice" := ⟨os, hos, hcs⟩
  unfold getItem
  try with_reducible refine wpAny_holding ?_
  first | refine wpAny_bind (wpAny_pure ?_) | skip
  refine wpAny_bind (wpAny_sequenceKey ht.typeIs (by decide) ?_)
  refine wpAny_bind (wpAny_callSpecial?_slot (name := Str.ofString "__getitem__") ht.typeIs PyProof.Rows.slot_tuple_getitem
    (wpAny_call_entry PyProof.Rows.slot_tuple_getitem ht.typeIs entry_tuple_getitem ?_ (args_tuple_getitem _ _)))
  show wpAny _ _ (Builtin.Tuple.tupleItemsOf (.ref t) >>= _) _ _ s
  refine wpAny_bind (tupleItemsOf_ ht ?_)
  refine wpAny_bind (wpAny_typeOf hTs ?_)
  rw [if_pos (by decide)]
  refine wpAny_bind (sliceApplied_rev hs pl pu ps ?_)
  have hno : ¬ ((((((items.size : Nat) : Int) - 1) == 0 && (-1 : Int) == 1 && items.size == items.size)) = true) := by
    intro q
    rw [Bool.and_eq_true, Bool.and_eq_true] at q
    exact absurd (eq_of_beq q.1.2) (by decide)
  show wpAny _ _ (if (((((items.size : Nat) : Int) - 1) == 0 && (-1 : Int) == 1 && items.size == items.size)) = true then _ else _) _ _ s
  rw [if_neg hno, revPick]
  first
    | exact wpAny_bind (m := Builtin.Tuple.tupleExact _) (wpAny_newObj_type (wpAny_pure ⟨_, rfl, wpAny_pure h⟩) htake)
    | exact wpAny_bind (m := Builtin.Tuple.tupleExact _) (wpAny_newObj_type (wpAny_bind (wpAny_pure (wpAny_pure ⟨_, rfl, wpAny_pure h⟩))) htake)
    | exact wpAny_bind (wpAny_bind (m := Builtin.Tuple.tupleExact _) (wpAny_newObj_type (wpAny_pure (wpAny_pure ⟨_, rfl, wpAny_pure h⟩)) htake))
    | exact wpAny_bind (wpAny_bind (m := Builtin.Tuple.tupleExact _) (wpAny_newObj_type (wpAny_pure ⟨_, rfl, wpAny_pure h⟩) htake))
end
def tRevT (K : Fg) (te : TE) : TE := fun σ H Q => te σ H fun x H1 => ∃ a xs, x = .ref a ∧ SqT K H1 a xs ∧ NewT H1 xs.reverse Q
theorem pe_revT {X : Cx} {e : Expr} {te : TE} {k : Nat} {p1 p2 p3 pos : Pos} (he : PE X e te) : PE X (.Subscript e (.Slice none none (some (.UnaryOp .USub (.Constant (.int 1) k p1) p2)) p3) pos) (tRevT X.K te) := by
  refine ⟨fun pins s σ H Q I h => ?_⟩
  refine Subscript_ (thn (he.run pins s σ H _ I h) fun v s1 ⟨x, H1, I1, r1, q1⟩ => ?_)
  obtain ⟨a, xs, ex, hx, q⟩ := q1
  subst ex
  cases r1
  have hst : PO X (some (.UnaryOp .USub (.Constant (.int 1) k p1) p2)) (tPart (tUn (rU fun i => .int (-i)) (tC (.int 1)))) := po_some (pe_un un_neg pe_int)
  refine wpAny_Slice (thn (po_none.run pins s1 σ H1 (fun o H2 => o = none ∧ H2 = H1) I1 ⟨rfl, rfl⟩) fun vl s2 ⟨l, H2, I2, pl, el, e2⟩ => ?_)
  subst el e2
  refine thn (po_none.run pins s2 σ H2 (fun o H3 => o = none ∧ H3 = H2) I2 ⟨rfl, rfl⟩) fun vu s3 ⟨u, H3, I3, pu, eu, e3⟩ => ?_
  subst eu e3
  refine thn (hst.run pins s3 σ H3 (fun o H4 => o = some (-1) ∧ H4 = H3) I3 ⟨1, rfl, -1, rfl, rfl, rfl⟩) fun vs s4 ⟨o, H4, I4, ps, eo, e4⟩ => ?_
  subst eo e4
  have I5 : Inv X pins σ H4 { s4 with heap := s4.heap.push { cls := .type "slice", data := .fields #[vl, vu, vs] } } := I4.kept (t' := s4.toks) fun b ob q => Heap.get?_push_of_some _ q
  obtain ⟨its, r, ht, hz⟩ := I5.tuple hx
  have hlen := r.length
  show wpAny (model X.prog X.w) X.A (subscriptTail e (.Slice none none (some (.UnaryOp .USub (.Constant (.int 1) k p1) p2)) p3) (.ref a) (.ref s4.heap.objs.size)) (EP X pins σ Q) X.xe { s4 with heap := s4.heap.push { cls := .type "slice", data := .fields #[vl, vu, vs] } }
  refine tail_any (ops := [.ref a, .ref s4.heap.objs.size]) ht.typeIs (PyProof.Rows.slot_tuple_getitem.lookup) ?_ (by with_unfolding_all rfl)
  refine getItem_tuple_rev ht (Heap.IsSliceOf.new _ vl vu vs) pl pu ps ?_ (by rw [List.size_toArray]; omega)
  exact new_tup I5 (by rw [List.length_reverse]; exact hz) r.reverse q
def dRevT (φ : DE) : DE := fun Ψ δ μ Φ => φ Ψ δ μ fun x μ1 => ∃ ds, x = .tup ds ∧ Φ (.tup ds.reverse) μ1
theorem sRevT {K : Fg} {B : Bx K} {te : TE} {φ : DE} (a : SE B te φ) : SE B (tRevT K te) (dRevT φ) := fun σ H δ μ Φ Q S q k =>
  a σ H δ μ _ _ S q fun v H1 x μ1 S1 e1 r1 q1 => by
    obtain ⟨ds, rfl, q2⟩ := q1
    obtain ⟨p, vs, rfl, h1, h2⟩ := Rep.tup_inv r1
    exact ⟨p, vs, rfl, h1.sq, fun p o ho hc hp => k _ _ _ μ1 (S1.step (.new hp) (S1.sto.new hp)) (e1.trans (.new hp)) (rep_tupN S1.sto hp ho hc h2.reverse) q2⟩
theorem tuple_mul1 (l : Addr) (items : Array Value) (n : Nat) (sl : Array (Option Value)) (dd : Option Addr) (x : Int) (u : Tok) (c0 : (decide (x < -(2 ^ 63)) || decide (x ≥ 2 ^ 63)) = false) (c1 : (items.isEmpty || x == 1) = true) :
    Meets (Builtin.«tuple.__mul__» ⟨[.ref l, .int x u], []⟩) (fun _ R s => s.heap.get? l = some { cls := .type "tuple", dict := dd, data := .seq items n, slots := sl } ∧ R (.ok (.ret (Value.ref l))) s) :=
  .of_wp fun prog w A R s h => by
    obtain ⟨hp, g, d, tk, os⟩ := s
    obtain ⟨hl, h⟩ := h
    have f1 := AutoSeq1.idx_int
    wp_walk using wpAny_loadPart' hl
    repeat (first
      | (refine wpAny_ite_false (decide_eq_false (by rw [c0]; exact Bool.false_ne_true)) ?_; wp_walk using wpAny_loadPart' hl)
      | (refine wpAny_ite_true (decide_eq_true (by rw [c1])) ?_; wp_walk using wpAny_loadPart' hl))
    exact ⟨_, rfl, h⟩
theorem tuple_mul0 (l : Addr) (items : Array Value) (n : Nat) (sl : Array (Option Value)) (dd : Option Addr) (x : Int) (u : Tok) (c0 : (decide (x < -(2 ^ 63)) || decide (x ≥ 2 ^ 63)) = false) (c1 : (items.isEmpty || x == 1) = false) (c2 : (decide (x ≤ 0) || items.isEmpty) = true) :
    Meets (Builtin.«tuple.__mul__» ⟨[.ref l, .int x u], []⟩) (fun _ R s => s.heap.get? l = some { cls := .type "tuple", dict := dd, data := .seq items n, slots := sl } ∧
      R (.ok (.ret (Value.ref s.heap.objs.size))) { s with heap := s.heap.push { cls := Value.type "tuple", data := Data.seq #[] }, toks := s.toks }) :=
  .of_wp fun prog w A R s h => by
    obtain ⟨hp, g, d, tk, os⟩ := s
    obtain ⟨hl, h⟩ := h
    have f1 := AutoSeq1.idx_int
    wp_walk using wpAny_loadPart' hl
    repeat (first
      | (refine wpAny_ite_false (decide_eq_false (by rw [c0]; exact Bool.false_ne_true)) ?_; wp_walk using wpAny_loadPart' hl)
      | (refine wpAny_ite_false (decide_eq_false (by rw [c1]; exact Bool.false_ne_true)) ?_; wp_walk using wpAny_loadPart' hl)
      | (refine wpAny_ite_true (decide_eq_true (by rw [c2])) ?_; wp_walk using wpAny_loadPart' hl))
    exact ⟨_, rfl, h⟩
def rRepBig (K : Fg) : R2 := fun x y H Q => ∃ l k xs, x = .ref l ∧ y = .int k ∧ SqT K H l xs ∧ xs ≠ [] ∧ 2 ≤ k ∧ k ≤ 1000 ∧ xs.length ≤ 1000 ∧ NewT H (List.replicate k.toNat xs).flatten Q
theorem op_repBig {X : Cx} : OpR X (binaryOp .Mult) (rRepBig X.K) := by
  intro pins s σ H x y v u Q I rx ry h
  obtain ⟨l, k, xs, rfl, rfl, hT, hne, g2, g3, hz, q⟩ := h
  cases rx
  obtain ⟨t, rfl⟩ := ry
  obtain ⟨its, r, ⟨⟨cls, dd, data, sl⟩, ho, hc, n, hd⟩, hs⟩ := I.tuple hT
  simp only at hc hd
  subst hc hd
  have many : its.length = xs.length := r.length.symm
  have some' : its.toArray.isEmpty = false := by
    cases its with
    | nil => exact absurd (List.eq_nil_of_length_eq_zero (l := xs) (by simpa using many.symm)) hne
    | cons a b => rfl
  have wide : (its.toArray.size : Int) * k ≤ 1000000 := by
    have z : ((xs.length : Nat) : Int) * k ≤ 1000 * k := Int.mul_le_mul_of_nonneg_right (by omega) (by omega)
    rw [List.size_toArray, many]; omega
  have fl : (List.replicate k.toNat xs).flatten.length ≤ sizeLine := by
    have z : k.toNat * xs.length ≤ 1000 * 1000 := Nat.mul_le_mul (by omega) hz
    rw [PyProof.Rows.lm_len_rep_flat, sizeLine_eq]; omega
  have fl2 : (List.replicate k.toNat its).flatten.length ≤ sizeLine := by rw [PyProof.Rows.lm_len_rep_flat, many, ← PyProof.Rows.lm_len_rep_flat]; exact fl
  have z0 : (decide (k < -(2 ^ 63)) || decide (k ≥ 2 ^ 63)) = false := by rw [decide_eq_false (by omega), decide_eq_false (by omega)]; rfl
  have z1 : (its.toArray.isEmpty || k == 1) = false := by rw [some', Bool.false_or]; exact beq_eq_false_iff_ne.mpr (by omega)
  have z2 : (decide (k ≤ 0) || its.toArray.isEmpty) = false := by rw [some', Bool.or_false]; exact decide_eq_false (by omega)
  have z4 : Builtin.Tuple.tupleTooMany ((its.toArray.size : Int) * k) = false := by unfold Builtin.Tuple.tupleTooMany; rw [sizeLine_eq]; exact decide_eq_false (by omega)
  have mul := tuple_mulW l its.toArray n dd sl k t z0 z1 z2 (by omega) z4 (by rw [size_rep, List.size_toArray]; exact fl2)
  have one : s.TypeIs (.ref l) "tuple" := ⟨_, ho, rfl⟩
  refine wpAny_binaryOp_repeat_ref (T := "tuple") (U := "int") (by decide) one (fun s' => typeIs_int s' k t) noFill_tuple_mul F.fills_int_mul F.slot_int_rmul repeat_tuple F.slot_int_index.lookup ?_
  refine call_meets F.slot_int_rmul (typeIs_int s k t) F.entry_int_rmul (F.args_int_rmul_2 _ _) (int_rmul_tuple k t l its.toArray n dd sl) ⟨ho, rfl, one, ?_⟩
  refine call_meets F.slot_tuple_mul one F.entry_tuple_mul (F.args_tuple_mul_2 _ _) mul ⟨ho, ?_⟩
  rw [size_rep]
  exact new_tup I fl (r.rep k.toNat) q
def rRepA (K : Fg) : R2 := fun x y H Q => ∃ l k xs, x = .ref l ∧ y = .int k ∧ SqT K H l xs ∧ k ≤ 1000 ∧ -1000000 ≤ k ∧ xs.length ≤ 1000 ∧ (xs = [] ∨ k = 1 → Q (.ref l) H) ∧ (xs ≠ [] → k ≤ 0 → NewT H [] Q) ∧
  (xs ≠ [] → 2 ≤ k → NewT H (List.replicate k.toNat xs).flatten Q)
theorem op_repA {X : Cx} : OpR X (binaryOp .Mult) (rRepA X.K) := by
  intro pins s σ H x y v u Q I rx ry h
  obtain ⟨l, k, xs, ex, ey, hT, h1, h2, hz, q1, q2, q3⟩ := h
  by_cases hbig : xs ≠ [] ∧ 2 ≤ k
  · exact op_repBig pins s σ H _ _ v u Q I rx ry ⟨l, k, xs, ex, ey, hT, hbig.1, hbig.2, h1, hz, q3 hbig.1 hbig.2⟩
  · subst ex ey
    cases rx
    obtain ⟨t, rfl⟩ := ry
    obtain ⟨its, r, ⟨⟨cls, dd, data, sl⟩, ho, hc, n, hd⟩, hs⟩ := I.tuple hT
    simp only at hc hd
    subst hc hd
    have hle : its.length = xs.length := r.length.symm
    have c0 : (decide (k < -(2 ^ 63)) || decide (k ≥ 2 ^ 63)) = false := by
      rw [decide_eq_false (by omega), decide_eq_false (by omega)] <;> rfl
    have hemp : its.toArray.isEmpty = decide (xs = []) := by
      cases its with
      | nil => rw [List.eq_nil_of_length_eq_zero (l := xs) (by simpa using hle.symm)]; rfl
      | cons a b =>
        have : xs ≠ [] := fun z => by rw [z] at hle; simp at hle
        rw [decide_eq_false this]; rfl
    by_cases hs1 : xs = [] ∨ k = 1
    · have c1 : (its.toArray.isEmpty || k == 1) = true := by
        rw [hemp]
        rcases hs1 with z | z
        · rw [decide_eq_true z]; rfl
        · rw [z]; simp
      refine wpAny_binaryOp_repeat_ref (T := "tuple") (U := "int") (by decide) ⟨_, ho, rfl⟩ (fun s' => typeIs_int s' k t) noFill_tuple_mul F.fills_int_mul F.slot_int_rmul repeat_tuple F.slot_int_index.lookup
        (call_meets F.slot_int_rmul (typeIs_int s k t) F.entry_int_rmul (F.args_int_rmul_2 _ _) (int_rmul_tuple k t l its.toArray n dd sl)
          ⟨ho, rfl, ⟨_, ho, rfl⟩, call_meets F.slot_tuple_mul ⟨_, ho, rfl⟩ F.entry_tuple_mul (F.args_tuple_mul_2 _ _) (tuple_mul1 l its.toArray n sl dd k t c0 c1) ⟨ho, ?_⟩⟩)
      exact ⟨.ref l, H, I, rfl, q1 hs1⟩
    · have hx : xs ≠ [] := fun z => hs1 (.inl z)
      have hk : k ≤ 0 := by
        have : ¬ 2 ≤ k := fun z => hbig ⟨hx, z⟩
        have : k ≠ 1 := fun z => hs1 (.inr z)
        omega
      have c1 : (its.toArray.isEmpty || k == 1) = false := by
        rw [hemp, decide_eq_false hx, Bool.false_or]
        exact beq_eq_false_iff_ne.mpr (by omega)
      have c2 : (decide (k ≤ 0) || its.toArray.isEmpty) = true := by rw [decide_eq_true hk]; rfl
      refine wpAny_binaryOp_repeat_ref (T := "tuple") (U := "int") (by decide) ⟨_, ho, rfl⟩ (fun s' => typeIs_int s' k t) noFill_tuple_mul F.fills_int_mul F.slot_int_rmul repeat_tuple F.slot_int_index.lookup
        (call_meets F.slot_int_rmul (typeIs_int s k t) F.entry_int_rmul (F.args_int_rmul_2 _ _) (int_rmul_tuple k t l its.toArray n dd sl)
          ⟨ho, rfl, ⟨_, ho, rfl⟩, call_meets F.slot_tuple_mul ⟨_, ho, rfl⟩ F.entry_tuple_mul (F.args_tuple_mul_2 _ _) (tuple_mul0 l its.toArray n sl dd k t c0 c1 c2) ⟨ho, ?_⟩⟩)
      exact new_tup (its := []) I (by decide) .nil (q2 hx hk)
def oRepT : DO := fun x y μ Φ => ∃ ds k, x = .tup ds ∧ y = .int k ∧ k ≤ 1000 ∧ -1000000 ≤ k ∧ ds.length ≤ 1000 ∧ Φ (.tup (List.replicate k.toNat ds).flatten) μ
theorem roRepT {K : Fg} : RO K (rRepA K) oRepT := fun H μ v w d e Φ Q s0 r1 r2 h k => by
  obtain ⟨ds, i, rfl, rfl, h1, h2, h3, q⟩ := h
  obtain ⟨p, vs, rfl, t1, t2⟩ := Rep.tup_inv r1
  obtain rfl := Rep.int_inv r2
  have hl := t2.length
  have nil : vs = [] → ds = [] := fun z => by rw [z] at hl; exact List.eq_nil_of_length_eq_zero hl.symm
  have rnil : ∀ n, (List.replicate n ([] : List D)).flatten = [] := fun n => by induction n <;> simp_all [List.replicate_succ]
  refine ⟨p, i, vs, rfl, rfl, t1.sq, h1, h2, by omega, fun z => ?_, fun z z2 q0 o ho hc hp => ?_, fun z z2 q0 o ho hc hp => ?_⟩
  · refine k _ H _ μ .refl s0 ?_ q
    have e : (List.replicate i.toNat ds).flatten = ds := by
      rcases z with z | z
      · rw [nil z, rnil]
      · subst z; simp
    rw [e]
    exact r1
  · refine k _ _ _ μ (.new hp) (s0.new hp) ?_ q
    have e : i.toNat = 0 := by omega
    rw [e]
    exact rep_tupN s0 hp ho hc .nil
  · exact k _ _ _ μ (.new hp) (s0.new hp) (rep_tupN s0 hp ho hc (reps_rep t2 _)) q
end DW
set_option Elab.async false
set_option linter.all false
set_option maxRecDepth 100000
set_option maxHeartbeats 4000000
namespace DW
open PySem PySem.Spec PyProof.Rows L2 GenW
end DW
set_option Elab.async false
set_option linter.all false
set_option maxRecDepth 100000
set_option maxHeartbeats 4000000
namespace DW
open PySem PySem.Spec PyProof.Rows L2 HotX
section
variable {prog : Program} {w : World} {A : Around} {E : Value → Shared → Prop} {s : Shared}
theorem next_list_end_hot {it l x1 : Addr} {i : Nat} {items : Array Value} {Q : Option Value → Shared → Prop} (hot : HotAt A x1 s.heap) (hne : x1 ≠ it)
    (hit : s.heap.IsListIter it l i) (hl : s.heap.IsList l items) (hx : items[i]? = none)
    (hQ : ∀ h', Heap.ExtBut it s.heap h' → Q none { s with heap := h' }) : wpAny (model prog w) A (pyNext (.ref it)) Q E s := by
  obtain ⟨o, ho, hc, hd⟩ := id hit
  obtain ⟨ol, hol, _, nl, hdl⟩ := hl
  obtain ⟨hh, o1, vs1, h1, d1, c1⟩ := hot
  unfold pyNext
  refine wpAny_bind (wpAny_attempt (wpAny_callSpecial?_slot (name := Str.ofString "__next__") hit.typeIs slot_listiter_next
    (wpAny_call_entry slot_listiter_next hit.typeIs entry_listiter_next ?_ (args_listiter_next _))))
  show wpAny _ _ (field (.ref it) 0 >>= _) _ _ s
  refine wpAny_bind (wpAny_field ho hd (x := .ref l) rfl ?_)
  show wpAny _ _ (if (Value.ref l == Value.none) = true then _ else _) _ _ s
  rw [if_neg (show ¬ ((Value.ref l == Value.none) = true) from Bool.false_ne_true)]
  show wpAny _ _ (field (.ref it) 1 >>= _) _ _ s
  refine wpAny_bind (wpAny_field ho hd (x := .int i 0) rfl ?_)
  show wpAny _ _ (seqItems? (.ref l) >>= _) _ _ s
  refine wpAny_bind (wpAny_seqItems hol hdl ?_)
  simp only [Int.toNat_natCast, hx]
  refine wpAny_bind (wpAny_rule (wpAny_bind (wpAny_setField ho hd (by simp) ?_)))
  show wpAny _ _ (newExc (.type "StopIteration") [] >>= _) _ _ _
  have hh1 : ∀ f, (s.heap.update it f).get? x1 = some o1 := fun f => by rw [Heap.get?_update_other _ _ (Ne.symm hne)]; exact h1
  refine wpAny_bind ?_
  simp only [newExc, newTuple]
  refine wpAny_bind (wpAny_newObj_type ?_ (by size_fits))
  refine wpAny_bind (m := firstArgMember _ _) (wpAny_of_eq (a := Value.none) (by first | rfl | (simp only [firstArgMember]; rfl)) ?_)
  refine wpAny_newObj_type ?_ (by size_fits)
  refine raiseNew_hot ⟨hh, o1, vs1, Heap.get?_push_of_some _ (Heap.get?_push_of_some _ (hh1 _)), d1, c1⟩ (Nat.ne_of_lt (Heap.lt_size (Heap.get?_push_of_some _ (hh1 _)))) (Heap.get?_push_size _ rfl) rfl (by first | (simp; done) | (simp; omega) | (simp only [Array.size_append]; simp; omega)) ?_
  refine wpAny_bind (wpAny_isInstance (T := "StopIteration") (b := true) ⟨_, Heap.get?_update_self _ (Heap.get?_push_size _ rfl) rfl, rfl⟩ isSubtype_stop ?_)
  refine wpAny_pure (hQ _ ?_)
  intro b ob hb e
  have e1 : (s.heap.update it (Obj.mapFields (fun vs => vs.setIfInBounds 0 Value.none))).get? b = some ob := by rw [Heap.get?_update_other _ _ (Ne.symm hb)]; exact e
  have e2 := Heap.get?_push_of_some { cls := Value.type "tuple", data := Data.seq ([] : List Value).toArray } e1
  rw [Heap.get?_update_other _ _ (Nat.ne_of_gt (Heap.lt_size (Heap.get?_push_of_some _ e1)))]
  exact Heap.get?_push_of_some _ e2
end
theorem walks_hot {prog : Program} {w : World} {A : Around} {x1 : Addr} (hh : A.handled = some (.ref x1)) (I ax : Addr) (hne : ax ≠ I) (hxI : x1 ≠ I) (items : Array Value) :
    Walks prog w A I [I, ax, x1] [I] items.size (fun i v => items[i]? = some v) (fun i h => h.IsListIter I ax i ∧ h.IsList ax items ∧ ∃ (o : Obj) (vs : Array Value), h.get? x1 = some o ∧ o.data = .fields vs ∧ vs[2]? = some .none) where
  sub := fun b hb => by simp at hb; simp [hb]
  frame := fun _ _ _ st hk => ⟨st.1.at fun o e => hk I (by simp) o e, st.2.1.at fun o e => hk ax (by simp) o e, let ⟨o, vs, e, r⟩ := st.2.2; ⟨o, vs, hk x1 (by simp) o e, r⟩⟩
  item := fun i s Q E hi st hQ => by
    refine wpAny_pyNext_list_item st.1 st.2.1 (x := items[i]) (by simp [hi]) fun h' hit' hs' => ?_
    obtain ⟨o, vs, e, r⟩ := st.2.2
    exact hQ _ h' s.toks (by simp [hi]) ⟨hit', st.2.1.extBut hs'.extBut hne, o, vs, hs'.extBut x1 o hxI e, r⟩ fun b o hb e => hs'.extBut b o (fun h => hb (by simp [h])) e
  done := fun s Q E st hQ => next_list_end_hot ⟨hh, st.2.2⟩ hxI st.1 st.2.1 (by simp) fun h' he' => hQ h' s.toks fun b o hb e => he' b o (fun h => hb (by simp [h])) e
  self := fun _ _ _ _ st hQ => wpAny_pyIter_listiter st.1 hQ
theorem cr_anyH {X : Cx} {a : Addr} {oe : Obj} {pn : List (Addr × Obj)} (hn : PXN.CtxN oe) (hf : ∃ vs, oe.data = .fields vs) : CallR (X.suite a ((a, oe) :: pn)) (.builtin "any") (rAny X.K) := by
  intro pins s σ H vs us Q I r h
  obtain ⟨l, bs, rfl, hs, q⟩ := h
  obtain ⟨its, rv, hl, _⟩ := I.list hs
  rw [Vals.ref1 r]
  have hb := rv.bls
  obtain ⟨hget, _⟩ := I.pin (a, oe) (List.mem_append.mpr (.inl List.mem_cons_self))
  obtain ⟨fs, hfs⟩ := hf
  have halt : a < s.heap.objs.size := Heap.lt_size hget
  refine call_any_walk (iter_any hl.isList fun s₂ e2 st hne => ?_)
  subst e2
  refine ⟨_, _, _, _, _, _, _, rfl, walks_hot (x1 := a) rfl _ l hne (Nat.ne_of_lt halt) its.toArray, ⟨st.1, st.2, oe, fs, Heap.get?_push_of_some _ hget, hfs, hn fs hfs⟩, truth_bools hb, fun h' tk hk => ?_⟩
  refine ⟨.bl _, H, I.kept fun b o eo => hk b o (fun hmem => ?_) (Heap.get?_push_of_some _ eo), ?_, q⟩
  · rcases List.mem_cons.mp hmem with e1 | hmem
    · exact absurd (e1 ▸ Heap.lt_size eo) (Nat.lt_irrefl _)
    · cases hmem
  · show Value.bool _ = Value.bool _
    rw [← L2.any_range, hb, List.size_toArray, List.length_map]
def kitD (K : Fg) : XD → V → Option Bool
  | .mk C none, .ref T => PySem.W.kitOne K (.ref C) (.ref T)
  | .mk C none, .ty T => PySem.W.kitOne K (.ref C) (.type T)
  | _, _ => none
def excOk (K : Fg) : XD → Prop
  | .mk C none => L2.ExcC K C
  | _ => False
def cIsX (K : Fg) (a : Addr) (x : XD) : DC := fun xs μ Φ => ∃ c b, xs = [.hd (.ref a), .hd c] ∧ kitD K x c = some b ∧ excOk K x ∧ Φ (.bl b) μ
section
variable {K : Fg} {B : Bx K}
theorem sRaise0W {W : WX} {C : Addr} (hW : B.W = W) : SS B (fun _ σ H => (fun (_ : L2.St) (H : Hp) (Q : XK) => Q (.ref C) none H) σ H fun cls d H' => W cls d σ H') (dRaise0 C) := by
  subst hW; exact sRaise0
def dTryAs (K : Fg) (c : Value) (i : Nat) (ω : DSt) (ζ : Addr → XD → DSt) : DSt := fun Ψ Δ δ μ => ω (fun x δ' μ' => ∃ b, (match x with | .mk D _ => PySem.W.exmOne K (.ref D) c) = some b ∧
  (b = true → ∀ a, μ' a = none → ζ a x Ψ ⟨fun δ2 μ2 => Δ.nx (δ2.set i none) μ2, Δ.rt, fun δ2 μ2 => Δ.bk (δ2.set i none) μ2, fun δ2 μ2 => Δ.ct (δ2.set i none) μ2⟩ (δ'.set i (some (.hd (.ref a)))) μ') ∧ (b = false → Ψ x δ' μ')) Δ δ μ
theorem sTryAs {c : Value} {i : Nat} {W : WX} {tb : WX → TS} {ts : Addr → Value → Option Addr → TS} {ω : DSt} {ζ : Addr → XD → DSt} (hW : B.W = W) (hb : ∀ (W' : WX) (B' : Bx K), B'.W = W' → SS B' (tb W') ω)
    (hs : ∀ (a : Addr) (cls : Value) (dd : Option Addr) (x : XD) (B' : Bx K), B'.W = W → RepX K B'.μ0 B'.H0 cls dd x → SS B' (ts a cls dd) (ζ a x)) :
    SS B (fun D σ H => tb (wAs K c i ts W D) D σ H) (dTryAs K c i ω ζ) := fun D Δ σ H δ μ E S q => by
  subst hW
  refine hb _ ⟨B.H0, B.μ0, wAs K c i ts B.W D, _, fun cls dd σ1 H1 x δ1 μ1 S1 rx q1 => ?_⟩ rfl D Δ σ H δ μ ⟨E.nx, E.rt, E.bk, E.ct⟩ S q
  obtain ⟨b, e1, hy, hn⟩ := q1
  have ec : ∃ C fs, x = .mk C fs ∧ cls = .ref C := by
    obtain ⟨C, fs⟩ := x
    cases fs with
    | none => exact ⟨C, _, rfl, rx.1⟩
    | some f => exact ⟨C, _, rfl, rx.1⟩
  obtain ⟨C, fs, rfl, rfl⟩ := ec
  refine ⟨b, e1, fun hb1 a ha => ?_, fun hb1 => B.hW _ _ σ1 H1 _ δ1 μ1 S1 rx (hn hb1)⟩
  have hfr := S1.sto.fresh ha
  refine hs a (.ref C) dd (.mk C fs) (B.re H1 μ1 S1.evo) rfl rx _ _ _ H1 _ μ1 ⟨fun σ2 H2 δ2 μ2 S2 q2 => ?_, fun v H2 d μ2 σ2 δ2 S2 r2 q2 => ?_, fun σ2 H2 δ2 μ2 S2 q2 => ?_, fun σ2 H2 δ2 μ2 S2 q2 => ?_⟩ ⟨.refl, S1.sto, S1.env.set (.hd _ .nil) i⟩ (hy hb1 a hfr)
  · exact E.nx _ H2 _ μ2 ⟨S1.evo.trans S2.evo, S2.sto, S2.env.unset i⟩ q2
  · exact E.rt v H2 d μ2 σ2 δ2 ⟨S1.evo.trans S2.evo, S2.sto, S2.env⟩ r2 q2
  · exact E.bk _ H2 _ μ2 ⟨S1.evo.trans S2.evo, S2.sto, S2.env.unset i⟩ q2
  · exact E.ct _ H2 _ μ2 ⟨S1.evo.trans S2.evo, S2.sto, S2.env.unset i⟩ q2
abbrev ConG := List D → Sto → (List D → Sto → Prop) → Prop
def dTupG (c : ConG) (ψ : DA) : DE := fun Ψ δ μ Φ => ψ Ψ δ μ fun xs μ1 => c xs μ1 fun es μ2 => Φ (.tup es) μ2
end
/-- what is wanted behind a statement of a generator -/
structure GDs where
  nx : List DW.D → DEnv → Sto → Prop
  rt : List DW.D → DW.D → Sto → Prop
  bk : List DW.D → DEnv → Sto → Prop
  ct : List DW.D → DEnv → Sto → Prop
abbrev DGn := XP → GDs → List DW.D → DEnv → Sto → Prop
section
variable {K : Fg} {B : Bx K}
def dGPlain (ω : DSt) : DGn := fun Ψ Δ es δ μ => ω Ψ ⟨Δ.nx es, Δ.rt es, Δ.bk es, Δ.ct es⟩ δ μ
def dGThen (ω ζ : DGn) : DGn := fun Ψ Δ es δ μ => ω Ψ ⟨fun es' δ' μ' => ζ Ψ Δ es' δ' μ', Δ.rt, Δ.bk, Δ.ct⟩ es δ μ
def dGNil : DGn := fun _ Δ es δ μ => Δ.nx es δ μ
def dYield (φ : DE) : DGn := fun Ψ Δ es δ μ => es.length ≤ 100000 ∧ φ Ψ δ μ fun x μ1 => Δ.nx (es ++ [x]) δ μ1
def dGWhile (θ : DT) (ω : DGn) : DGn := fun Ψ Δ es δ μ => ∃ W : Nat → List DW.D → DEnv → Sto → Prop, (∃ m, W m es δ μ) ∧ ∀ m es δ μ, W m es δ μ → θ Ψ δ μ fun b μ1 =>
  (b = true → ω Ψ ⟨fun es' δ' μ' => ∃ m', m' < m ∧ W m' es' δ' μ', Δ.rt, Δ.nx, fun es' δ' μ' => ∃ m', m' < m ∧ W m' es' δ' μ'⟩ es δ μ1) ∧ (b = false → Δ.nx es δ μ1)
end
theorem passN {X : Cx} : Passes (L2N.CX X.prog X.w) X E0 := fun _ _ _ _ _ _ _ h => by
  obtain ⟨_, _, _, _, _, _, _, _, _, _, _, _, z⟩ := h
  exact z.elim
/-- THE RULE for a def, whatever the air -/
theorem def_okC {CX : CXT} {P : Program} {w : World} {K : Fg} {mg : Str → Option Value} {base : Heap} {x qual : Str} {st : Stmt} {f : Addr} {fd : FuncData} {N ps : List Str} {k : Nat} {c : Con} (F : Fun K x qual st f fd) (Sc : FnScope N ps (defScope st)) (φ : DSt)
    (hl : ∀ ds μ Φ Ψ, c ds μ Φ Ψ → ds.length = ps.length)
    (hb : ∀ (cdv : Value) (A : Around) (outer : List Env) (s : Shared) (H : Hp) (E : XK) (B : Bx K), B.W = (fun cls d _ H => E cls d H) → Room k (A.deeper (PyProof.Rows.envOfC qual (defScope st) s.heap.objs.size f cdv)) →
      ∃ t, PSs (cxOf CX P w K mg base N qual (defScope st) f cdv A outer s H E) (defBody st) t ∧ SS B t φ)
    (hv : ∀ ds μ Φ Ψ, c ds μ Φ Ψ → φ (goalX Ψ) (goalE Φ) (dstart N ds) μ) : FnOk P w K mg base CX (k + 1) f fd ps (spOf K c) := by
  obtain ⟨oc, od, kV, doc, pm, an, cdv, ct, osl, rfl, lk, hcd⟩ := F.ex
  refine fn_of lk hcd Sc (fun vs H Q E h => ?_) (fun A outer s H vs Q E hr h => ?_)
  · obtain ⟨μ, ds, Φ, Ψ, _, r, hc, _⟩ := h
    rw [r.length]
    exact hl ds μ Φ Ψ hc
  · obtain ⟨μ, ds, Φ, Ψ, s0, r, hc, hq, hx⟩ := h
    let B : Bx K := ⟨H, μ, fun cls d _ H => E cls d H, goalX Ψ, fun cls dd σ H' x δ μ' S rx ⟨μ2, hs, q⟩ => hx cls dd H' x μ2 (S.evo.trans hs.evo) (hs.sto S.sto) (rx.mono hs.evo) q⟩
    obtain ⟨t, ht, hs⟩ := hb cdv A outer s H E B rfl hr
    refine ⟨t, ht, hs { nx := fun _ H' => Q .non H', rt := Q } (goalE Φ) (L2.start N vs) H (dstart N ds) μ ⟨fun σ H' δ μ' S ⟨μ2, h2, q⟩ => ?_, fun v H' d μ' σ δ S rv ⟨μ2, h2, q⟩ => ?_, fun _ _ _ _ _ z => z, fun _ _ _ _ _ z => z⟩ ⟨.refl, s0, env_start r⟩ (hv ds μ Φ Ψ hc)⟩
    · exact hq .non H' .non μ2 (S.evo.trans h2.evo) (h2.sto S.sto) (.non .nil) q
    · exact hq v H' d μ2 (S.evo.trans h2.evo) (h2.sto S.sto) (rv.mono h2.evo) q
section
variable {K : Fg} {φ : DE} {ψ : DA} {Ψ : XP} {δ : DEnv} {μ : Sto} {Φ : DK} {ω ζ : DSt} {Δ : DEnds} {ds es : List DW.D} {k : Int} {Γ : GDs} {α β : DGn} {θ : DT} {c : ConG} {cv : Value} {i : Nat} {ξ : Addr → XD → DSt}
theorem u_revT : dRevT φ Ψ δ μ Φ = φ Ψ δ μ fun x μ1 => ∃ ds, x = .tup ds ∧ Φ (.tup ds.reverse) μ1 := rfl
theorem w_repT : oRepT (.tup ds) (.int k) μ Φ = (k ≤ 1000 ∧ -1000000 ≤ k ∧ ds.length ≤ 1000 ∧ Φ (.tup (List.replicate k.toNat ds).flatten) μ) := propext ⟨fun ⟨a, b, e1, e2, q⟩ => by cases e1; cases e2; exact q, fun q => ⟨_, _, rfl, rfl, q⟩⟩
theorem u_tupG : dTupG c ψ Ψ δ μ Φ = ψ Ψ δ μ fun xs μ1 => c xs μ1 fun es μ2 => Φ (.tup es) μ2 := rfl
theorem u_try : dTryAs K cv i ω ξ Ψ Δ δ μ = ω (fun x δ' μ' => ∃ b, (match x with | .mk D _ => PySem.W.exmOne K (.ref D) cv) = some b ∧
  (b = true → ∀ a, μ' a = none → ξ a x Ψ ⟨fun δ2 μ2 => Δ.nx (δ2.set i none) μ2, Δ.rt, fun δ2 μ2 => Δ.bk (δ2.set i none) μ2, fun δ2 μ2 => Δ.ct (δ2.set i none) μ2⟩ (δ'.set i (some (.hd (.ref a)))) μ') ∧ (b = false → Ψ x δ' μ')) Δ δ μ := rfl
theorem u_gPlain : dGPlain ω Ψ Γ es δ μ = ω Ψ ⟨Γ.nx es, Γ.rt es, Γ.bk es, Γ.ct es⟩ δ μ := rfl
theorem u_gThen : dGThen α β Ψ Γ es δ μ = α Ψ ⟨fun es' δ' μ' => β Ψ Γ es' δ' μ', Γ.rt, Γ.bk, Γ.ct⟩ es δ μ := rfl
theorem u_gNil : dGNil Ψ Γ es δ μ = Γ.nx es δ μ := rfl
theorem u_yield : dYield φ Ψ Γ es δ μ = (es.length ≤ 100000 ∧ φ Ψ δ μ fun x μ1 => Γ.nx (es ++ [x]) δ μ1) := rfl
theorem u_gWhile : dGWhile θ α Ψ Γ es δ μ = ∃ W : Nat → List DW.D → DEnv → Sto → Prop, (∃ m, W m es δ μ) ∧ ∀ m es δ μ, W m es δ μ → θ Ψ δ μ fun b μ1 =>
  (b = true → α Ψ ⟨fun es' δ' μ' => ∃ m', m' < m ∧ W m' es' δ' μ', Γ.rt, Γ.nx, fun es' δ' μ' => ∃ m', m' < m ∧ W m' es' δ' μ'⟩ es δ μ1) ∧ (b = false → Γ.nx es δ μ1) := rfl
theorem u_while : dWhile θ ω Ψ Δ δ μ = ∃ W : Nat → DEnv → Sto → Prop, (∃ m, W m δ μ) ∧ ∀ m δ μ, W m δ μ → θ Ψ δ μ fun b μ1 =>
  (b = true → ω Ψ { Δ with nx := fun δ' μ' => ∃ m', m' < m ∧ W m' δ' μ', ct := fun δ' μ' => ∃ m', m' < m ∧ W m' δ' μ', bk := Δ.nx } δ μ1) ∧ (b = false → Δ.nx δ μ1) := rfl
theorem u_isX {a : Addr} {x : XD} {c : V} : cIsX K a x [.hd (.ref a), .hd c] μ Φ = ∃ b, kitD K x c = some b ∧ excOk K x ∧ Φ (.bl b) μ := propext ⟨fun ⟨c', b, e, q⟩ => by cases e; exact ⟨b, q⟩, fun ⟨b, q⟩ => ⟨c, b, rfl, q⟩⟩
theorem u_kitR {C T : Addr} : kitD K (.mk C none) (.ref T) = PySem.W.kitOne K (.ref C) (.ref T) := rfl
theorem u_kitT {C : Addr} {T : String} : kitD K (.mk C none) (.ty T) = PySem.W.kitOne K (.ref C) (.type T) := rfl
theorem u_excOk {C : Addr} : excOk K (.mk C none) = L2.ExcC K C := rfl
theorem w_zipE {P : List DW.D → List DW.D → Prop} : (∃ xs ys, D.tup ds = D.tup xs ∧ D.tup es = D.tup ys ∧ P xs ys) = P ds es := propext ⟨fun ⟨a, b, e1, e2, q⟩ => by cases e1; cases e2; exact q, fun q => ⟨_, _, rfl, rfl, q⟩⟩
theorem u_goalX {G : XD → Sto → Prop} {x : XD} : goalX G x δ μ = ∃ μ2, Sub μ2 μ ∧ G x μ2 := rfl
theorem cut_to (p : Nat) : cutD ds none (some (p : Int)) = ds.take p := by
  unfold cutD
  show (ds.drop 0).take (min (p : Int).toNat ds.length - 0) = _
  rw [List.drop_zero, Nat.sub_zero, Int.toNat_natCast]
  by_cases h : p ≤ ds.length
  · rw [Nat.min_eq_left h]
  · rw [Nat.min_eq_right (by omega), List.take_length, List.take_of_length_le (by omega)]
theorem cut_from (p : Nat) : cutD ds (some (p : Int)) none = ds.drop p := by
  unfold cutD
  show (ds.drop (min (p : Int).toNat ds.length)).take (ds.length - min (p : Int).toNat ds.length) = _
  rw [Int.toNat_natCast]
  by_cases h : p ≤ ds.length
  · rw [Nat.min_eq_left h, List.take_of_length_le (by rw [List.length_drop]; omega)]
  · rw [Nat.min_eq_right (by omega), List.drop_length, List.take_nil, List.drop_eq_nil_of_le (by omega)]
theorem cut_from1 (p : Nat) : cutD ds (some ((p : Int) + 1)) none = ds.drop (p + 1) := cut_from (p + 1)
end
end DW
set_option Elab.async false
set_option linter.all false
set_option maxRecDepth 100000
set_option maxHeartbeats 4000000
namespace DW
open PySem PySem.Spec PyProof.Rows L2
section
variable {K : Fg} {B : Bx K} {te ta tb : TE} {φ φa φb : DE} {tl th : TO} {ol oh : XP → DEnv → Sto → (Option Int → Sto → Prop) → Prop}
def oCatS : DO := fun x y μ Φ => ∃ s t, x = .str s ∧ y = .str t ∧ s.length + t.length ≤ 100000 ∧ Φ (.str (s ++ t)) μ
def oInS (neg : Bool) : DO := fun x y μ Φ => ∃ (c : Nat) (z : Str), x = .str ⟨#[c]⟩ ∧ y = .str z ∧ Φ (.bl (if neg then !decide (c ∈ z.cps.toList) else decide (c ∈ z.cps.toList))) μ
def oIxS : DO := fun x y μ Φ => ∃ z i c, x = .str z ∧ y = .int i ∧ z.length ≤ 100000 ∧ atI z.cps.toList i = some c ∧ Φ (.str ⟨#[c]⟩) μ
def dSlS (φ : DE) (ol oh : XP → DEnv → Sto → (Option Int → Sto → Prop) → Prop) : DE := fun Ψ δ μ Φ => φ Ψ δ μ fun x μ1 => ol Ψ δ μ1 fun lo μ2 => oh Ψ δ μ2 fun hi μ3 => ∃ z, x = .str z ∧ z.length ≤ 100000 ∧ Φ (.str (cutS z lo hi)) μ3
def cStr : DC := fun xs μ Φ => (∃ i, xs = [.int i] ∧ i.natAbs.log2 < 1920 ∧ Φ (.str (toString i)) μ) ∨ ∃ a, xs = [.str a] ∧ Φ (.str a) μ
end
end DW
set_option Elab.async false
set_option linter.all false
set_option maxRecDepth 100000
set_option maxHeartbeats 4000000
namespace DW
open PySem PySem.Spec PyProof.Rows L2
theorem meets_enum1 {v : Value} {o : Obj} {H : Heap → Prop} (B : Begins v o H) :
    Meets (Builtin.«enumerate.__new__» ⟨[.type "enumerate", v], []⟩) (fun _ R s => H s.heap ∧
      R (.ok (.ret (.ref (s.heap.push o).objs.size))) { s with heap := (s.heap.push o).push { cls := .type "enumerate", data := .fields #[.none, .bool false, .ref s.heap.objs.size, rawInt 0, .none, .none] } }) :=
  .of_wp fun prog w A R s h => by
    obtain ⟨hp, g, d, tk, os⟩ := s
    obtain ⟨h1, h⟩ := h
    have hsub := sub_enumerate
    have itr : ∀ {A' : Around} {E : Value → Shared → Prop} {Q : Value → Shared → Prop}, Q (.ref hp.objs.size) ⟨hp.push o, g, d, tk, os⟩ → wpAny (model prog w) A' (pyIter v) Q E ⟨hp, g, d, tk, os⟩ :=
      fun q => B.iter prog w _ _ ⟨hp, g, d, tk, os⟩ _ h1 q
    wp_walk using itr
    refine wpAny_stack_any fun st => wpAny_pure ?_
    split
    · rename_i c _ _ _ _ _
      cases (c == Value.type "enumerate") <;> (wp_walk using itr; exact ⟨_, rfl, h⟩)
    · wp_walk using itr
      exact ⟨_, rfl, h⟩
theorem enum_one {prog : Program} {w : World} {A : Around} {E : Value → Shared → Prop} {s : Shared} {v : Value} {o : Obj} {H : Heap → Prop} {Q : Value → Shared → Prop} (B : Begins v o H) (h1 : H s.heap)
    (h : ∀ h', IsEnum h' (s.heap.objs.size + 1) s.heap.objs.size 0 .none → h'.get? s.heap.objs.size = some o → h'.objs.size = s.heap.objs.size + 2 →
      (∀ b o, s.heap.get? b = some o → h'.get? b = some o) → Q (.ref (s.heap.objs.size + 1)) { s with heap := h' }) :
    wpAny (model prog w) A (call (.type "enumerate") [v]) Q E s := by
  refine callType_new F.called_enumerate (by decide) (F.typeCall_enumerate_1 _) (F.newCall_enumerate_1 _) (fun obj => F.args_object_init_2 obj _) F.entry_enumerate_new (meets_enum1 B) ⟨h1, ?_⟩
  have hz : (s.heap.push o).objs.size = s.heap.objs.size + 1 := Heap.size_push ..
  have he := Heap.get?_push_size (s.heap.push o) (o := { cls := .type "enumerate", data := .fields #[.none, .bool false, .ref s.heap.objs.size, rawInt 0, .none, .none] }) rfl
  rw [hz] at he
  show _ ∧ _
  rw [hz]
  exact ⟨⟨_, he, rfl⟩, h _ he (Heap.get?_push_of_some _ (Heap.get?_push_size _ B.free)) (by rw [Heap.size_push, hz]) fun b o x => Heap.get?_push_of_some _ (Heap.get?_push_of_some _ x)⟩
/-- the tuple at a, counted from c -/
def IteT (K : Fg) (a : Addr) (n : Nat) (c : Int) : It :=
  ⟨fun i H => i < n ∧ ∃ (xs : List V) (x : V), SqT K H a xs ∧ xs[i]? = some x, fun i H v H' => ∃ T x, v = .ref T ∧ H T = none ∧ H' = upd H T (.tup [.int (c + (i : Nat)), x]) ∧ ∀ xs, SqT K H a xs → xs[i]? = some x, fun i H => n ≤ i ∧ ∃ xs : List V, SqT K H a xs ∧ xs.length = n⟩
theorem enum_apart {h : Heap} {e it t : Addr} {c : Int} {i : Nat} {old : Value} {items : Array Value} (he : IsEnum h e it c old) (hi : h.IsTupleIter it t i) (ht : h.IsTuple t items) : t ≠ it ∧ e ∉ [it, t] ∧ e ≠ it := by
  obtain ⟨o1, e1, c1, _⟩ := hi
  obtain ⟨o2, e2, c2, _⟩ := ht
  have n1 : t ≠ it := fun z => by subst z; rw [e1] at e2; cases e2; rw [c1] at c2; exact absurd (Value.type.inj c2) (by decide)
  have n2 : e ≠ it := fun z => by
    subst z
    have q : h.get? e = some _ := he
    rw [e1] at q; cases q; exact absurd (Value.type.inj c1) (by decide)
  have n3 : e ≠ t := fun z => by
    subst z
    have q : h.get? e = some _ := he
    rw [e2] at q; cases q; exact absurd (Value.type.inj c2) (by decide)
  exact ⟨n1, by simp [n2, n3], n2⟩
theorem turn_enumT {P : Program} {w : World} {K : Fg} {elts : List Expr} {kk : Nat} {tpos : Pos} (a e it : Addr) (n : Nat) (c : Int) :
    Turn P w K (.Tuple elts kk tpos) (IteT K a n c) [e, it] e (fun i h => i ≤ n ∧ (∃ old, IsEnum h e it (c + (i : Nat)) old) ∧ h.IsTupleIter it a i ∧ e ≠ it) where
  mem := by simp
  obj := fun i h st b hb => by
    obtain ⟨_, ⟨old, he⟩, ⟨o, ho, hc, hd⟩, _⟩ := st
    rcases (show b = e ∨ b = it by simpa using hb) with z | z
    · rw [z]; exact ⟨_, he, fun v q => nomatch q⟩
    · rw [z]; exact ⟨o, ho, fun v q => by rw [hd] at q; cases q⟩
  keep := fun i h h' st k => by
    obtain ⟨hin, ⟨old, he⟩, ⟨o, ho, r⟩, hne⟩ := st
    exact ⟨hin, ⟨old, k e (by simp) _ he⟩, ⟨o, k it (by simp) o ho, r⟩, hne⟩
  item := by
    intro X hP hw hK hc i pins s σ H E I hf st hg
    subst hP hw hK
    obtain ⟨hin, ⟨old, he⟩, hit, hne⟩ := st
    obtain ⟨hlt, xs, x, hq, hx⟩ := hg
    obtain ⟨its, rv, p, hz⟩ := I.tuple hq
    obtain ⟨u, hu, ru⟩ := rv.get hx
    have pt : s.heap.IsTuple a its.toArray := p
    obtain ⟨n1, n2, n3⟩ := enum_apart he hit pt
    have hel : e < s.heap.objs.size := Heap.lt_size he
    have hil : it < s.heap.objs.size := by obtain ⟨_, q, _⟩ := hit; exact Heap.lt_size q
    have hiu : i < its.toArray.size := by rw [List.size_toArray]; exact (List.getElem?_eq_some_iff.mp hu).1
    refine wpAny_pyNext_enum_itemC (Draws.tuple (A := X.A.in1) (I.ok.hd hc) it a n1 its.toArray) he ⟨hit, pt⟩ hiu n3 n2 fun y h' tk hP ho hst hT hsz hk => ?_
    have hy : y = u := by
      have q : its.toArray[i]? = some y := hP
      have q2 : its.toArray[i]? = some u := by simpa using hu
      rw [q2] at q; exact (Option.some.inj q).symm
    subst hy
    refine ⟨_, rfl, wpAny_letOwnedTupleGo_enum (s := { s with heap := h', toks := tk + 1 }) ho fun h'' he' sb => ?_⟩
    have hT2 := (sb.2 _ (Nat.ne_of_gt hel)).trans hT
    have new : ObjOk X.prog X.w (upd H s.heap.objs.size (.tup [.int (c + (i : Nat)), x])) h'' s.heap.objs.size (.tup [.int (c + (i : Nat)), x]) :=
      ⟨by show 2 ≤ sizeLine; decide, [.int (c + (i : Nat)) tk, y], .cons ⟨_, rfl⟩ (.cons ru .nil), ⟨_, hT2, rfl, _, rfl⟩⟩
    have I1 : Inv X pins σ (upd H s.heap.objs.size (.tup [.int (c + (i : Nat)), x])) { s with heap := h'', toks := tk + 1 } :=
      I.turnedNew (ch := [e, it]) (fun b ob hb q => (sb.2 b (fun z => hb (by simp [z]))).trans (hk b ob (fun z => hb (by simp [z])) (fun z => hb (by simp [z])) q)) hf (Nat.le_refl _) new
    refine ⟨.ref s.heap.objs.size, _, I1, rfl, ⟨_, x, rfl, I.hok.fresh (Nat.le_refl _), rfl, fun ys hy => by rw [I.tuple_inj hy hq]; exact hx⟩, ⟨hlt, ⟨y, ?_⟩, ?_, hne⟩, fun b hb => ?_⟩
    · have e1 : c + ((i + 1 : Nat) : Int) = c + ((i : Nat) : Int) + 1 := by omega
      rw [e1]; exact he'
    · obtain ⟨o, q, r⟩ := hst.1
      exact ⟨o, (sb.2 it (Ne.symm hne)).trans q, r⟩
    · have hb' : b < s.heap.objs.size := by
        rcases (show b = e ∨ b = it by simpa using hb) with z | z <;> (rw [z]; assumption)
      rw [upd_ne (Nat.ne_of_lt hb')]
      exact (hf b hb).1
  done := by
    intro X hP hw hK hc i pins s σ H E I hf st hg
    subst hP hw hK
    obtain ⟨hin, ⟨old, he⟩, hit, hne⟩ := st
    obtain ⟨hle, xs, hq, hx⟩ := hg
    obtain ⟨its, rv, p, hz⟩ := I.tuple hq
    have pt : s.heap.IsTuple a its.toArray := p
    obtain ⟨n1, n2, n3⟩ := enum_apart he hit pt
    obtain ⟨f0, f1, f2, f3, f4, f5⟩ := hf it (by simp)
    have hl := rv.length
    have hi : i = its.toArray.size := by rw [List.size_toArray]; omega
    subst hi
    exact wpAny_pyNext_enum_endD (Draws.tuple (A := X.A.in1) (I.ok.hd hc) it a n1 its.toArray) he ⟨hit, pt⟩ fun h' eb => ⟨rfl, I.turned (t' := s.toks) (fun b o hb q => eb b o hb q) f0 f1 f3 f4 f5⟩
  self := fun A i s Q E st h => let ⟨_, ⟨_, he⟩, _⟩ := st; wpAny_pyIter_enum he h
def iEnumT (K : Fg) (c : Int) (ta : TA) : TI := fun σ H R => ta σ H fun vs H1 => ∃ a xs, vs = [.ref a] ∧ SqT K H1 a xs ∧ R (IteT K a xs.length c) H1
theorem pie_enumT {X : Cx} {pins : List (Addr × Obj)} {σ : L2.St} {H1 : Hp} {s1 : Shared} {h' : Heap} {a : Addr} {xs : List V} {c : Int} {R : It → Hp → Prop} {elts : List Expr} {kk : Nat} {tpos : Pos} (I1 : Inv X pins σ H1 s1) (hq : SqT X.K H1 a xs)
    (he : IsEnum h' (s1.heap.objs.size + 1) s1.heap.objs.size c .none) (ho : h'.get? s1.heap.objs.size = some { cls := .type "tuple_iterator", data := .fields #[.ref a, .int 0 0] })
    (hk : ∀ b o, s1.heap.get? b = some o → h'.get? b = some o) (q : R (IteT X.K a xs.length c) H1) : PIE X pins σ (.Tuple elts kk tpos) R (.ref (s1.heap.objs.size + 1)) { s1 with heap := h' } := by
  refine ⟨s1.heap.objs.size + 1, [s1.heap.objs.size + 1, s1.heap.objs.size], _, _, H1, rfl, I1.kept (t' := s1.toks) hk, turn_enumT a (s1.heap.objs.size + 1) s1.heap.objs.size xs.length c, ⟨Nat.zero_le _, ⟨.none, ?_⟩, ⟨_, ho, rfl, rfl⟩, Nat.succ_ne_self _⟩, fun b hb => ?_, q⟩
  · have e : c + ((0 : Nat) : Int) = c := by omega
    rw [e]; exact he
  · have hle : s1.heap.objs.size ≤ b := by
      rcases (show b = s1.heap.objs.size + 1 ∨ b = s1.heap.objs.size by simpa using hb) with z | z
      · rw [z]; exact Nat.le_succ _
      · rw [z]; exact Nat.le_refl _
    exact I1.fpOk hle (I1.hok.fresh hle)
/-- for i, x in enumerate(t) -/
theorem pi_enumT {X : Cx} {e : Expr} {ta : TA} {p pos tpos : Pos} {elts : List Expr} {kk : Nat} (hg : Gl X "enumerate") (hm : X.mg "enumerate" = none) (ha : PA X [e] ta) (hs : starEach [e] X.env = [(false, eval e X.env)] := by rfl) :
    PI X (.Tuple elts kk tpos) (.Call (.Name "enumerate" p) [e] [] pos) (iEnumT X.K 0 ta) := by
  refine ⟨fun pins s σ H R I h => ?_⟩
  refine Call_ (ld_blt I hg hm boot_enumerate (PyProof.Rows.callWith_type1 (thn (ha.run pos pins s σ H _ I h) fun us s1 ⟨vs, H1, I1, r1, q1⟩ => ?_) hs rfl))
  obtain ⟨a, xs, rfl, hq, q⟩ := q1
  rw [Vals.ref1 r1]
  obtain ⟨its, rv, p', hz⟩ := I1.tuple hq
  exact enum_one (begins_tuple a its.toArray) p' fun h' he ho hsz hk => wpAny_pyIter_enum he (pie_enumT I1 hq he ho hk q)
def iEnD (φ : DE) (c : Int) : DI := fun Ψ δ μ Φ => φ Ψ δ μ fun x μ1 => ∃ ds, x = .tup ds ∧ Φ ((List.range ds.length).map fun (i : Nat) => .pr [.int (c + (i : Int)), ds.getD i .non]) μ1
theorem siEnumT {K : Fg} {B : Bx K} {te : TE} {φ : DE} {c : Int} (a : SE B te φ) : SI B (iEnumT K c (tCons te tNil)) (iEnD φ c) := fun σ H δ μ Φ R S q k =>
  a σ H δ μ _ _ S q fun v H1 x μ1 S1 e1 r1 q1 => by
    obtain ⟨ds, rfl, q2⟩ := q1
    obtain ⟨p, vs, rfl, h1, h2⟩ := Rep.tup_inv r1
    refine ⟨p, vs, rfl, h1.sq, k _ _ H1 μ1 S1 e1 (fun i H3 μ3 s3 e3 => ?_) q2⟩
    rw [List.length_map, List.length_range]
    have hl := h2.length
    refine ⟨fun hi => ?_, fun hi => ⟨by omega, vs, (h1.mono e3).sq, rfl⟩⟩
    have hv : i < vs.length := by omega
    refine ⟨⟨hv, vs, vs[i], (h1.mono e3).sq, List.getElem?_eq_getElem hv⟩, fun z H' hy => ?_⟩
    obtain ⟨T, u, rfl, hT, rfl, hu⟩ := hy
    obtain ⟨d, hd, rd⟩ := (h2.mono e3).getV (hu vs (h1.mono e3).sq)
    refine ⟨.pr [.int (c + (i : Int)), d], ?_, s3.new hT, .new hT, rep_tup s3 hT (.cons (.int _ .nil) (.cons rd .nil))⟩
    rw [List.getElem?_map, List.getElem?_range hi]
    show some (D.pr [D.int (c + (i : Int)), ds.getD i .non]) = _
    rw [List.getD_eq_getElem?_getD, hd]
    rfl
end DW
set_option Elab.async false
set_option linter.all false
set_option maxRecDepth 100000
set_option maxHeartbeats 4000000
namespace DW
open PySem PySem.Spec PyProof.Rows L2 NdefX PySem.W
/-- a method that may say super(): its body, at its own activation -/
theorem supfn_of {CX : CXT} {P : Program} {w : World} {K : Fg} {mg : Str → Option Value} {base : Heap} {k : Nat} {f C cc cda : Addr} {name qual : Str} {params : Arguments} {body : List Stmt} {scope : Scope} {kV doc pm ct oc cl : Value} {an od cld : Option Addr}
    {osl csl : Array (Option Value)} {N ps : List Str} {sp : Sp} (lk : K.lookup f = some ⟨oc, od, .func (ksFn name qual params body scope .none kV doc pm an (.ref cda) ct cc), osl⟩) (hcd : codeIn K (.ref cda) qual = true) (S : NScope N ps ["__class__"] scope)
    (lcc : K.lookup cc = some ⟨cl, cld, .cell (some (.ref C)), csl⟩)
    (len : ∀ vs H Q E, sp vs H Q E → vs.length = ps.length)
    (hbody : ∀ (A : Around) (outer : List Env) (s s1 : Shared) (H : Hp) (vs : List V) (Q : VK) (E : XK), Room k (A.deeper (envF ⟨name, qual, params, body, scope, [("__class__", cc)], cda⟩ f s.heap.objs.size)) → sp vs H Q E →
      Inv (ncx CX P w K mg base N ⟨name, qual, params, body, scope, [("__class__", cc)], cda⟩ f A outer s H E) [] (startF N vs [none]) H s1 →
      _root_.PySem.wpAt (model P w) (A.deeper (envF ⟨name, qual, params, body, scope, [("__class__", cc)], cda⟩ f s.heap.objs.size)) (.func body (envF ⟨name, qual, params, body, scope, [("__class__", cc)], cda⟩ f s.heap.objs.size)) (execs body (envF ⟨name, qual, params, body, scope, [("__class__", cc)], cda⟩ f s.heap.objs.size))
        (SP (ncx CX P w K mg base N ⟨name, qual, params, body, scope, [("__class__", cc)], cda⟩ f A outer s H E) [] { nx := fun _ H' => Q .non H', rt := Q }) (ncx CX P w K mg base N ⟨name, qual, params, body, scope, [("__class__", cc)], cda⟩ f A outer s H E).xe s1) :
    FnOk P w K mg base CX (k + 1) f (ksFn name qual params body scope .none kV doc pm an (.ref cda) ct cc) ps sp := by
  refine ⟨len, fun A outer s H args us vs Q E hr e0 hb r hsp => ?_⟩
  have hl := len _ _ _ _ hsp
  have KX : K.In s.heap := e0.mod.kin.keeps fun b o e => (e0.bs b o e).1
  have lim : s.heap.NoLimit := e0.mod.nolimit.keeps fun b o e => (e0.bs b o e).1
  refine ks_codeAny_call_defAt (fd := ksFn name qual params body scope .none kV doc pm an (.ref cda) ct cc) (body := body) (binds := ps.zip us) hr.depth (KX _ _ lk) rfl lim (codeRec_of KX hcd) rfl hb S.nocell (fun ⟨n, _⟩ hy => S.par n (List.of_mem_zip hy).1) (fun h₁ hns hk₁ => ?_) S.co S.gen S.kind
  have Cc : CellsAt [("__class__", cc)] ["__class__"] [none] s.heap H := by
    refine ⟨rfl, fun y c e => ?_, fun x y c e1 e2 => ?_, fun i y e => ?_⟩
    · have ec : c = cc := by
        simp only [List.lookup] at e
        split at e <;> simp_all
      subst ec
      exact ⟨(e0.bs _ _ (e0.mod.kin _ _ lcc)).2, _, _, KX _ _ lcc, rfl⟩
    · simp only [List.lookup] at e1 e2
      split at e1 <;> split at e2 <;> simp_all
    · cases i with
      | zero => cases e; exact ⟨cc, rfl, fun v z => by cases z⟩
      | succ i => cases i <;> cases e
  have I := inv_startN (CX := CX) (P := P) (w := w) (K := K) (mg := mg) (base := base) (F := ⟨name, qual, params, body, scope, [("__class__", cc)], cda⟩) (f := f) (E := E) (tk := s.toks + (ps.zip us).length) S hr.hd e0 hl r Cc hns hk₁
  refine ks_wpAt_mono (hbody A outer s _ H vs Q E (hr.deeper _) hsp I) (fun fl s' hs => ?_) fun e s' hs => hs
  have fin : ∀ {σ' : L2.St} {H' : Hp} {v : V} {u : Value}, Inv (ncx CX P w K mg base N ⟨name, qual, params, body, scope, [("__class__", cc)], cda⟩ f A outer s H E) [] σ' H' s' → L2.RelV v u → Q v H' → CE outer P w H s Q u s' :=
    fun {σ' H' v u} J rv q => ⟨v, H', J.os, J.bare, J.base, J.hok, rv, q⟩
  cases fl with
  | ret u =>
    obtain ⟨v, σ', H', J, rv, q⟩ := hs
    exact fin J rv q
  | next =>
    obtain ⟨σ', H', J, q⟩ := hs
    exact fin (v := V.non) (u := Value.none) J rfl q
  | brk =>
    obtain ⟨_, _, _, q⟩ := hs
    exact False.elim q
  | cont =>
    obtain ⟨_, _, _, q⟩ := hs
    exact False.elim q
end DW
set_option Elab.async false
set_option linter.all false
set_option maxRecDepth 100000
set_option maxHeartbeats 4000000
namespace DW
open PySem PySem.Spec PyProof.Rows L2 NdefX PySem.W
/-- the call of the bound __init__ -/
theorem mw_init {X : Cx} {pins : List (Addr × Obj)} {σ : L2.St} {H : Hp} {s : Shared} {a C u : Addr} {us : List Value} {A : Around} {E : Value → Shared → Prop} {Q : Value → Shared → Prop} (T : OexC X.K C) (I : Inv X pins σ H s) (e : H a = some (exo a C none)) (hu : s.heap.get? u = some (kxs_mw "ValueError.__init__" a)) (hl : us.length ≤ sizeLine)
    (h : ∀ s', Inv X pins σ H s' → Q .none s') : wpAny (model X.prog X.w) A (call (.ref u) us) Q E s := by
  obtain ⟨nm, q, N, bs, bm, sn, sub, ab, col, dd, k0, k1, k2, k3, k5, hC, hbm⟩ := T.cls
  obtain ⟨t1, ho⟩ := exo_at I.hok e
  have hC1 := I.kIn _ _ hC
  obtain ⟨hp, g, d, t, os⟩ := s
  have fin : ∀ h', (∀ b o, b ≠ a → hp.get? b = some o → h'.get? b = some o) → h'.get? a = some (excRec (.ref C) hp.objs.size none .none .none (.bool false)) → h'.get? hp.objs.size = some (excTup us) → Q .none ⟨h', g, d, t, os⟩ := fun h' k hx _ => by
    have J := I.write (t' := t) (x := a) (e := a) (o := exo a C none) (by rw [e]; exact True.intro) (.inl rfl) k ⟨_, hx⟩ (exo_ok hx)
    have eu : upd H a (exo a C none) = H := by
      funext b
      by_cases hb : b = a
      · rw [hb, upd_same, e]
      · rw [upd_ne hb]
    rw [eu] at J
    exact h _ J
  refine wpAny_call (codeAny_of_tree ?_)
  show wpAny _ A.in1 (callAny (.ref u) ⟨us, []⟩) _ _ _
  simp only [callAny]
  refine wpAny_bind (wpAny_load hu ?_)
  simp only [kxs_mw, show (Value.type "method-wrapper" == Value.type "method" || Value.type "method-wrapper" == Value.type "builtin_function_or_method" || Value.type "method-wrapper" == Value.type "method-wrapper") = true by decide, if_true]
  refine KFB.if_so (by decide) ?_
  refine wpAny_bind (check_bound_init PySem.F.excBase_ValueError.toExcCallFacts hC1 ho rfl ?_)
  refine wpAny_bind (wpAny_pure (wpAny_pure ?_))
  refine ⟨plainId_quiet PySem.F.excBase_ValueError.init.plain _, codeAny_builtin PySem.F.excBase_ValueError.initEntry ?_⟩
  exact exc_init_tree (cls := .ref C) (t0 := t1) (dv := none) (c2 := .none) (c3 := .none) (b4 := .bool false) ho hl fin
/-- what the written part says of a class whose __init__ says super().__init__(..) -/
structure SupC (K : Fg) (C D cc f cda : Addr) (file : Str) : Prop where
  ox : OexC K C
  cell : ∃ cl cld csl, K.lookup cc = some ⟨cl, cld, .cell (some (.ref D)), csl⟩
  own : isClsIn K D = true
  sub : mroIn K C (.ref D) = some true
  ve : subIn K (.ref C) (.type "ValueError") = some true
  opq : nsIn K cStatics "thirdparty.any" = some none
  sup : ks_superIn K C D "__init__" = some (some (.builtin "ValueError.__init__"))
  code : ∃ ccl cdd vs ccs tf, K.lookup cda = some ⟨ccl, cdd, .fields vs, ccs⟩ ∧ vs[2]? = some (.str file tf)
theorem super_line {X : Cx} {qual : Str} {scope : Scope} {L f cda cc a C D : Addr} {file : Str} {fd : FuncData} {oc : Value} {od : Option Addr} {osl : Array (Option Value)} {body : List Stmt} {p0 p1 p2 p3 p4 : Pos} {e1 : Expr} {te : TE} {σ : L2.St} {H : Hp} {s : Shared} {G : Shared → Prop} {ar : Arg}
    (hX : X.env = ksEnv qual scope L f (.ref cda) cc) (T : SupC X.K C D cc f cda file) (hf : X.K.lookup f = some ⟨oc, od, .func fd, osl⟩) (hp : (fd.params.posonlyargs ++ fd.params.args).head? = some ar)
    (hfile : ((X.prog.main.file : Str) == file) = true) (htop : (X.prog.main.scope.names.lookup ("super" : Str)).isSome = false) (hms : X.mg "super" = none)
    (hks : scope.names.lookup ("super" : Str) = some .globalImplicit) (hkc : scope.names.lookup ("__class__" : Str) = some .free) (hka : scope.names.lookup ar.arg = some .local)
    (I : Inv X [] σ H s) (hN : X.N[0]? = some ar.arg) (h0 : σ[0]? = some (some (.ref a))) (ea : H a = some (exo a C none)) (he : PE X e1 te)
    (hst : starEach [e1] X.env = (false, eval e1 X.env) :: starEach [] X.env) (hpl : (backTo p3 (starEach [] X.env)).any (·.1) = false)
    (hi : interactive X.env = false) (hsw : swapsWith (.Call (.Attribute (.Call (.Name "super" p0) [] [] p1) "__init__" p2) [e1] [] p3) none p4.line X.env = pure false)
    (hev : ∃ pl, eval (.Call (.Attribute (.Call (.Name "super" p0) [] [] p1) "__init__" p2) [e1] [] p3) X.env = (do
      let ov ← attributeBase (.Call (.Name "super" p0) [] [] p1) "__init__" X.env (eval (.Call (.Name "super" p0) [] [] p1) X.env)
      standAt p2.atName
      let (f, first) ← holding [ov] (getMethod ov "__init__" pl)
      callWith p3 f first (backTo p3 (starEach [e1] X.env)) []))
    (h : te σ H fun x H1 => H1 a = some (exo a C none) ∧ ∀ s', Inv X [] σ H1 s' → G s') :
    _root_.PySem.wpAt (model X.prog X.w) X.A (.func body X.env) (exec (.Expr (.Call (.Attribute (.Call (.Name "super" p0) [] [] p1) "__init__" p2) [e1] [] p3) p4) X.env) (fun fl s' => fl = .next ∧ G s') X.xe s := by
  obtain ⟨pl, hev⟩ := hev
  obtain ⟨cl, cld, csl, hcell⟩ := T.cell
  obtain ⟨ccl, cdd, vs, ccs, tf, hcode, hvs⟩ := T.code
  have KX := I.kIn
  refine ks_wpAt_Expr_any (ks_wpAt_MethodCall ?_ hev) hi hsw
  obtain ⟨nm, q, N, bs, bm, sn, sub, ab, col, dd, k0, k1, k2, k3, k5, hC, hbm⟩ := T.ox.cls
  obtain ⟨t1, ho⟩ := exo_at I.hok ea
  obtain ⟨m, hns, hlk⟩ := I.loc
  have hkind := I.ok.kind
  have ksX : X.env.kindOf "super" = some .globalImplicit := by rw [hX]; exact hks
  have kcX : X.env.kindOf "__class__" = some .free := by rw [hX]; exact hkc
  have kaX : X.env.kindOf ar.arg = some .local := by rw [hX]; exact hka
  have ccX : X.env.cells.lookup (("__class__" : Str)) = some cc := by rw [hX]; rfl
  obtain ⟨u0, ru0, lk0⟩ := hlk 0 ar.arg (.ref a) hN h0 (.inl kaX)
  obtain rfl : u0 = Value.ref a := ru0
  have hma : m ar.arg = some (.ref a) := by
    rcases lk0 with ⟨_, q⟩ | ⟨q, _⟩
    · exact q
    · rw [kaX] at q; rcases q with q | q <;> cases q
  obtain ⟨cdD, hcdD⟩ := Option.isSome_iff_exists.mp (show (clsIn X.K D).isSome = true from T.own)
  obtain ⟨oD, hD1, hD2⟩ : ∃ oD, s.heap.get? D = some oD ∧ oD.data = .cls cdD := by
    unfold clsIn at hcdD
    split at hcdD
    · rename_i c d cd' sl ho'
      cases hcdD
      exact ⟨_, KX _ _ ho', rfl⟩
    · cases hcdD
  obtain ⟨cdC, hcdC⟩ : ∃ cd, clsIn X.K C = some cd := by
    have q := T.sub
    unfold mroIn at q
    cases z : clsIn X.K C with
    | none => rw [z] at q; cases q
    | some cd => exact ⟨cd, rfl⟩
  have hsup : alongIn X.K "__init__" ((cdC.mro.dropWhile (· != .ref D)).drop 1) = some (some (.builtin "ValueError.__init__")) := by
    have q := T.sup
    unfold ks_superIn at q
    rw [hcdC] at q
    exact q
  have haC : a ≠ C := fun z => by
    have q := KX _ _ hC
    rw [← z, ho] at q
    cases q
  obtain ⟨mb, hb1, hb2⟩ := I.mod.blt
  obtain ⟨hh, g, d, t, os⟩ := s
  refine ks_wpAt_super_base (f := f) (fd := fd) (ar := ar) ksX kcX (by decide) (by rw [hX]) (KX _ _ hf) rfl hp (by rw [hX]) (KX _ _ hcode) rfl hvs hfile htop ?_
  refine ks_loadName_global hkind ksX (Calls.loadGlobal_builtin (by rw [I.ok.glob]; exact I.mod.glob.keeps I.bk) hms (by rw [I.ok.blt]; exact hb1.keeps I.bk) ((hb2 _ (by decide)).trans (by first | boot_by_name | rfl | kernel_rfl)) ⟨rfl, ?_⟩)
  refine wpAny_loadName_free hkind kcX ccX ⟨_, KX _ _ hcell, rfl⟩ ?_
  refine wpAny_loadName_local hkind kaX hns hma ?_
  refine ks_wpAny_isType_cls hD1 hD2 ⟨rfl, ?_⟩
  refine ks_wpAny_call_super hD1 hD2 ho rfl (fun c z => by cases z) (looks_mroIn KX T.sub) (fun h' e k => ?_)
  have KX' : X.K.In h' := KX.keeps k
  have ho' := k _ _ ho
  have LT : Looks (model X.prog X.w) h' (typeOf (.ref a)) (.ref C) := fun A Q E s k q => wpAny_typeOf_ref (k _ _ ho') q
  refine kxs_getMethod kxs_ValueError e (looks_opaque KX' T.opq) (l₀ := cdC.mro) (fun A Q E s k q => wpAny_bind ((looks_clsIn KX' hcdC) A _ E s k (wpAny_pure q))) rfl KX' hsup (LT.andThen (looks_subIn KX' T.ve)) haC (by decide) ?_
  -- the arguments
  have k2 : ∀ b o, hh.get? b = some o → (h'.push (kxs_mw "ValueError.__init__" a)).get? b = some o := fun b o q => Heap.get?_push_of_some _ (k b o q)
  have I2 : Inv X [] σ H ⟨h'.push (kxs_mw "ValueError.__init__" a), g, d, t + 1, os⟩ := I.kept (t' := t + 1) k2
  have hge : hh.objs.size ≤ h'.objs.size := by
    by_cases z : hh.objs.size = 0
    · omega
    · have hl : hh.objs.size - 1 < hh.objs.size := by omega
      exact Nat.le_of_lt (Heap.lt_size e)
  have I3 : Inv X [(h'.objs.size, kxs_mw "ValueError.__init__" a)] σ H ⟨h'.push (kxs_mw "ValueError.__init__" a), g, d, t + 1, os⟩ := I2.pins_of fun p hp => by
    rw [List.mem_singleton.mp hp]
    refine ⟨Heap.get?_push_size _ rfl, I.hok.fresh hge, ?_, I.nofs hge, fun v z => by cases z⟩
    have := hns.lt
    exact Nat.ne_of_gt (Nat.lt_of_lt_of_le this hge)
  rw [hst]
  refine kxs_callWith (i := "ValueError.__init__") (x := a) (by show (false || (backTo p3 (starEach [] X.env)).any (·.1)) = false; rw [hpl]; rfl) (Calls.evalArgs_plain ?_)
  refine Calls.spliced_cons (thn (he.run _ _ σ H _ I3 h) fun u1 s1 ⟨x1, H1, J1, rx1, ea1, q1⟩ => ?_)
  refine Calls.spliced_nil ?_
  have hu := (J1.pin (h'.objs.size, kxs_mw "ValueError.__init__" a) (List.mem_append_right _ List.mem_cons_self)).1
  refine ⟨hu, mw_init T.ox J1 ea1 hu (by show 1 ≤ sizeLine; decide) fun s' J => ⟨rfl, q1 s' (J.pins_of fun p hp => absurd hp (by simp))⟩⟩
end DW
set_option Elab.async false
set_option linter.all false
set_option maxRecDepth 100000
set_option maxHeartbeats 4000000
namespace DW
open PySem PySem.Spec PyProof.Rows L2 NdefX PySem.W
/-- what __init__(self, f) keeps: self, an error in the making, gets its one field -/
def spInit (K : Fg) (C : Addr) (fld : Str) (okv : V → Hp → Prop) : Sp := fun vs H Q _ => ∃ a v, vs = [.ref a, v] ∧ okv v H ∧ OexC K C ∧ findIn K (.ref C) fld = some none ∧ H a = some (exo a C none) ∧
  ∀ d, H d = none → d ≠ a → Q .non (upd (upd H d (exd d [(fld, v)])) a (exo a C (some d)))
/-- __init__(self, f): super().__init__(text); self.f = f -/
theorem sup_fn {CX : CXT} {P : Program} {w : World} {K : Fg} {mg : Str → Option Value} {base : Heap} {k : Nat} {f C D cc cda : Addr} {name qual fld file : Str} {params : Arguments} {scope : Scope} {kV doc pm ct oc : Value} {an od : Option Addr} {osl : Array (Option Value)} {N : List Str} {okv : V → Hp → Prop}
    {p0 p1 p2 p3 p4 q1 q2 q3 q4 : Pos} {e1 : Expr} {ar : Arg}
    (lk : K.lookup f = some ⟨oc, od, .func (ksFn name qual params [.Expr (.Call (.Attribute (.Call (.Name "super" p0) [] [] p1) "__init__" p2) [e1] [] p3) p4, .Assign [.Attribute (.Name "self" q1) fld q2] (.Name fld q3) q4] scope .none kV doc pm an (.ref cda) ct cc), osl⟩)
    (hcd : codeIn K (.ref cda) qual = true) (S : NScope N ["self", fld] ["__class__"] scope) (T : SupC K C D cc f cda file) (hp : (params.posonlyargs ++ params.args).head? = some ar) (har : ar.arg = "self")
    (hfile : ((P.main.file : Str) == file) = true) (htop : (P.main.scope.names.lookup ("super" : Str)).isSome = false) (hms : mg "super" = none) (hks : scope.names.lookup ("super" : Str) = some .globalImplicit)
    (hdb : (fld == ("__debug__" : Str)) = false)
    (hX : ∀ (X : Cx), X.prog = P → X.w = w → X.K = K → X.N = N → X.env.scope = scope → (∃ L, X.env = ksEnv qual scope L f (.ref cda) cc) → Room k X.A →
      (∃ te, PE X e1 te ∧ ∀ (σ : L2.St) (H : Hp) (v : V), σ[1]? = some (some v) → okv v H → ∀ Q : VK, (∀ x, Q x H) → te σ H Q) ∧
      starEach [e1] X.env = (false, eval e1 X.env) :: starEach [] X.env ∧ (backTo p3 (starEach [] X.env)).any (·.1) = false ∧ interactive X.env = false ∧
      swapsWith (.Call (.Attribute (.Call (.Name "super" p0) [] [] p1) "__init__" p2) [e1] [] p3) none p4.line X.env = pure false ∧
      (∃ pl, eval (.Call (.Attribute (.Call (.Name "super" p0) [] [] p1) "__init__" p2) [e1] [] p3) X.env = (do
        let ov ← attributeBase (.Call (.Name "super" p0) [] [] p1) "__init__" X.env (eval (.Call (.Name "super" p0) [] [] p1) X.env)
        standAt p2.atName
        let (f, first) ← holding [ov] (getMethod ov "__init__" pl)
        callWith p3 f first (backTo p3 (starEach [e1] X.env)) [])) ∧
      swapsWith (.Name fld q3) (some (.Attribute (.Name "self" q1) fld q2)) q4.line X.env = pure false ∧ PE X (.Name "self" q1) (tVar 0) ∧ PE X (.Name fld q3) (tVar 1)) :
    FnOk P w K mg base CX (k + 1) f (ksFn name qual params [.Expr (.Call (.Attribute (.Call (.Name "super" p0) [] [] p1) "__init__" p2) [e1] [] p3) p4, .Assign [.Attribute (.Name "self" q1) fld q2] (.Name fld q3) q4] scope .none kV doc pm an (.ref cda) ct cc) ["self", fld] (spInit K C fld okv) := by
  obtain ⟨cl, cld, csl, lcc⟩ := T.cell
  obtain ⟨_, hC2⟩ : True ∧ True := ⟨trivial, trivial⟩
  refine supfn_of lk hcd S lcc (fun vs H Q E h => ?_) (fun A outer s s1 H vs Q E hr h I => ?_)
  · obtain ⟨a, v, rfl, _⟩ := h; rfl
  obtain ⟨a, v, rfl, hok, hox, hno, ea, hq⟩ := h
  have hlen : N.take 3 = (["self", fld, "__class__"] : List Str) := S.pre
  have hn0 : N[0]? = some ("self" : Str) := by
    have q := congrArg (fun l : List Str => l[0]?) hlen
    rw [List.getElem?_take_of_lt (by decide)] at q
    exact q
  have hl3 : 3 ≤ N.length := by have := congrArg List.length hlen; rw [List.length_take] at this; simp at this; omega
  obtain ⟨⟨te, hte, hmsg⟩, f1, f2, f3, f4, f5, f6, f7, f8⟩ := hX (ncx CX P w K mg base N ⟨name, qual, params, [.Expr (.Call (.Attribute (.Call (.Name "super" p0) [] [] p1) "__init__" p2) [e1] [] p3) p4, .Assign [.Attribute (.Name "self" q1) fld q2] (.Name fld q3) q4], scope, [("__class__", cc)], cda⟩ f A outer s H E) rfl rfl rfl rfl rfl ⟨_, rfl⟩ hr
  have s0 : (startF N [.ref a, v] [none])[0]? = some (some (.ref a)) := rfl
  have s1' : (startF N [.ref a, v] [none])[1]? = some (some v) := rfl
  refine ks_wpAt_execs_cons (ks_wpAt_mono (super_line (X := ncx CX P w K mg base N ⟨name, qual, params, [.Expr (.Call (.Attribute (.Call (.Name "super" p0) [] [] p1) "__init__" p2) [e1] [] p3) p4, .Assign [.Attribute (.Name "self" q1) fld q2] (.Name fld q3) q4], scope, [("__class__", cc)], cda⟩ f A outer s H E) (L := s.heap.objs.size) (σ := startF N [.ref a, v] [none]) (H := H) rfl T lk hp hfile htop hms hks (S.frk _ List.mem_cons_self) (by rw [har]; exact S.par _ List.mem_cons_self) I (by rw [har]; exact hn0) s0 ea hte f1 f2 f3 f4 f5
    (G := fun s' => Inv (ncx CX P w K mg base N ⟨name, qual, params, [.Expr (.Call (.Attribute (.Call (.Name "super" p0) [] [] p1) "__init__" p2) [e1] [] p3) p4, .Assign [.Attribute (.Name "self" q1) fld q2] (.Name fld q3) q4], scope, [("__class__", cc)], cda⟩ f A outer s H E) [] (startF N [.ref a, v] [none]) H s') ?_) (fun fl s' hs => ?_) fun _ _ z => z)
  · exact hmsg _ H v s1' hok _ fun x => ⟨ea, fun s' J => J⟩
  · obtain ⟨rfl, J⟩ := hs
    refine PySem.wpAt_of_wpAny ?_
    refine (pss_one (ps_ost f7 f8 f6)).run [] s' _ H _ J ?_
    refine ⟨v, s1', .ref a, s0, a, C, rfl, hox, hno, .inl ⟨ea, fun dx hd hne => ?_⟩⟩
    exact hq dx hd hne
/-- C(e): an own error made, its context None -/
theorem pmk_sup {CX : CXT} {X : Cx} {x fld : Str} {C fI : Addr} {k : Nat} {fd : FuncData} {ps : List Str} {okv : V → Hp → Prop} {e : Expr} {ta : TA} {p pos : Pos} (T : OexC X.K C) (iC : findIn X.K (.ref C) "__init__" = some (some (.ref fI))) (tI : typeIn X.K (.ref fI) = some (.type "function")) (hno : findIn X.K (.ref C) fld = some none)
    (F1 : FnOk X.prog X.w X.K X.mg X.base CX k fI fd ps (spInit X.K C fld okv)) (hr : Room (k + 1) X.A) (hb : Binds X.K fd ps []) (hx : Passes CX X (fun _ _ _ => False)) (hg : Gl X x) (hm : X.mg x = some (.ref C)) (ha : PA X [e] ta)
    (hdb : (x == ("__debug__" : Str)) = false := by decide) (hst : starEach [e] X.env = (false, eval e X.env) :: starEach [] X.env := by rfl) (hpl : (backTo pos (starEach [] X.env)).any (·.1) = false := by rfl) :
    L2N.PMk X (.Call (.Name x p) [e] [] pos) (fun σ H Q => ta σ H fun vs H1 => ∃ v, vs = [v] ∧ (∀ a, H1 a = none → okv v (upd H1 a (exo a C none))) ∧ ∀ d, H1 d = none → Q (.ref C) (some d) (upd H1 d (.xd [(fld, v)]))) := by
  intro pins s σ H Q I h
  obtain ⟨nm, q, N, bs, bm, sn, sub, ab, col, dd, k0, k1, k2, k3, k5, hC, hbm⟩ := T.cls
  refine wpAny_Call_Name_kw (ld_glob I hg hm ?_ hdb)
  refine callWith_K (h₀ := X.base) I.ok.mod.kin T.kC (thn (ha.run pos pins s σ H _ I h) fun us s1 ⟨vs, H1, I1, r1, v, ev, hok, q1⟩ => ⟨I1.kIn, ?_⟩) hst hpl
  subst ev
  obtain ⟨u1, rfl, rv1⟩ := vals1 r1
  obtain ⟨hp, g, dr, tk, os⟩ := s1
  have hsz : hp.objs.size ≤ hp.objs.size + 1 := Nat.le_succ _
  have hn : H1 (hp.objs.size + 1) = none := I1.hok.fresh hsz
  have kk : ∀ b o, hp.get? b = some o → ((hp.push (kdv_tup [u1])).push (PySem.HandSPX.excO C hp.objs.size)).get? b = some o := fun b o z => Heap.get?_push_of_some _ (Heap.get?_push_of_some _ z)
  have hget : ((hp.push (kdv_tup [u1])).push (PySem.HandSPX.excO C hp.objs.size)).get? (hp.objs.size + 1) = some (PySem.HandSPX.excO C hp.objs.size) := by heap_get
  have I2 : Inv X pins σ (upd H1 (hp.objs.size + 1) (exo (hp.objs.size + 1) C none)) ⟨(hp.push (kdv_tup [u1])).push (PySem.HandSPX.excO C hp.objs.size), g, dr, tk, os⟩ := I1.laid (t' := tk) kk hsz (exo_ok hget)
  have hsp : spInit X.K C fld okv [.ref (hp.objs.size + 1), v] (upd H1 (hp.objs.size + 1) (exo (hp.objs.size + 1) C none)) (fun v' H2 => v' = .non ∧ ∃ d, H2 (hp.objs.size + 1) = some (exo (hp.objs.size + 1) C (some d)) ∧ H2 d = some (exd d [(fld, v)]) ∧ H1 d = none ∧ Q (.ref C) (some d) (upd (L2.del H2 (hp.objs.size + 1)) d (.xd [(fld, v)]))) (fun _ _ _ => False) := by
    refine ⟨_, v, rfl, hok _ hn, T, hno, upd_same, fun d hd hne => ⟨rfl, d, upd_same, ?_, ?_, ?_⟩⟩
    · rw [upd_ne hne, upd_same]
    · rw [upd_ne hne] at hd; exact hd
    · have hd1 : H1 d = none := by rw [upd_ne hne] at hd; exact hd
      have e2 : upd (L2.del (upd (upd (upd H1 (hp.objs.size + 1) (exo (hp.objs.size + 1) C none)) d (exd d [(fld, v)])) (hp.objs.size + 1) (exo (hp.objs.size + 1) C (some d))) (hp.objs.size + 1)) d (.xd [(fld, v)]) = upd H1 d (.xd [(fld, v)]) := by
        funext b
        by_cases h1 : b = d
        · rw [h1, upd_same, upd_same]
        · rw [upd_ne h1, upd_ne h1]
          by_cases h2 : b = hp.objs.size + 1
          · rw [h2, L2.del_same, hn]
          · rw [L2.del_ne h2, upd_ne h2, upd_ne h1, upd_ne h2]
      rw [e2]
      exact q1 d hd1
  have r2 : Vals [V.ref (hp.objs.size + 1), v] [Value.ref (hp.objs.size + 1), u1] := .cons rfl (.cons rv1 .nil)
  have hl : [Value.ref (hp.objs.size + 1), u1].length = ps.length := F1.len _ _ _ _ hsp
  show wpAny _ _ (call (.ref C) [u1]) _ _ _
  refine wpAny_call (PySem.HandSPX.call_own PySem.F.excBase_ValueError (fun Y => PySem.HandSPX.refsVE_contains Y bm hbm) (I1.kIn _ _ hC) (looks_findIn I1.kIn iC) (fun self => bind_fn I1.kIn self tI) (by show 1 ≤ sizeLine; decide)
    (codeAny_mono (F1.run _ X.stack _ _ ⟨[Value.ref (hp.objs.size + 1), u1], []⟩ [Value.ref (hp.objs.size + 1), u1] _ _ (fun _ _ _ => False) (hr.make C [u1] []) (I2.env0.make C [u1] []) (by have := hb _ [Value.ref (hp.objs.size + 1), u1] I2.kIn (by simpa using hl); simpa using this) r2 hsp) fun r s' hq' => ?_))
  cases r with
  | error er => exact hx pins σ _ _ er s' I2 hq'
  | ok fl =>
    cases fl with
    | ret u =>
      obtain ⟨v', H2, os2, bare2, un2, hok2, rv, ev, d, ea, ed, hd1, q2⟩ := hq'
      subst ev
      obtain ⟨h2, g2, d2, t2, os'⟩ := s'
      obtain ⟨t0, G, J, kG, ge, hoe, na⟩ := mk_end0 (d2 := d2) (t2 := t2) I1 hsz kk un2 hok2 os2 bare2 ea ed hd1
      exact ⟨rv, _, _, _, ⟨G, g2, d2, t2, os'⟩, _, .ref C, some d, rfl, J, kG, ge, hoe, ⟨rfl, rfl, fun vs z => by cases z; rfl⟩, rfl, rfl, na, rfl, bare2, raises_own T.exC T.tyC, q2⟩
    | next => exact False.elim hq'
    | brk => exact False.elim hq'
    | cont => exact False.elim hq'
end DW
set_option Elab.async false
set_option linter.all false
set_option maxRecDepth 100000
set_option maxHeartbeats 4000000
namespace DW
open PySem PySem.Spec PyProof.Rows L2
section
variable {K : Fg} {B : Bx K}
def dRaise1 (C : Addr) (fld : Str) (okd : D → Prop) (φ : DE) : DSt := fun Ψ _ δ μ => φ Ψ δ μ fun x μ1 => okd x ∧ Ψ (.mk C (some ([fld], [x]))) δ μ1
theorem sRaise1 {W : WX} {C : Addr} {fld : Str} {okd : D → Prop} {okv : V → Hp → Prop} {te : TE} {φ : DE} (hW : B.W = W) (hok : ∀ (μ : Sto) (H : Hp) (v : V) (d : D), Rep K μ H v d → okd d → okv v H) (a : SE B te φ) :
    SS B (fun _ σ H => (fun (σ : L2.St) (H : Hp) (Q : XK) => tCons te tNil σ H fun vs H1 => ∃ v, vs = [v] ∧ (∀ a, H1 a = none → okv v (upd H1 a (exo a C none))) ∧ ∀ d, H1 d = none → Q (.ref C) (some d) (upd H1 d (.xd [(fld, v)]))) σ H fun cls d H' => W cls d σ H') (dRaise1 C fld okd φ) := fun D Δ σ H δ μ E S q => by
  subst hW
  refine a σ H δ μ _ _ S q fun v H1 x μ1 S1 e1 r1 q1 => ?_
  obtain ⟨q2, q3⟩ := q1
  refine ⟨v, rfl, fun b hb => hok μ1 _ v x (r1.mono (.new hb)) q2, fun d hd => ?_⟩
  have ev : Evo μ1 H1 μ1 (upd H1 d (.xd [(fld, v)])) := .new hd
  exact B.hW _ _ σ _ (.mk C (some ([fld], [x]))) δ μ1 (S1.step ev (S1.sto.new hd)) ⟨rfl, d, [v], rfl, upd_same, .new S1.sto hd, rfl, r1.mono ev⟩ q3
/-- n.f, n the error that a suite holds -/
def dXf (a : Addr) (x : XD) (C : Addr) (f : Str) (φ : DE) : DE := fun Ψ δ μ Φ => φ Ψ δ μ fun y μ1 => y = .hd (.ref a) ∧ ∃ (ns : List Str) (ds : List DW.D) (i : Nat) (d : DW.D), x = .mk C (some (ns, ds)) ∧ ns[i]? = some f ∧ ns.Nodup ∧ ds[i]? = some d ∧ Φ d μ1
theorem zip_lookup : ∀ {ns : List Str} {us : List V} {i : Nat} {f : Str} {v : V}, ns.Nodup → ns[i]? = some f → us[i]? = some v → (ns.zip us).lookup f = some v
  | [], us, i, f, v, _, h, _ => by cases h
  | n :: ns, [], i, f, v, _, _, h => by cases h
  | n :: ns, u :: us, 0, f, v, _, h1, h2 => by
    have e1 := Option.some.inj h1
    have e2 := Option.some.inj h2
    subst e1 e2
    simp [List.lookup]
  | n :: ns, u :: us, i + 1, f, v, hn, h1, h2 => by
    have hne : ¬ (f = n) := fun z => by
      have : f ∈ ns := List.mem_of_getElem? h1
      rw [z] at this
      exact (List.nodup_cons.mp hn).1 this
    have hb : (f == n) = false := by simp [hne]
    show (match f == n with | true => some u | false => (ns.zip us).lookup f) = some v
    rw [hb]
    exact zip_lookup (List.nodup_cons.mp hn).2 h1 h2
theorem sXf {a C : Addr} {cls : Value} {dd : Option Addr} {x : XD} {f : Str} {te : TE} {φ : DE} (rx : RepX K B.μ0 B.H0 cls dd x) (s : SE B te φ) : SE B (tXf a cls dd C f te) (dXf a x C f φ) := fun σ H δ μ Φ Q S q k =>
  s σ H δ μ _ _ S q fun v H1 y μ1 S1 e1 r1 q1 => by
    obtain ⟨rfl, ns, ds, i, d, rfl, h1, h2, h3, q2⟩ := q1
    obtain rfl := Rep.hd_inv r1
    obtain ⟨rfl, p, us, rfl, hp, hnm, hl, hr⟩ := rx
    have hp1 := (S1.evo.st _ _ hp hnm)
    obtain ⟨u, hu, ru⟩ := (hr.mono S1.evo).get h3
    exact ⟨rfl, rfl, p, _, u, rfl, hp1.1, zip_lookup h2 h1 hu, k u H1 d μ1 S1 e1 ru q2⟩
def rIsH (K : Fg) (cls : Value) (dd : Option Addr) (a : Addr) : List V → Hp → VK → Prop := fun xs H Q => ∃ C, cls = .ref C ∧ L2.ExcC K C ∧ (dd = none ∨ ∃ p fs, dd = some p ∧ H p = some (.xd fs)) ∧
  ∃ (c : V) (cv : Value) (b : Bool), xs = [.ref a, c] ∧ (∀ u, RelV c u → u = cv) ∧ PySem.W.kitOne K (.ref C) cv = some b ∧ Q (.bl b) H
theorem call_isH {X : Cx} {a : Addr} {cls : Value} {dd : Option Addr} {oe : Obj} {pn : List (Addr × Obj)} (hz : L2N.Zn cls dd oe) (hf : ∃ vs, oe.data = .fields vs) : CallR (X.suite a ((a, oe) :: pn)) (.builtin "isinstance") (rIsH X.K cls dd a) := by
  intro pins s σ H xs us Q I r h
  obtain ⟨C, rfl, hC, hdd, c, cv, b, rfl, hcv, e, q⟩ := h
  obtain ⟨hget, _⟩ := I.pin (a, oe) (List.mem_append.mpr (.inl List.mem_cons_self))
  obtain ⟨vs, hv⟩ := hf
  obtain ⟨u1, u2, rfl, r1, r2⟩ := vals2 r
  obtain rfl : u1 = Value.ref a := r1
  have ec := hcv _ r2
  subst ec
  obtain ⟨od, J⟩ : ∃ od, PySem.W.InstAt s.heap a oe C od := by
    obtain ⟨oc, od, oda, osl⟩ := oe
    obtain ⟨h1, h2, _⟩ := hz
    dsimp only at h1 h2 hv
    subst h1 hv
    rcases hdd with z | ⟨p, fs, z, hp⟩
    · subst z; subst h2; exact ⟨none, hget, rfl, rfl, trivial⟩
    · subst z; subst h2
      obtain ⟨mA, ⟨o, es, ep, ho, _⟩, _⟩ := (I.hok p _ hp)
      exact ⟨some o, hget, rfl, rfl, ho⟩
  have hcl : (PySem.W.clsIn X.K C).isSome = true := by
    obtain ⟨cd, q, _⟩ := PySem.W.any_some hC.hd
    rw [q]; rfl
  exact PySem.W.kia_one (PySem.W.kitx_exc hcl hC.hg hC.hk hC.hs hC.ha hC.hn hC.ht hC.hm) I.kIn J e (fun z => nomatch z) fun tk => ⟨.bl b, H, I.kept (t' := tk) fun _ _ z => z, rfl, q⟩
def kitE (K : Fg) : XD → V → Option Bool
  | .mk C _, .ref T => PySem.W.kitOne K (.ref C) (.ref T)
  | .mk C _, .ty T => PySem.W.kitOne K (.ref C) (.type T)
  | _, _ => none
def excE (K : Fg) : XD → Prop
  | .mk C _ => L2.ExcC K C
def dIsE (K : Fg) (a : Addr) (x : XD) (ψ : DA) : DE := fun Ψ δ μ Φ => ψ Ψ δ μ fun xs μ1 => ∃ c b, xs = [.hd (.ref a), .hd c] ∧ kitE K x c = some b ∧ excE K x ∧ Φ (.bl b) μ1
theorem sIsE {a : Addr} {cls : Value} {dd : Option Addr} {x : XD} {tas : TA} {ψ : DA} (rx : RepX K B.μ0 B.H0 cls dd x) (s : SA B tas ψ) : SE B (tCB (rIsH K cls dd a) tas) (dIsE K a x ψ) := fun σ H δ μ Φ Q S q k =>
  s σ H δ μ _ _ S q fun vs H1 xs μ1 S1 e1 r1 q1 => by
    obtain ⟨c, b, rfl, hk, hx, q2⟩ := q1
    obtain ⟨v, w, rfl, ra, rb⟩ := reps2 r1
    obtain rfl := Rep.hd_inv ra
    obtain rfl := Rep.hd_inv rb
    obtain ⟨C, fs⟩ := x
    have hcd : cls = .ref C ∧ (dd = none ∨ ∃ p fs', dd = some p ∧ H1 p = some (.xd fs')) := by
      cases fs with
      | none => exact ⟨rx.1, .inl rx.2⟩
      | some f =>
        obtain ⟨ns, ds⟩ := f
        obtain ⟨hc, p, us, hp, hH, hn, _⟩ := rx
        exact ⟨hc, .inr ⟨p, _, hp, (S1.evo.st _ _ hH hn).1⟩⟩
    obtain ⟨rfl, hdd⟩ := hcd
    refine ⟨C, rfl, hx, hdd, ?_⟩
    cases w with
    | ref T => exact ⟨_, .ref T, b, rfl, fun u h => by cases h; rfl, hk, k _ H1 _ μ1 S1 e1 (.bl _ .nil) q2⟩
    | ty T => exact ⟨_, .type T, b, rfl, fun u h => by cases h; rfl, hk, k _ H1 _ μ1 S1 e1 (.bl _ .nil) q2⟩
    | _ => cases hk
end
end DW
set_option Elab.async false
set_option linter.all false
set_option maxRecDepth 100000
set_option maxHeartbeats 4000000
namespace DW
open PySem PySem.Spec PyProof.Rows L2
theorem repr_ints {prog : Program} {w : World} : ∀ {l : List Int} {its : List Value}, Vals (l.map V.int) its → (∀ i ∈ l, i.natAbs.log2 < 1920) → ReprAll prog w its (l.map fun i => Str.ofString (toString i))
  | [], _, r, _ => by cases r; exact .nil
  | y :: l, _, r, h => by
    cases r with
    | cons r1 r2 =>
      obtain ⟨t, rfl⟩ := r1
      exact .cons (ReprIs.int t (h y List.mem_cons_self)) (repr_ints r2 fun z hz => h z (List.mem_cons_of_mem _ hz))
theorem piled_ints : ∀ (l : List Int), (∀ i ∈ l, i.natAbs.log2 < 1920) → piled (l.map fun i => Str.ofString (toString i)) ≤ 3000 * l.length
  | [], _ => by simp [piled]
  | y :: l, h => by
    have ih := piled_ints l fun z hz => h z (List.mem_cons_of_mem _ hz)
    have e := int_text_length_le (k := 1920) (by decide) (h y List.mem_cons_self)
    rw [List.map_cons, piled_cons, PySem.ofString_length, List.length_cons]
    omega
def tFmtI (K : Fg) (te : TE) : TE := fun σ H Q => te σ H fun x H1 => ∃ (a : Addr) (l : List Int), x = .ref a ∧ SqT K H1 a (l.map V.int) ∧ (∀ i ∈ l, i.natAbs.log2 < 1920) ∧ l.length ≤ 1000 ∧ ∀ m : Str, m.length ≤ 3000100 → Q (.str m) H1
theorem pe_fmtI {X : Cx} {e : Expr} {te : TE} {pos : Pos} {k : Nat} (hr : Room k X.A) (he : PE X e te) : PE X (.FormattedValue e (-1) none pos) (tFmtI X.K te) := by
  refine ⟨fun pins s σ H Q I h => ?_⟩
  refine wpAny_FormattedValue_plain (thn (he.run pins s σ H _ I h) fun v s1 hv => ?_)
  obtain ⟨x, H1, I1, r1, a, l, rfl, ht, hc, hz, q⟩ := hv
  cases r1
  obtain ⟨its, rv, ⟨o, ho, hcl, n, hd⟩, _⟩ := I1.tuple ht
  have hp := piled_ints l hc
  have htx := fmt_text (l.map fun i => Str.ofString (toString i))
  have hu := hr.units
  exact fmt_tuple (ts := l.map fun i => Str.ofString (toString i)) (by omega) ho hcl hd (repr_ints rv hc) (by rw [sizeLine_eq]; omega) fun m u tk hm => ⟨.str m, H1, I1.tok _, ⟨u, rfl⟩, q m (by omega)⟩
def okPath (K : Fg) : V → Hp → Prop := fun v H => ∃ (a : Addr) (l : List Int), v = .ref a ∧ SqT K H a (l.map V.int) ∧ (∀ i ∈ l, i.natAbs.log2 < 1920) ∧ l.length ≤ 1000
theorem strlen_append (a b : Str) : (a ++ b).length = a.length + b.length := by first | exact PySem.Str.length_append a b | exact StrLaws.length_append a b | exact PySem.StrLaws.length_append a b
/-- f"..{path}.." -/
theorem msg_path {X : Cx} {s1 s2 : Str} {k1 k2 : Nat} {k : Nat} {fld : Str} {q1 q2 q3 q4 q5 : Pos} (hr : Room k X.A) (h1 : s1.length ≤ 1000) (h2 : s2.length ≤ 1000) (hv : PE X (.Name fld q2) (tVar 1)) :
    ∃ te, PE X (.JoinedStr [.Constant (.str s1) k1 q1, .FormattedValue (.Name fld q2) (-1) none q3, .Constant (.str s2) k2 q5] q4) te ∧ ∀ (σ : L2.St) (H : Hp) (v : V), σ[1]? = some (some v) → okPath X.K v H → ∀ Q : VK, (∀ x, Q x H) → te σ H Q :=
  ⟨_, pe_joined (.cons pe_str (.cons (pe_fmtI hr hv) (.cons pe_str .nil))), fun σ H v e ⟨a, l, ev, hs, hi, hl⟩ Q hq => by
    subst ev
    refine ⟨s1, rfl, ?_, .ref a, e, a, l, rfl, hs, hi, hl, fun m hm => ⟨m, rfl, ?_, s2, rfl, ?_, hq _⟩⟩
    · rw [strlen_append, sizeLine_eq]; show 0 + _ ≤ _; omega
    · rw [strlen_append, strlen_append, sizeLine_eq]; show 0 + _ + _ ≤ _; omega
    · rw [strlen_append, strlen_append, strlen_append, sizeLine_eq]; show 0 + _ + _ + _ ≤ _; omega⟩
theorem reps_int_inv {K : Fg} {μ : Sto} {H : Hp} : ∀ {vs : List V} {ns : List Int}, Reps K μ H vs (ns.map D.int) → vs = ns.map V.int
  | [], [], _ => rfl
  | [], _ :: _, r => by have := r.length; simp at this
  | _ :: _, [], r => by have := r.length; simp at this
  | v :: vs, n :: ns, r => by
    rw [List.map_cons] at r ⊢
    rw [Rep.int_inv r.split.1, reps_int_inv r.split.2]
def okdPath : D → Prop := fun d => ∃ l : List Int, d = .tup (l.map .int) ∧ (∀ i ∈ l, i.natAbs.log2 < 1920) ∧ l.length ≤ 1000
theorem okdPath_ok {K : Fg} (μ : Sto) (H : Hp) (v : V) (d : D) (r : Rep K μ H v d) (h : okdPath d) : okPath K v H := by
  obtain ⟨l, rfl, hi, hl⟩ := h
  obtain ⟨a, vs, rfl, ht, hr⟩ := Rep.tup_inv r
  have e := reps_int_inv hr
  subst e
  exact ⟨a, l, rfl, ht.sq, hi, hl⟩
end DW
set_option Elab.async false
set_option linter.all false
set_option maxRecDepth 100000
namespace DW
open PySem PySem.Spec PyProof.Rows L2
section
variable {K : Fg} {μ : Sto} {Φ : DK}
/-- len of a text -/
def cLenStr : DC := fun xs μ Φ => ∃ z, xs = [.str z] ∧ z.length ≤ 100000 ∧ Φ (.int z.length) μ
theorem w_lenStr {s : Str} : cLenStr [.str s] μ Φ = ((TL.tl s).length ≤ 100000 ∧ Φ (.int (TL.tl s).length) μ) := propext ⟨fun ⟨z, e, h1, q⟩ => by cases e; exact ⟨h1, q⟩, fun ⟨h1, q⟩ => ⟨s, rfl, h1, q⟩⟩
theorem w_catStr {s t : Str} : oCatS (.str s) (.str t) μ Φ = ((TL.tl s).length + (TL.tl t).length ≤ 100000 ∧ Φ (.str (s ++ t)) μ) := propext ⟨fun ⟨a, b, e1, e2, h, q⟩ => by cases e1; cases e2; exact ⟨h, q⟩, fun ⟨h, q⟩ => ⟨s, t, rfl, rfl, h, q⟩⟩
theorem w_ixStr {s : Str} {i : Int} : oIxS (.str s) (.int i) μ Φ = ((TL.tl s).length ≤ 100000 ∧ ∃ c, atI (TL.tl s) i = some c ∧ Φ (.str ⟨#[c]⟩) μ) := propext ⟨fun ⟨z, j, c, e1, e2, h, h2, q⟩ => by cases e1; cases e2; exact ⟨h, c, h2, q⟩, fun ⟨h, c, h2, q⟩ => ⟨s, i, c, rfl, rfl, h, h2, q⟩⟩
theorem w_inStr {c : Nat} {z : Str} : oInS false (.str ⟨#[c]⟩) (.str z) μ Φ = Φ (.bl (decide (c ∈ TL.tl z))) μ := propext ⟨fun ⟨c', z', e1, e2, q⟩ => by cases e1; cases e2; exact q, fun q => ⟨c, z, rfl, rfl, q⟩⟩
theorem w_strE {s : Str} {P : Str → Prop} : (∃ z, D.str s = D.str z ∧ P z) = P s := propext ⟨fun ⟨z, e, h⟩ => by cases e; exact h, fun h => ⟨s, rfl, h⟩⟩
theorem w_strI {i : Int} : cStr [.int i] μ Φ = (i.natAbs.log2 < 1920 ∧ Φ (.str (toString i)) μ) := propext ⟨(fun h => by
  rcases h with ⟨j, e, h1, q⟩ | ⟨a, e, q⟩
  · cases e; exact ⟨h1, q⟩
  · cases e), fun ⟨h1, q⟩ => .inl ⟨i, rfl, h1, q⟩⟩
theorem w_strS {s : Str} : cStr [.str s] μ Φ = Φ (.str s) μ := propext ⟨(fun h => by
  rcases h with ⟨j, e, h1, q⟩ | ⟨a, e, q⟩
  · cases e
  · cases e; exact q), fun q => .inr ⟨s, rfl, q⟩⟩
end
end DW
set_option Elab.async false
set_option linter.all false
set_option maxRecDepth 100000
namespace DW
open PySem PySem.Spec PyProof.Rows L2
section
variable {K : Fg} {μ : Sto} {Φ : DK} {Ψ : XP} {δ : DEnv}
theorem u_iEn {φ : DE} {c : Int} {Ls : List D → Sto → Prop} : iEnD φ c Ψ δ μ Ls = φ Ψ δ μ fun x μ1 => ∃ ds, x = .tup ds ∧ Ls ((List.range ds.length).map fun (i : Nat) => .pr [.int (c + (i : Int)), ds.getD i .non]) μ1 := rfl
theorem u_raise1 {C : Addr} {fld : Str} {okd : D → Prop} {φ : DE} {Δ : DEnds} : dRaise1 C fld okd φ Ψ Δ δ μ = φ Ψ δ μ fun x μ1 => okd x ∧ Ψ (.mk C (some ([fld], [x]))) δ μ1 := rfl
theorem u_slS {φ : DE} {ol oh : XP → DEnv → Sto → (Option Int → Sto → Prop) → Prop} : dSlS φ ol oh Ψ δ μ Φ = φ Ψ δ μ fun x μ1 => ol Ψ δ μ1 fun lo μ2 => oh Ψ δ μ2 fun hi μ3 => ∃ z, x = .str z ∧ z.length ≤ 100000 ∧ Φ (.str (cutS z lo hi)) μ3 := rfl
def cListStr : DC := fun xs μ Φ => ∃ z : Str, xs = [.str z] ∧ z.length ≤ 100000 ∧ Φ (.lst (z.cps.toList.map fun c => .str ⟨#[c]⟩)) μ
theorem w_listStr {s : Str} : cListStr [.str s] μ Φ = ((TL.tl s).length ≤ 100000 ∧ Φ (.lst ((TL.tl s).map fun c => .str ⟨#[c]⟩)) μ) := propext ⟨fun ⟨z, e, h1, q⟩ => by cases e; exact ⟨h1, q⟩, fun ⟨h1, q⟩ => ⟨s, rfl, h1, q⟩⟩
end
end DW
set_option Elab.async false
set_option linter.all false
set_option maxRecDepth 100000
namespace DW
open PySem PySem.Spec PyProof.Rows L2
structure Two (μ : Sto) (p st : Addr) (L c : List D) (μ' : Sto) : Prop where
  hp : μ p = none
  ne : st ≠ p
  pL : μ' p = some (.lst L)
  sc : μ' st = some (.lst c)
  ot : ∀ a, a ≠ p → a ≠ st → μ' a = μ a
theorem Two.start {μ : Sto} {p st : Addr} {L c : List D} (hp : μ p = none) (hs : μ st = some (.lst c)) : Two μ p st L c (sset μ p (.lst L)) := by
  have ne : st ≠ p := fun z => by rw [z, hp] at hs; cases hs
  exact ⟨hp, ne, sset_same, by rw [sset_ne ne]; exact hs, fun a h _ => sset_ne h⟩
theorem Two.setS {μ μ' : Sto} {p st : Addr} {L c c2 : List D} (T : Two μ p st L c μ') : Two μ p st L c2 (sset μ' st (.lst c2)) :=
  ⟨T.hp, T.ne, by rw [sset_ne (Ne.symm T.ne)]; exact T.pL, sset_same, fun a h1 h2 => by rw [sset_ne h2]; exact T.ot a h1 h2⟩
theorem Two.setP {μ μ' : Sto} {p st : Addr} {L L2 c : List D} (T : Two μ p st L c μ') : Two μ p st L2 c (sset μ' p (.lst L2)) :=
  ⟨T.hp, T.ne, sset_same, by rw [sset_ne T.ne]; exact T.sc, fun a h1 h2 => by rw [sset_ne h1]; exact T.ot a h1 h2⟩
theorem Two.sub {μ μ' : Sto} {p st : Addr} {L c : List D} (T : Two μ p st L c μ') : Sub (sset μ st (.lst c)) μ' := fun a x e => by
  by_cases h : a = st
  · subst h; rw [sset_same] at e; rw [T.sc]; exact e
  · rw [sset_ne h] at e
    have h1 : a ≠ p := fun z => by rw [z, T.hp] at e; cases e
    rw [T.ot a h1 h]; exact e
theorem Two.del {μ μ' : Sto} {p st : Addr} {L c : List D} (T : Two μ p st L c μ') : sdel μ' p = sset μ st (.lst c) := by
  funext a
  unfold sdel
  by_cases h : a = p
  · subst h; rw [if_pos rfl, sset_ne (Ne.symm T.ne), T.hp]
  · rw [if_neg h]
    by_cases h2 : a = st
    · subst h2; rw [sset_same, T.sc]
    · rw [sset_ne h2]; exact T.ot a h h2
/-- a comprehension whose items are drawn from the state at st -/
theorem lcG_drawN {Ψ : XP} {Φ : DK} {n : Nat} {φ : DE} {δw : DEnv} {μ1 : Sto} {xs : List D} {st : Addr} (Sc : List D → Prop) (Inv : Nat → List D → Prop) {c : List D} (hz : xs.length ≤ 100000)
    (hst : μ1 st = some (.lst c)) (h0 : Sc c) (hI : Inv 0 [])
    (hs : ∀ (i : Nat) (d : D) (μ2 : Sto) (X : DK) (acc c : List D), xs[i]? = some d → μ2 st = some (.lst c) → Sc c → Inv i acc → acc.length = i →
      (∀ y c', Sc c' → Inv (i + 1) (acc ++ [y]) → X y (sset μ2 st (.lst c'))) → φ Ψ (δw.set n (some d)) μ2 X)
    (hd : ∀ acc c, Inv xs.length acc → acc.length = xs.length → Sc c → Φ (.lst acc) (sset μ1 st (.lst c))) : LcG (eName n) dYes φ δw Ψ xs μ1 Φ := fun p hp => by
  refine ⟨fun i μ' => ∃ acc c, Two μ1 p st acc c μ' ∧ Sc c ∧ Inv i acc ∧ acc.length = i, ⟨[], c, .start hp hst, h0, hI, rfl⟩, ?_, ?_⟩
  · rintro i d μ2 hi ⟨acc, c, T, s, I, hl⟩
    have hlt : i < xs.length := (List.getElem?_eq_some_iff.mp hi).1
    refine ⟨fun _ => ?_, fun z => nomatch z⟩
    exact hs i d μ2 _ acc c hi T.sc s I hl fun y c' s' I' => ⟨acc, T.setS.pL, by omega, _, c', T.setS.setP, s', I', by simp [hl]⟩
  · rintro μ2 ⟨acc, c, T, s, I, hl⟩
    exact ⟨acc, T.pL, by rw [T.del]; exact hd acc c I hl s⟩
section
variable {K : Fg} {μ : Sto} {Φ : DK} {Ψ : XP} {δ : DEnv}
theorem u_isE {a : Addr} {x : XD} {ψ : DA} : dIsE K a x ψ Ψ δ μ Φ = ψ Ψ δ μ fun xs μ1 => ∃ c b, xs = [.hd (.ref a), .hd c] ∧ kitE K x c = some b ∧ excE K x ∧ Φ (.bl b) μ1 := rfl
theorem w_isE {a : Addr} {c : V} {P : V → Bool → Prop} : (∃ c' b, [D.hd (.ref a), D.hd c] = [.hd (.ref a), .hd c'] ∧ P c' b) = ∃ b, P c b := propext ⟨fun ⟨c', b, e, q⟩ => by cases e; exact ⟨b, q⟩, fun ⟨b, q⟩ => ⟨c, b, rfl, q⟩⟩
theorem u_kitER {C T : Addr} {f : Option (List Str × List D)} : kitE K (.mk C f) (.ref T) = PySem.W.kitOne K (.ref C) (.ref T) := rfl
theorem u_kitET {C : Addr} {T : String} {f : Option (List Str × List D)} : kitE K (.mk C f) (.ty T) = PySem.W.kitOne K (.ref C) (.type T) := rfl
theorem u_excE {C : Addr} {f : Option (List Str × List D)} : excE K (.mk C f) = L2.ExcC K C := rfl
theorem u_xf {a C : Addr} {x : XD} {f : Str} {φ : DE} : dXf a x C f φ Ψ δ μ Φ = φ Ψ δ μ fun y μ1 => y = .hd (.ref a) ∧ ∃ (ns : List Str) (ds : List D) (i : Nat) (d : D), x = .mk C (some (ns, ds)) ∧ ns[i]? = some f ∧ ns.Nodup ∧ ds[i]? = some d ∧ Φ d μ1 := rfl
theorem w_xf1 {C : Addr} {f : Str} {d : D} {P : D → Prop} : (∃ (ns : List Str) (ds : List D) (i : Nat) (d' : D), XD.mk C (some ([f], [d])) = .mk C (some (ns, ds)) ∧ ns[i]? = some f ∧ ns.Nodup ∧ ds[i]? = some d' ∧ P d') = P d := propext ⟨fun ⟨ns, ds, i, d', e, h1, _, h2, q⟩ => by
  cases e
  cases i with
  | zero => cases h2; exact q
  | succ i => simp at h1, fun q => ⟨[f], [d], 0, d, rfl, rfl, by simp, rfl, q⟩⟩
end
end DW
set_option Elab.async false
set_option linter.all false
set_option maxRecDepth 100000
set_option maxHeartbeats 4000000
namespace DW
open PySem PySem.Spec PyProof.Rows L2
section layer
variable {X : Cx} {CX : CXT} {k : Nat} {f C : Addr} {fd : FuncData} {ps : List Str} {sp : Sp} {E : L2.St → XK} {x m : Str} {p pos apos : Pos} {e o : Expr} {es : List Expr} {ta : TE} {t : TA}
theorem run_makeS {pins : List (Addr × Obj)} {σ : L2.St} {H : Hp} {s : Shared} {Q : VK} {us : List Value} {vs : List V} (M : Mk X.K C f) (F : FnOk X.prog X.w X.K X.mg X.base CX k f fd ps sp) (hr : Room (k + 1) X.A) (hb : Binds X.K fd ps [])
    (hx : ∀ σ, PassesAt CX X σ (E σ)) (I : Inv X pins σ H s) (r : Vals vs us)
    (h : ∀ x dx, H x = none → H dx = none → dx ≠ x → sp (.ref x :: vs) (upd (upd H dx (.own x)) x (.ins C dx [])) (fun v H2 => v = .non ∧ Q (.ref x) H2) (E σ)) :
    wpAny (model X.prog X.w) X.A (call (.ref C) us) (EP X pins σ Q) X.xe s := by
  have hq := h (s.heap.objs.size + 1) s.heap.objs.size (I.hok.fresh (Nat.le_succ _)) (I.hok.fresh (Nat.le_refl _)) (Nat.ne_of_lt (Nat.lt_succ_self _))
  have I2 := Inv.made (C := C) I
  have r2 : Vals (V.ref (s.heap.objs.size + 1) :: vs) (Value.ref (s.heap.objs.size + 1) :: us) := .cons rfl r
  have hl : (Value.ref (s.heap.objs.size + 1) :: us).length = ps.length := by
    have e := r2.length
    rw [F.len _ _ _ _ hq] at e
    exact e.symm
  have hb2 := hb _ (Value.ref (s.heap.objs.size + 1) :: us) I2.kIn (by rw [List.append_nil]; exact hl)
  rw [List.append_nil] at hb2
  refine wpAny_call (make_map (f := f) I.kIn M.makes M.init (beq_iff_eq.mp M.fn) (codeAny_mono (F.run _ X.stack _ _ ⟨Value.ref (s.heap.objs.size + 1) :: us, []⟩ (Value.ref (s.heap.objs.size + 1) :: us) _ _ (E σ) (hr.make C us [])
    (I2.env0.make C us []) hb2 r2 hq) fun r s' hq' => ?_))
  cases r with
  | error e => exact hx σ pins _ _ e s' I2 hq'
  | ok fl =>
    cases fl with
    | ret u =>
      obtain ⟨v, H', I3, rv, ev, q3⟩ := I2.after hq'
      subst ev
      exact ⟨rv, ⟨V.ref (s.heap.objs.size + 1), H', I3, rfl, q3⟩⟩
    | next => exact False.elim hq'
    | brk => exact False.elim hq'
    | cont => exact False.elim hq'
def tMakeS (C : Addr) (sp : Sp) (E : L2.St → XK) (t : TA) : TE := fun σ H Q => t σ H fun vs H1 => ∀ x dx, H1 x = none → H1 dx = none → dx ≠ x → sp (.ref x :: vs) (upd (upd H1 dx (.own x)) x (.ins C dx [])) (fun v H2 => v = .non ∧ Q (.ref x) H2) (E σ)
theorem pe_makeS (M : Mk X.K C f) (F : FnOk X.prog X.w X.K X.mg X.base CX k f fd ps sp) (hr : Room (k + 1) X.A) (hg : Gl X x) (hm : X.mg x = some (.ref C)) (hb : Binds X.K fd ps []) (hx : ∀ σ, PassesAt CX X σ (E σ))
    (ha : PA X (e :: es) t) (hdb : (x == ("__debug__" : Str)) = false := by decide) (he : starEach (e :: es) X.env = (false, eval e X.env) :: starEach es X.env := by rfl) (hpl : (backTo pos (starEach es X.env)).any (·.1) = false := by rfl) :
    PE X (.Call (.Name x p) (e :: es) [] pos) (tMakeS C sp E t) := by
  refine ⟨fun pins s σ H Q I h => ?_⟩
  refine wpAny_Call_Name_kw (ld_glob I hg hm ?_ hdb)
  refine PySem.W.callWith_K (h₀ := X.base) I.ok.mod.kin M.kp (thn (ha.run pos pins s σ H _ I h) fun us s1 ⟨vs, H1, I1, r, q⟩ => ⟨I1.kIn, ?_⟩) he hpl
  exact run_makeS M F hr hb hx I1 r q
end layer
section
variable {K : Fg} {B : Bx K} {ta tv : TE} {φ φa φv : DE} {tas : TA} {ψ : DA} {μ : Sto} {H : Hp}
theorem Rep.obj_inv {v : V} {C : Addr} {ns : List Str} {ds : List D} (h : Rep K μ H v (.obj C ns ds)) : ∃ a dx us, v = .ref a ∧ H a = some (.ins C dx (ns.zip us)) ∧ NM μ a ∧ us.length = ns.length ∧ Reps K μ H us ds := by
  cases h with
  | obj h1 h2 h3 h4 _ => exact ⟨_, _, _, rfl, h1, h2, h3, h4⟩
/-- C(..), C a class whose __init__ keeps c -/
def dMakeS (C : Addr) (c : Con) (ψ : DA) : DE := fun Ψ δ μ Φ => ψ Ψ δ μ fun ds μ1 => ∀ x, μ1 x = none → c (.hd (.ref x) :: ds) (sset μ1 x (.ins C [] [])) (fun d μ2 => d = .non ∧ ∃ ns es, μ2 x = some (.ins C ns es) ∧ Φ (.obj C ns es) (sdel μ2 x)) (fun y μ2 => Ψ y δ μ2)
theorem sMakeS {C : Addr} {c : Con} (a : SA B tas ψ) : SE B (tMakeS C (spOf K c) (WE B.W) tas) (dMakeS C c ψ) := fun σ H δ μ Φ Q S q k =>
  a σ H δ μ _ _ S q fun vs H1 xs μ1 S1 e1 r1 q1 x dx hx hdx hne => by
    have hx' : upd H1 dx (.own x) x = none := by rw [upd_ne (Ne.symm hne)]; exact hx
    have ev0 : Evo μ1 H1 μ1 (upd H1 dx (.own x)) := .new hdx
    have st0 : StoOk K μ1 (upd H1 dx (.own x)) := S1.sto.new hdx
    have ev1 : Evo μ1 (upd H1 dx (.own x)) (sset μ1 x (.ins C [] [])) (upd (upd H1 dx (.own x)) x (.ins C dx [])) := .newC st0 hx'
    have st1 : StoOk K (sset μ1 x (.ins C [] [])) (upd (upd H1 dx (.own x)) x (.ins C dx [])) := st0.cell ev1 ⟨dx, [], upd_same, rfl, .nil⟩
    have ev := ev0.trans ev1
    refine ⟨sset μ1 x (.ins C [] []), .hd (.ref x) :: xs, _, _, st1, .hd _ (r1.mono ev), q1 x (S1.sto.fresh hx), fun v H' d μ' e s r ⟨hd, ns, es, hc, hq⟩ => ?_, fun cls dd H' y μ' e s rx hΨ => ?_⟩
    · subst hd
      obtain rfl := Rep.non_inv r
      refine ⟨rfl, ?_⟩
      obtain ⟨dx', us, hH, hl, hr⟩ := s x _ hc
      have sb : Sub (sdel μ' x) μ' := sdel_sub
      have e2 : Evo μ' H' (sdel μ' x) H' := sb.evo
      exact k _ H' _ (sdel μ' x) (S1.step (ev.trans (e.trans e2)) (sb.sto s)) (e1.trans (ev.trans (e.trans e2))) (.obj hH (NM.of sdel_same) hl (hr.mono e2) .nil) hq
    · exact B.hW cls dd σ H' y δ μ' (S1.step (ev.trans e) s) rx hΨ
/-- x.f, x an instance at rest -/
def dFld (C : Addr) (NS : List Str) (i : Nat) (φ : DE) : DE := fun Ψ δ μ Φ => φ Ψ δ μ fun x μ1 => ∃ ds d, x = .obj C NS ds ∧ ds[i]? = some d ∧ Φ d μ1
theorem sFldO {C : Addr} {NS : List Str} {f : Str} {i : Nat} (c : Cls K C) (n : NoAttr K C f) (hi : NS[i]? = some f) (hn : NS.Nodup) (a : SE B ta φ) : SE B (tFld K ta f) (dFld C NS i φ) := fun σ H δ μ Φ Q S q k =>
  a σ H δ μ _ _ S q fun v H1 x μ1 S1 e1 r1 q1 => by
    obtain ⟨ds, d, rfl, hd, q⟩ := q1
    obtain ⟨p, dx, us, rfl, hH, hnm, hl, hr⟩ := Rep.obj_inv r1
    obtain ⟨u, hu, ru⟩ := hr.get hd
    exact ⟨p, C, dx, _, u, rfl, hH, c, n, zip_lookup hn hi hu, k u H1 d μ1 S1 e1 ru q⟩
theorem putF_new {f : Str} {v : V} : ∀ {ns : List Str} {us : List V}, f ∉ ns → us.length = ns.length → putF f v (ns.zip us) = (ns ++ [f]).zip (us ++ [v])
  | [], [], _, _ => rfl
  | [], _ :: _, _, h => by simp at h
  | _ :: _, [], _, h => by simp at h
  | n :: ns, u :: us, hf, hl => by
    show (if n = f then (n, v) :: ns.zip us else (n, u) :: putF f v (ns.zip us)) = _
    rw [if_neg (fun e => hf (by rw [e]; exact List.mem_cons_self)), putF_new (fun h => hf (List.mem_cons_of_mem _ h)) (by simpa using hl)]
    rfl
/-- self.f = value, a new field of an instance in the making -/
def dSetF (C : Addr) (f : Str) (φv φa : DE) : DSt := fun Ψ Δ δ μ => φv Ψ δ μ fun y μ1 => φa Ψ δ μ1 fun x μ2 => ∃ a ns ds, x = .hd (.ref a) ∧ μ2 a = some (.ins C ns ds) ∧ f ∉ ns ∧ ns.length < 1000 ∧ Δ.nx δ (sset μ2 a (.ins C (ns ++ [f]) (ds ++ [y])))
theorem sSetF {C : Addr} {f : Str} (c : Cls K C) (n : NoAttr K C f) (b : SE B tv φv) (a : SE B ta φa) : SS B (sFld K ta tv f) (dSetF C f φv φa) := fun D Δ σ H δ μ E S q =>
  b σ H δ μ _ _ S q fun w H1 y μ1 S1 e1 r1 q1 => a σ H1 δ μ1 _ _ S1 q1 fun v H2 x μ2 S2 e2 r2 q2 => by
    obtain ⟨p, ns, ds, rfl, hc, hf, hz, q⟩ := q2
    obtain rfl := Rep.hd_inv r2
    obtain ⟨dx, us, hH, hl, hr⟩ := S2.sto p _ hc
    refine ⟨p, C, dx, _, rfl, hH, c, n, by rw [List.length_zip, hl, Nat.min_self]; exact hz, ?_⟩
    rw [putF_new hf hl]
    have ev : Evo μ2 H2 (sset μ2 p (.ins C (ns ++ [f]) (ds ++ [y]))) (upd H2 p (.ins C dx ((ns ++ [f]).zip (us ++ [w])))) := .cell hc fun h => h.notI hc
    exact E.nx σ _ δ _ (S2.step ev (S2.sto.cell ev ⟨dx, us ++ [w], upd_same, by simp [hl], (hr.append (r1.mono e2)).mono ev⟩)) q
/-- x.m(..), x an instance at rest -/
def dMethX (C : Addr) (NS : List Str) (c : Con) (φ : DE) (ψ : DA) : DE := fun Ψ δ μ Φ => φ Ψ δ μ fun x μ1 => ∃ es, x = .obj C NS es ∧ ψ Ψ δ μ1 fun ds μ2 => c (x :: ds) μ2 Φ fun y μ3 => Ψ y δ μ3
end
end DW
set_option Elab.async false
set_option linter.all false
set_option maxRecDepth 100000
set_option maxHeartbeats 4000000
namespace DW
open PySem PySem.Spec PyProof.Rows L2
def dSortSet (φ : DE) : DE := fun Ψ δ μ Φ => φ Ψ δ μ fun x μ1 => ∃ zs : List Int, Items μ1 x (zs.map .int) ∧ (zs.length ≤ 1000 ∧ ∃ bd : List Int, bd.length < 64 ∧ ∀ z ∈ zs, z ∈ bd) ∧ ∀ ns : List Int, ns.Pairwise (· < ·) → (∀ k : Int, k ∈ ns ↔ k ∈ zs) → Φ (.lst (ns.map .int)) μ1
theorem reps_of_ints {K : Fg} {μ : Sto} {H : Hp} : ∀ ns : List Int, Reps K μ H (ns.map V.int) (ns.map D.int)
  | [] => .nil
  | n :: ns => .int n (reps_of_ints ns)
end DW
set_option Elab.async false
set_option linter.all false
set_option maxRecDepth 100000
set_option maxHeartbeats 4000000
namespace DW
open PySem PySem.Spec PyProof.Rows L2
section
variable {K : Fg} {B : Bx K} {ta tb : TE} {φ φ' φa φb : DE} {tas : TA} {ψ : DA}
def cMaxL : DC := fun xs μ Φ => ∃ x ns, xs = [x] ∧ Items μ x (ns.map .int) ∧ isTup x = false ∧ ns ≠ [] ∧ ∀ m, m ∈ ns → (∀ y, y ∈ ns → y ≤ m) → Φ (.int m) μ
def cMinL : DC := fun xs μ Φ => ∃ x ns, xs = [x] ∧ Items μ x (ns.map .int) ∧ isTup x = false ∧ ns ≠ [] ∧ ∀ m, m ∈ ns → (∀ y, y ∈ ns → m ≤ y) → Φ (.int m) μ
def oRepL : DO := fun x y μ Φ => ∃ ds k, x = .lst ds ∧ y = .int k ∧ k ≤ 100000 ∧ -100000 ≤ k ∧ ds.length * k.toNat ≤ 100000 ∧ Φ (.lst (List.replicate k.toNat ds).flatten) μ
theorem Reps.rep {μ : Sto} {H : Hp} {vs : List V} {ds : List D} (h : Reps K μ H vs ds) : ∀ k : Nat, Reps K μ H (List.replicate k vs).flatten (List.replicate k ds).flatten
  | 0 => .nil
  | k + 1 => by rw [List.replicate_succ, List.replicate_succ, List.flatten_cons, List.flatten_cons]; exact h.append (h.rep k)
def dLstR1 (φ : DE) : DE := fun Ψ δ μ Φ => φ Ψ δ μ fun x μ1 => ∃ j, x = .int j ∧ 0 ≤ j ∧ j ≤ 100000 ∧ Φ (.lst (rngD 0 j.toNat)) μ1
theorem rgV_reps {μ : Sto} {H : Hp} {b : Int} : Reps K μ H (rgV 0 b) (rngD 0 b.toNat) := by
  have e1 : rgV 0 b = ((List.range b.toNat).map fun i : Nat => (0 : Int) + i).map V.int := by unfold rgV; rw [Int.sub_zero, List.map_map]; rfl
  have e2 : rngD 0 b.toNat = ((List.range b.toNat).map fun i : Nat => (0 : Int) + i).map D.int := by unfold rngD; rw [List.map_map]; rfl
  rw [e1, e2]
  exact reps_of_ints _
def iZipL (φ φ' : DE) : DI := fun Ψ δ μ Φ => φ Ψ δ μ fun x μ1 => φ' Ψ δ μ1 fun y μ2 => ∃ xs ys, x = .lst xs ∧ y = .lst ys ∧ Φ ((xs.zip ys).map fun p => .pr [p.1, p.2]) μ2
def iEnL (φ : DE) : DI := fun Ψ δ μ Φ => φ Ψ δ μ fun x μ1 => ∃ ds, x = .lst ds ∧ Φ ((List.range ds.length).map fun (i : Nat) => .pr [.int (i : Int), ds.getD i .non]) μ1
/-- xs.index(y), flat -/
def dIdx (φa φb : DE) : DE := fun Ψ δ μ Φ => φa Ψ δ μ fun x μ1 => ∃ ds, x = .lst ds ∧ φb Ψ δ μ1 fun y μ2 => flatD y = true ∧ ds.all flatD = true ∧ ∃ (j : Nat) (z : D), ds[j]? = some z ∧ eqF z y = true ∧ (∀ (m : Nat) (z' : D), m < j → ds[m]? = some z' → eqF z' y = false) ∧ Φ (.int j) μ2
theorem seqIndex_nat {i n : Nat} (h : i < n) : seqIndex? (i : Int) n = some i := by
  unfold seqIndex?
  have h0 : ¬ (i : Int) < 0 := by omega
  simp only [h0, if_false]
  have h1 : (decide (0 ≤ (i : Int)) && decide ((i : Int) < (n : Int))) = true := by simp; omega
  rw [if_pos h1]
  simp
/-- o.pop(i), o a handle -/
def dPopAt (φa φb : DE) : DE := fun Ψ δ μ Φ => φa Ψ δ μ fun x μ1 => ∃ a ds, x = .hd (.ref a) ∧ μ1 a = some (.lst ds) ∧ φb Ψ δ μ1 fun y μ2 => ∃ es, μ2 a = some (.lst es) ∧ es.length ≤ 100000 ∧ ∃ (i : Nat) (d : D), y = .int i ∧ es[i]? = some d ∧ Φ d (sset μ2 a (.lst (es.eraseIdx i)))
theorem Reps.eraseIdx {μ : Sto} {H : Hp} {vs : List V} {ds : List D} (h : Reps K μ H vs ds) (i : Nat) : Reps K μ H (vs.eraseIdx i) (ds.eraseIdx i) := by
  rw [List.eraseIdx_eq_take_drop_succ, List.eraseIdx_eq_take_drop_succ]
  exact (h.take _).append (h.drop _)
theorem sPopAt (a : SE B ta φa) (b : SE B tb φb) : SE B (tBM K "list" rPopAt ta (tCons tb tNil)) (dPopAt φa φb) := fun σ H δ μ Φ Q S q k =>
  a σ H δ μ _ _ S q fun v H1 x μ1 S1 e1 r1 q1 => by
    obtain ⟨p, ds, rfl, hp, q1⟩ := q1
    obtain rfl := Rep.hd_inv r1
    obtain ⟨us, h1, h2⟩ := S1.sto _ _ hp
    refine ⟨.inl ⟨rfl, us, .of h1⟩, b σ H1 δ μ1 _ _ S1 q1 fun w H2 y μ2 S2 e2 r2 q2 => ?_⟩
    obtain ⟨es, hp2, hz, i, d, rfl, hi, q2⟩ := q2
    obtain rfl := Rep.int_inv r2
    obtain ⟨ws, h3, h4⟩ := S2.sto _ _ hp2
    obtain ⟨u, hu, ru⟩ := h4.get hi
    have hl := h4.length
    have hil : i < es.length := (List.getElem?_eq_some_iff.mp hi).1
    have e3 : Evo μ2 H2 (sset μ2 p (.lst (es.eraseIdx i))) (upd H2 p (.lst (ws.eraseIdx i))) := own_evo hp2
    obtain ⟨e4, s4⟩ := own_upd S2.sto hp2 ((h4.eraseIdx i).mono e3)
    refine ⟨p, ws, i, i, u, rfl, rfl, h3, by omega, by omega, seqIndex_nat (by omega), hu, k _ _ _ _ (S2.step e4 s4) ((e1.trans e2).trans e4) (ru.mono e4) q2⟩
end
section
variable {K : Fg} {B : Bx K} {ta tb : TE} {φ φ' φa φb : DE} {tas : TA} {ψ : DA}
theorem TupAt.bare {μ : Sto} {H : Hp} {a : Addr} {us : List V} (h : TupAt K μ H a us) : (∃ (o : Obj) (us : List V), H a = some (.frz o (.tup us)) ∧ o.dict = none ∧ o.cls = .type "tuple") ∨ ∃ o, K.lookup a = some o ∧ o.cls = .type "tuple" ∧ o.dict = none :=
  h.elim (fun ⟨o, h1, h2, h3, _⟩ => .inl ⟨o, us, h1, h2, h3⟩) fun ⟨o, _, _, h1, h2, h3, _⟩ => .inr ⟨o, h1, h2, h3⟩
def dCntT (φa φb : DE) : DE := fun Ψ δ μ Φ => φa Ψ δ μ fun x μ1 => ∃ ns : List Int, x = .tup (ns.map .int) ∧ φb Ψ δ μ1 fun y μ2 => ∃ k : Int, y = .int k ∧ Φ (.int (ns.count k : Nat)) μ2
def dIdxT (φa φb : DE) : DE := fun Ψ δ μ Φ => φa Ψ δ μ fun x μ1 => ∃ ns : List Int, x = .tup (ns.map .int) ∧ φb Ψ δ μ1 fun y μ2 => ∃ (k : Int) (j : Nat), y = .int k ∧ ns[j]? = some k ∧ (∀ m, m < j → ns[m]? ≠ some k) ∧ Φ (.int j) μ2
end
end DW
set_option Elab.async false
set_option linter.all false
set_option maxRecDepth 100000
set_option maxHeartbeats 4000000
namespace DW
open PySem PySem.Spec PyProof.Rows L2
section
variable {M : Model} {A : Around} {E : Value → Shared → Prop} {s : Shared}
theorem callWith_tyKw {pos : Pos} {T : String} {x : Sem Value} {rest : List (Bool × Sem Value)} {kws : List (Option Str × Sem Value)} {Q : Value → Shared → Prop} (plain : ((false, x) :: rest).any (·.1) = false) (named : kws.any (·.1.isNone) = false) (all : kws.all (·.1.isSome) = true)
    (h : wpAny M A (spliced ((false, x) :: rest)) (fun vs s1 => wpAny M A (evalAll (kws.map (·.2))) (fun ks s2 => wpAny M A (call (.type T) vs ((kws.filterMap (·.1)).zip ks)) Q E s2) E s1) E s) :
    wpAny M A (callWith pos (.type T) [] ((false, x) :: rest) kws) Q E s := by
  have h2 : wpAny M A (evalArgs (.type T) true ((false, x) :: rest) kws) (fun a s1 => wpAny M A (call (.type T) ([] ++ a.pos) a.kw) Q E s1) E s := evalArgs_kwB all h
  unfold callWith
  refine wpAny_bind (wpAny_holding (wpAny_mono h2 (fun a s1 h1 => wpAny_bind (wpAny_standAt ?_)) fun _ _ z => z))
  simp only [plain, named, Bool.or_false]
  exact wpAny_bind (wpAny_pure (wpAny_bind (wpAny_mono h1 (fun r s2 hr => wpAny_bind (wpAny_holding (wpAny_point (wpAny_pure hr)))) fun _ _ z => z)))
end
theorem pi_enumTk {X : Cx} {e : Expr} {ta : TA} {p p2 kp pos tpos : Pos} {j kk : Nat} {n : Int} {elts : List Expr} (hg : Gl X "enumerate") (hm : X.mg "enumerate" = none) (ha : PA X [e] ta) (h0 : -(2 ^ 63) ≤ n) (h1 : n < 2 ^ 63)
    (hs : starEach [e] X.env = [(false, eval e X.env)] := by rfl) :
    PI X (.Tuple elts kk tpos) (.Call (.Name "enumerate" p) [e] [⟨some "start", .Constant (.int n) j p2, kp⟩] pos) (iEnumT X.K n ta) := by
  refine ⟨fun pins s σ H R I h => ?_⟩
  refine wpAny_Call_Name_kw (ld_blt I hg hm boot_enumerate ?_)
  have A := ha.run pos pins s σ H _ I h
  rw [hs] at A ⊢
  refine callWith_tyKw rfl rfl rfl (thn A fun us s1 ⟨vs, H1, I1, r1, q1⟩ => kws_cons ?_)
  obtain ⟨a, xs, rfl, hq, q⟩ := q1
  rw [Vals.ref1 r1]
  obtain ⟨its, rv, p', hz⟩ := I1.tuple hq
  refine thn ((pe_int (X := X) (i := n)).run pins s1 σ H1 (fun v H2 => v = .int n ∧ H2 = H1) I1 ⟨rfl, rfl⟩) fun u s2 ⟨v, H2, I2, r2, ev, eh⟩ => kws_nil ?_
  subst ev
  rw [eh] at I2
  obtain ⟨t, rfl⟩ := r2
  obtain ⟨its2, rv2, p2', hz2⟩ := I2.tuple hq
  exact enum_begins_start (begins_tuple a its2.toArray) p2' h0 h1 fun h' he ho hsz hk => wpAny_pyIter_enum he (pie_enumT I2 hq he ho hk q)
structure DictOk (K : Fg) (w : World) (d : Addr) (tbl : List (Str × D)) : Prop where
  kd : ∃ es n, KDict K w d es n
  at_ : ∀ z v, tbl.lookup z = some v → ∃ (u' : V) (u : Value), PySem.W.nsIn K d z = some (some u) ∧ RelV u' u ∧ ∀ μ H, Rep K μ H u' v
  no_ : ∀ z, tbl.lookup z = none → PySem.W.nsIn K d z = some none
section
variable {K : Fg} {B : Bx K} {ta tb : TE} {φa φb : DE} {w : World} {d : Addr} {tbl : List (Str × D)}
/-- d[z] -/
def oIxD (d : Addr) (tbl : List (Str × D)) : DO := fun x y μ Φ => x = .hd (.ref d) ∧ ∃ z v, y = .str z ∧ tbl.lookup z = some v ∧ Φ v μ
theorem roIxD (T : DictOk K w d tbl) : RO K (rIxD K w) (oIxD d tbl) := fun H μ v y e f Φ Q s r1 r2 q k => by
  obtain ⟨rfl, z, c, rfl, hl, q⟩ := q
  obtain rfl := Rep.hd_inv r1
  obtain rfl := Rep.str_inv r2
  obtain ⟨es, n, D0⟩ := T.kd
  obtain ⟨u', u, h1, h2, h3⟩ := T.at_ z c hl
  exact ⟨d, z, u', rfl, rfl, ⟨es, n, u, D0.at_, D0.lit, h1, h2⟩, k _ H _ μ .refl s (h3 μ H) q⟩
/-- z in d -/
def rInKd (K : Fg) (d : Addr) (neg : Bool) : R2 := fun x y H Q => ∃ (z : Str) (r : Option Value), x = .str z ∧ y = .ref d ∧ PySem.W.nsIn K d z = some r ∧ Q (.bl (if neg then !r.isSome else r.isSome)) H
theorem op_notInKd {X : Cx} (h : ∃ es n, KDict X.K X.w d es n) : OpR X (compareOp .NotIn) (rInKd X.K d true) := by
  obtain ⟨es, n, D0⟩ := h
  exact op_notIn_kd D0
def oInD (d : Addr) (tbl : List (Str × D)) (neg : Bool) : DO := fun x y μ Φ => y = .hd (.ref d) ∧ ∃ z, x = .str z ∧ Φ (.bl (if neg then !(tbl.lookup z).isSome else (tbl.lookup z).isSome)) μ
theorem roInD {neg : Bool} (T : DictOk K w d tbl) : RO K (rInKd K d neg) (oInD d tbl neg) := fun H μ v y e f Φ Q s r1 r2 q k => by
  obtain ⟨rfl, z, rfl, q⟩ := q
  obtain rfl := Rep.str_inv r1
  obtain rfl := Rep.hd_inv r2
  cases hl : tbl.lookup z with
  | some c =>
    obtain ⟨u', u, h1, h2, h3⟩ := T.at_ z c hl
    rw [hl] at q
    exact ⟨z, _, rfl, rfl, h1, k _ H _ μ .refl s (.bl _ .nil) q⟩
  | none =>
    rw [hl] at q
    exact ⟨z, _, rfl, rfl, T.no_ z hl, k _ H _ μ .refl s (.bl _ .nil) q⟩
end
section
variable {K : Fg} {B : Bx K} {tas : TA} {ψ : DA}
def dCallF (i : Nat) (F : Addr → Con → Prop) (ψ : DA) : DE := fun Ψ δ μ Φ => ∃ f c, F f c ∧ δ[i]? = some (some (.hd (.ref f))) ∧ ψ Ψ δ μ fun ds μ1 => c ds μ1 Φ fun y μ2 => Ψ y δ μ2
end
end DW
set_option Elab.async false
set_option linter.all false
set_option maxRecDepth 100000
set_option maxHeartbeats 4000000
namespace DW
open PySem PySem.Spec PyProof.Rows L2
section
variable {K : Fg} {B : Bx K} {ta : TE} {tas : TA} {φ φ' φa φb φv : DE} {ψ : DA} {W : WX} {C : Addr} {NS : List Str} {m : Str} {c : Con}
theorem sMakeSW (hW : B.W = W) (a : SA B tas ψ) : SE B (tMakeS C (spOf K c) (WE W) tas) (dMakeS C c ψ) := by
  subst hW
  exact sMakeS a
end
/-- a statement of a class's suite -/
def clsS : Stmt → Nat → Stmt
  | .ClassDef _ _ _ b _ _ _ _ _ _ _, j => b.getD j (.Pass ⟨0, 0, 0, 0⟩)
  | s, _ => s
section
variable {K : Fg} {φ φ' φa φb φv : DE} {ψ : DA} {Ψ : XP} {δ : DEnv} {μ : Sto} {Φ : DK} {Δ : DEnds} {C d : Addr} {NS : List Str} {i j : Nat} {c : Con} {f z : Str} {F : Addr → Con → Prop} {ds es : List D} {k : Int} {tbl : List (Str × D)} {n : Bool} {x : D}
theorem u_fld : dFld C NS i φ Ψ δ μ Φ = φ Ψ δ μ fun x μ1 => ∃ ds d, x = .obj C NS ds ∧ ds[i]? = some d ∧ Φ d μ1 := rfl
theorem w_fld {P : D → Prop} : (∃ es d, D.obj C NS ds = .obj C NS es ∧ es[i]? = some d ∧ P d) = ∃ d, ds[i]? = some d ∧ P d := propext ⟨fun ⟨es, d, e, h, q⟩ => by cases e; exact ⟨d, h, q⟩, fun ⟨d, h, q⟩ => ⟨_, d, rfl, h, q⟩⟩
theorem w_someE {y : D} {P : D → Prop} : (∃ d, some y = some d ∧ P d) = P y := propext ⟨fun ⟨_, e, q⟩ => by cases e; exact q, fun q => ⟨_, rfl, q⟩⟩
theorem u_setF : dSetF C f φv φa Ψ Δ δ μ = φv Ψ δ μ fun y μ1 => φa Ψ δ μ1 fun x μ2 => ∃ a ns ds, x = .hd (.ref a) ∧ μ2 a = some (.ins C ns ds) ∧ f ∉ ns ∧ ns.length < 1000 ∧ Δ.nx δ (sset μ2 a (.ins C (ns ++ [f]) (ds ++ [y]))) := rfl
theorem u_methX : dMethX C NS c φ ψ Ψ δ μ Φ = φ Ψ δ μ fun x μ1 => ∃ es, x = .obj C NS es ∧ ψ Ψ δ μ1 fun ds μ2 => c (x :: ds) μ2 Φ fun y μ3 => Ψ y δ μ3 := rfl
theorem w_objE {P : List D → Prop} : (∃ es, D.obj C NS ds = .obj C NS es ∧ P es) = P ds := propext ⟨fun ⟨_, e, q⟩ => by cases e; exact q, fun q => ⟨_, rfl, q⟩⟩
theorem u_makeS : dMakeS C c ψ Ψ δ μ Φ = ψ Ψ δ μ fun ds μ1 => ∀ x, μ1 x = none → c (.hd (.ref x) :: ds) (sset μ1 x (.ins C [] [])) (fun d μ2 => d = .non ∧ ∃ ns es, μ2 x = some (.ins C ns es) ∧ Φ (.obj C ns es) (sdel μ2 x)) (fun y μ2 => Ψ y δ μ2) := rfl
theorem u_sortSet : dSortSet φ Ψ δ μ Φ = φ Ψ δ μ fun x μ1 => ∃ zs : List Int, Items μ1 x (zs.map .int) ∧ (zs.length ≤ 1000 ∧ ∃ bd : List Int, bd.length < 64 ∧ ∀ z ∈ zs, z ∈ bd) ∧ ∀ ns : List Int, ns.Pairwise (· < ·) → (∀ k : Int, k ∈ ns ↔ k ∈ zs) → Φ (.lst (ns.map .int)) μ1 := rfl
theorem u_lstR1 : dLstR1 φ Ψ δ μ Φ = φ Ψ δ μ fun x μ1 => ∃ j, x = .int j ∧ 0 ≤ j ∧ j ≤ 100000 ∧ Φ (.lst (rngD 0 j.toNat)) μ1 := rfl
theorem u_iZipL {Φ : List D → Sto → Prop} : iZipL φ φ' Ψ δ μ Φ = φ Ψ δ μ fun x μ1 => φ' Ψ δ μ1 fun y μ2 => ∃ xs ys, x = .lst xs ∧ y = .lst ys ∧ Φ ((xs.zip ys).map fun p => D.pr [p.1, p.2]) μ2 := rfl
theorem u_iEnL {Φ : List D → Sto → Prop} : iEnL φ Ψ δ μ Φ = φ Ψ δ μ fun x μ1 => ∃ ds, x = .lst ds ∧ Φ ((List.range ds.length).map fun (i : Nat) => D.pr [.int (i : Int), ds.getD i .non]) μ1 := rfl
theorem u_idx : dIdx φa φb Ψ δ μ Φ = φa Ψ δ μ fun x μ1 => ∃ ds, x = .lst ds ∧ φb Ψ δ μ1 fun y μ2 => flatD y = true ∧ ds.all flatD = true ∧ ∃ (j : Nat) (z : D), ds[j]? = some z ∧ eqF z y = true ∧ (∀ (m : Nat) (z' : D), m < j → ds[m]? = some z' → eqF z' y = false) ∧ Φ (.int j) μ2 := rfl
theorem u_popAt : dPopAt φa φb Ψ δ μ Φ = φa Ψ δ μ fun x μ1 => ∃ a ds, x = .hd (.ref a) ∧ μ1 a = some (.lst ds) ∧ φb Ψ δ μ1 fun y μ2 => ∃ es, μ2 a = some (.lst es) ∧ es.length ≤ 100000 ∧ ∃ (i : Nat) (d : D), y = .int i ∧ es[i]? = some d ∧ Φ d (sset μ2 a (.lst (es.eraseIdx i))) := rfl
theorem u_cntT : dCntT φa φb Ψ δ μ Φ = φa Ψ δ μ fun x μ1 => ∃ ns : List Int, x = .tup (ns.map .int) ∧ φb Ψ δ μ1 fun y μ2 => ∃ k : Int, y = .int k ∧ Φ (.int (ns.count k : Nat)) μ2 := rfl
theorem u_idxT : dIdxT φa φb Ψ δ μ Φ = φa Ψ δ μ fun x μ1 => ∃ ns : List Int, x = .tup (ns.map .int) ∧ φb Ψ δ μ1 fun y μ2 => ∃ (k : Int) (j : Nat), y = .int k ∧ ns[j]? = some k ∧ (∀ m, m < j → ns[m]? ≠ some k) ∧ Φ (.int j) μ2 := rfl
theorem u_callF : dCallF i F ψ Ψ δ μ Φ = ∃ f c, F f c ∧ δ[i]? = some (some (.hd (.ref f))) ∧ ψ Ψ δ μ fun ds μ1 => c ds μ1 Φ fun y μ2 => Ψ y δ μ2 := rfl
theorem w_maxL : cMaxL [x] μ Φ = ∃ ns, Items μ x (ns.map .int) ∧ isTup x = false ∧ ns ≠ [] ∧ ∀ m, m ∈ ns → (∀ y, y ∈ ns → y ≤ m) → Φ (.int m) μ := propext ⟨fun ⟨_, ns, e, q⟩ => by cases e; exact ⟨ns, q⟩, fun ⟨ns, q⟩ => ⟨_, ns, rfl, q⟩⟩
theorem w_minL : cMinL [x] μ Φ = ∃ ns, Items μ x (ns.map .int) ∧ isTup x = false ∧ ns ≠ [] ∧ ∀ m, m ∈ ns → (∀ y, y ∈ ns → m ≤ y) → Φ (.int m) μ := propext ⟨fun ⟨_, ns, e, q⟩ => by cases e; exact ⟨ns, q⟩, fun ⟨ns, q⟩ => ⟨_, ns, rfl, q⟩⟩
theorem w_ixDc : oIxD d tbl (.hd (.ref d)) (.str z) μ Φ = ∃ v, tbl.lookup z = some v ∧ Φ v μ := propext ⟨fun ⟨_, _, v, e, h, q⟩ => by cases e; exact ⟨v, h, q⟩, fun ⟨v, h, q⟩ => ⟨rfl, _, v, rfl, h, q⟩⟩
theorem w_inDc : oInD d tbl n (.str z) (.hd (.ref d)) μ Φ = Φ (.bl (if n then !(tbl.lookup z).isSome else (tbl.lookup z).isSome)) μ := propext ⟨fun ⟨_, _, e, q⟩ => by cases e; exact q, fun q => ⟨rfl, _, rfl, q⟩⟩
theorem w_repL : oRepL (.lst ds) (.int k) μ Φ = (k ≤ 100000 ∧ -100000 ≤ k ∧ ds.length * k.toNat ≤ 100000 ∧ Φ (.lst (List.replicate k.toNat ds).flatten) μ) := propext ⟨fun ⟨_, _, e1, e2, q⟩ => by cases e1; cases e2; exact q, fun q => ⟨_, _, rfl, rfl, q⟩⟩
theorem w_listLs {P : List D → List D → Prop} : (∃ xs ys, D.lst ds = .lst xs ∧ D.lst es = .lst ys ∧ P xs ys) = P ds es := propext ⟨fun ⟨_, _, e1, e2, q⟩ => by cases e1; cases e2; exact q, fun q => ⟨_, _, rfl, rfl, q⟩⟩
end
end DW
set_option Elab.async false
set_option linter.all false
set_option maxRecDepth 100000
namespace DW
open PySem PySem.Spec PyProof.Rows L2
/-- items and tests drawn from the state at st -/
theorem lcG_drawG {Ψ : XP} {Φ : DK} {γ : DG} {θ : DT} {φ : DE} {δw : DEnv} {μ1 : Sto} {xs : List D} {st : Addr} (Sc : List D → Prop) (Inv : Nat → List D → Prop) {c : List D} (hz : xs.length ≤ 100000)
    (hst : μ1 st = some (.lst c)) (h0 : Sc c) (hI : Inv 0 [])
    (hs : ∀ (i : Nat) (d : D) (μ2 : Sto) (X : DK) (Y : Sto → Prop) (acc c : List D), xs[i]? = some d → μ2 st = some (.lst c) → Sc c → Inv i acc → acc.length ≤ i →
      (∀ y c', Sc c' → Inv (i + 1) (acc ++ [y]) → X y (sset μ2 st (.lst c'))) → (∀ c', Sc c' → Inv (i + 1) acc → Y (sset μ2 st (.lst c'))) →
      γ d δw μ2 fun δ3 μ3 => θ Ψ δ3 μ3 fun b μ4 => (b = true → φ Ψ δ3 μ4 X) ∧ (b = false → Y μ4))
    (hd : ∀ acc c, Inv xs.length acc → acc.length ≤ xs.length → Sc c → Φ (.lst acc) (sset μ1 st (.lst c))) : LcG γ θ φ δw Ψ xs μ1 Φ := fun p hp => by
  refine ⟨fun i μ' => ∃ acc c, Two μ1 p st acc c μ' ∧ Sc c ∧ Inv i acc ∧ acc.length ≤ i, ⟨[], c, .start hp hst, h0, hI, Nat.le_refl _⟩, ?_, ?_⟩
  · rintro i d μ2 hi ⟨acc, c, T, s, I, hl⟩
    have hlt : i < xs.length := (List.getElem?_eq_some_iff.mp hi).1
    refine hs i d μ2 _ _ acc c hi T.sc s I hl (fun y c' s' I' => ⟨acc, T.setS.pL, by omega, _, c', T.setS.setP, s', I', by simp; omega⟩) fun c' s' I' => ⟨acc, c', T.setS, s', I', by omega⟩
  · rintro μ2 ⟨acc, c, T, s, I, hl⟩
    exact ⟨acc, T.pL, by rw [T.del]; exact hd acc c I hl s⟩
theorem sset_comm {μ : Sto} {a b : Addr} {x y : Cell} (h : a ≠ b) : sset (sset μ a x) b y = sset (sset μ b y) a x := by
  funext e
  unfold sset
  by_cases h1 : e = a
  · subst h1; rw [if_neg h, if_pos rfl, if_pos rfl]
  · rw [if_neg h1, if_neg h1]
/-- the store changes in any way beside the list that grows -/
theorem lcG_sto {Ψ : XP} {Φ : DK} {γ : DG} {θ : DT} {φ : DE} {δw : DEnv} {μ1 : Sto} {xs : List D} (Inv : Nat → List D → Sto → Prop) (hz : xs.length ≤ 100000) (h0 : Inv 0 [] μ1)
    (hs : ∀ (i : Nat) (d : D) (ν : Sto) (p : Addr) (X : DK) (Y : Sto → Prop) (acc : List D), xs[i]? = some d → ν p = none → Inv i acc ν → acc.length ≤ i →
      (∀ y ν', ν' p = none → Inv (i + 1) (acc ++ [y]) ν' → X y (sset ν' p (.lst acc))) → (∀ ν', ν' p = none → Inv (i + 1) acc ν' → Y (sset ν' p (.lst acc))) →
      γ d δw (sset ν p (.lst acc)) fun δ3 μ3 => θ Ψ δ3 μ3 fun b μ4 => (b = true → φ Ψ δ3 μ4 X) ∧ (b = false → Y μ4))
    (hd : ∀ acc ν, Inv xs.length acc ν → acc.length ≤ xs.length → Φ (.lst acc) ν) : LcG γ θ φ δw Ψ xs μ1 Φ := fun p hp => by
  refine ⟨fun i μ' => ∃ acc ν, ν p = none ∧ μ' = sset ν p (.lst acc) ∧ Inv i acc ν ∧ acc.length ≤ i, ⟨[], μ1, hp, rfl, h0, Nat.le_refl _⟩, ?_, ?_⟩
  · rintro i d μ2 hi ⟨acc, ν, hν, rfl, I, hl⟩
    have hlt : i < xs.length := (List.getElem?_eq_some_iff.mp hi).1
    exact hs i d ν p _ _ acc hi hν I hl (fun y ν' h' I' => ⟨acc, sset_same, by omega, _, ν', h', sset_sset, I', by simp; omega⟩) fun ν' h' I' => ⟨acc, ν', h', rfl, I', by omega⟩
  · rintro μ2 ⟨acc, ν, hν, rfl, I, hl⟩
    exact ⟨acc, sset_same, by rw [show sdel (sset ν p (.lst acc)) p = ν from by first | exact sdel_sset hν | exact sdel_sset (h := hν) | (rw [sdel_sset]; exact hν)]; exact hd acc ν I hl⟩
/-- list(range(n)), a list that will change -/
def dLstR1O (φ : DE) : DE := fun Ψ δ μ Φ => φ Ψ δ μ fun x μ1 => ∃ j, x = .int j ∧ 0 ≤ j ∧ j ≤ 100000 ∧ ∀ p, μ1 p = none → Φ (.hd (.ref p)) (sset μ1 p (.lst (rngD 0 j.toNat)))
theorem sLstR1O {K : Fg} {B : Bx K} {ta : TE} {φ : DE} (a : SE B ta φ) : SE B (tLstRg (tRg1 ta)) (dLstR1O φ) := fun σ H δ μ Φ Q S q k =>
  a σ H δ μ _ _ S q fun v H1 x μ1 S1 e1 r1 q1 => by
    obtain ⟨j, rfl, h0, h1, q2⟩ := q1
    obtain rfl := Rep.int_inv r1
    exact ⟨j, rfl, .of_le (by omega) (by omega) (by omega) h0, fun p hp => k _ _ _ _ (S1.step (.newC S1.sto hp) (sto_own S1.sto hp rgV_reps)) (e1.trans (.newC S1.sto hp)) (.hd _ .nil) (q2 p (S1.sto.fresh hp))⟩
theorem u_lstR1O {φ : DE} {Ψ : XP} {δ : DEnv} {μ : Sto} {Φ : DK} : dLstR1O φ Ψ δ μ Φ = φ Ψ δ μ fun x μ1 => ∃ j, x = .int j ∧ 0 ≤ j ∧ j ≤ 100000 ∧ ∀ p, μ1 p = none → Φ (.hd (.ref p)) (sset μ1 p (.lst (rngD 0 j.toNat))) := rfl
end DW
set_option Elab.async false
set_option linter.all false
set_option maxRecDepth 100000
namespace DW
open PySem PySem.Spec PyProof.Rows L2
/-- xs.count(k), xs a list of ints -/
def dCntL (φa φb : DE) : DE := fun Ψ δ μ Φ => φa Ψ δ μ fun x μ1 => ∃ ns : List Int, x = .lst (ns.map .int) ∧ φb Ψ δ μ1 fun y μ2 => ∃ k : Int, y = .int k ∧ Φ (.int (ns.count k : Nat)) μ2
theorem u_cntL {φa φb : DE} {Ψ : XP} {δ : DEnv} {μ : Sto} {Φ : DK} : dCntL φa φb Ψ δ μ Φ = φa Ψ δ μ fun x μ1 => ∃ ns : List Int, x = .lst (ns.map .int) ∧ φb Ψ δ μ1 fun y μ2 => ∃ k : Int, y = .int k ∧ Φ (.int (ns.count k : Nat)) μ2 := rfl
end DW
set_option Elab.async false
set_option linter.all false
set_option maxRecDepth 100000
namespace DW
open PySem PySem.Spec PyProof.Rows L2
def keyS (e : DictEntry) : Option Str := match e.key with
  | .str x _ => some x
  | _ => none
theorem lookup_mem {tbl : List (Str × D)} {z : Str} {v : D} (h : tbl.lookup z = some v) : (z, v) ∈ tbl := by
  induction tbl with
  | nil => cases h
  | cons p r ih =>
    obtain ⟨x, y⟩ := p
    rw [List.lookup_cons] at h
    cases e : z == x with
    | true =>
      rw [e] at h
      cases h
      rw [beq_iff_eq] at e
      subst e
      exact List.mem_cons_self
    | false =>
      rw [e] at h
      exact List.mem_cons_of_mem _ (ih h)
theorem lookup_no {tbl : List (Str × D)} {z : Str} (h : tbl.lookup z = none) : ∀ p ∈ tbl, p.1 ≠ z := by
  induction tbl with
  | nil => intro p hp; cases hp
  | cons p r ih =>
    obtain ⟨x, y⟩ := p
    rw [List.lookup_cons] at h
    cases e : z == x with
    | true => rw [e] at h; cases h
    | false =>
      rw [e] at h
      intro p hp
      rcases List.mem_cons.mp hp with q | q
      · rw [q]; intro q2; have q3 : x = z := q2; rw [q3] at e; simp at e
      · exact ih h p q
/-- an entry's value -/
def EntOk (K : Fg) (d : Addr) (p : Str × D) : Prop := ∃ (u' : V) (u : Value), PySem.W.nsIn K d p.1 = some (some u) ∧ RelV u' u ∧ ∀ μ H, Rep K μ H u' p.2
theorem dictOk_by {K : Fg} {w : World} {d : Addr} {tbl : List (Str × D)} {es : Array DictEntry} {n : Nat} (ld : K.lookup d = some ⟨.type "dict", none, .dict es n, #[]⟩)
    (kl : PySem.W.KeysLit w.params es.toList) (kn : es.toList.map keyS = tbl.map fun p => some p.1) (low : (d == sysModules) = false) (hv : ∀ p ∈ tbl, EntOk K d p) : DictOk K w d tbl where
  kd := ⟨es, n, ld, kl, low⟩
  at_ := fun z v h => hv (z, v) (lookup_mem h)
  no_ := fun z h => by
    unfold PySem.W.nsIn
    rw [ld]
    have no := lookup_no h
    have fn : es.toList.find? (fun e => e.key.isStr z) = none := by
      rw [List.find?_eq_none]
      intro e he hz
      have hk : keyS e ∈ tbl.map fun p => some p.1 := by rw [← kn]; exact List.mem_map_of_mem he
      obtain ⟨p, hp, ep⟩ := List.mem_map.mp hk
      have : keyS e = some z := by
        unfold keyS
        cases q : e.key with
        | str x t =>
          rw [q] at hz
          have : (x == z) = true := hz
          rw [beq_iff_eq] at this
          rw [this]
        | _ => rw [q] at hz; exact absurd hz Bool.false_ne_true
      rw [this] at ep
      exact no p hp (Option.some.inj ep)
    have nr : es.toList.any (fun e => e.refKey) = false := by
      rw [List.any_eq_false]
      intro e he hr
      obtain ⟨x, t, e1, _⟩ := kl.all e he
      unfold DictEntry.refKey at hr
      rw [e1] at hr
      exact absurd hr Bool.false_ne_true
    show (match es.toList.find? (fun e => e.key.isStr z) with
      | some e => some (some e.val)
      | none => if es.toList.any (fun e => e.refKey) then none else some none) = some none
    rw [fn, nr]
    rfl
theorem strs_rep {K : Fg} {μ : Sto} {H : Hp} : ∀ ss : List Str, Reps K μ H (ss.map V.str) (ss.map D.str)
  | [] => .nil
  | s :: ss => .str s (strs_rep ss)
theorem ent_tup {K : Fg} {d t : Addr} {x : Str} {ss : List Str} {its : Array Value} {n : Nat} {sl : Array (Option Value)} (h : PySem.W.nsIn K d x = some (some (.ref t))) (lt : K.lookup t = some ⟨.type "tuple", none, .seq its n, sl⟩)
    (hv : Vals (ss.map V.str) its.toList) (hz : its.size ≤ sizeLine) : EntOk K d (x, .tup (ss.map D.str)) :=
  ⟨.ref t, _, h, rfl, fun _ _ => .tup (.inr ⟨_, its, n, lt, rfl, rfl, rfl, hz, hv⟩) (strs_rep ss) .nil⟩
end DW
set_option Elab.async false
set_option linter.all false
set_option maxRecDepth 100000
namespace DW
open PySem PySem.Spec PyProof.Rows L2
section
variable {K : Fg} {B : Bx K}
def dLc2 (ι : DI) (γ : DG) (θ : DT) (ι1 : DI) (γ1 : DG) (θ1 : DT) (φ : DE) (vs vs1 : List Nat) : DE := fun Ψ δ μ Φ => ι Ψ δ μ fun xs μ1 => ∀ p, μ1 p = none → ∃ W : Nat → Sto → Prop, W 0 (sset μ1 p (.lst [])) ∧
  (∀ i d μ2, xs[i]? = some d → W i μ2 → γ d (dwipe δ vs) μ2 fun δ3 μ3 => θ Ψ δ3 μ3 fun b μ4 =>
    (b = true → ι1 Ψ δ3 μ4 fun xs1 μ5 => ∃ W1 : Nat → Sto → Prop, W1 0 μ5 ∧
      (∀ j d1 μ6, xs1[j]? = some d1 → W1 j μ6 → γ1 d1 (dwipe δ3 vs1) μ6 fun δ7 μ7 => θ1 Ψ δ7 μ7 fun b1 μ8 =>
        (b1 = true → φ Ψ δ7 μ8 fun y μ9 => ∃ acc, μ9 p = some (.lst acc) ∧ acc.length ≤ 100000 ∧ W1 (j + 1) (sset μ9 p (.lst (acc ++ [y])))) ∧ (b1 = false → W1 (j + 1) μ8)) ∧
      ∀ μ6, W1 xs1.length μ6 → W (i + 1) μ6) ∧ (b = false → W (i + 1) μ4)) ∧
  ∀ μ2, W xs.length μ2 → ∃ acc, μ2 p = some (.lst acc) ∧ Φ (.lst acc) (sdel μ2 p)
end
def LcG2 (γ : DG) (θ : DT) (ι1 : DI) (γ1 : DG) (θ1 : DT) (φ : DE) (δw : DEnv) (vs1 : List Nat) (Ψ : XP) (xs : List D) (μ1 : Sto) (Φ : DK) : Prop := ∀ p, μ1 p = none → ∃ W : Nat → Sto → Prop, W 0 (sset μ1 p (.lst [])) ∧
  (∀ i d μ2, xs[i]? = some d → W i μ2 → γ d δw μ2 fun δ3 μ3 => θ Ψ δ3 μ3 fun b μ4 =>
    (b = true → ι1 Ψ δ3 μ4 fun xs1 μ5 => ∃ W1 : Nat → Sto → Prop, W1 0 μ5 ∧
      (∀ j d1 μ6, xs1[j]? = some d1 → W1 j μ6 → γ1 d1 (dwipe δ3 vs1) μ6 fun δ7 μ7 => θ1 Ψ δ7 μ7 fun b1 μ8 =>
        (b1 = true → φ Ψ δ7 μ8 fun y μ9 => ∃ acc, μ9 p = some (.lst acc) ∧ acc.length ≤ 100000 ∧ W1 (j + 1) (sset μ9 p (.lst (acc ++ [y])))) ∧ (b1 = false → W1 (j + 1) μ8)) ∧
      ∀ μ6, W1 xs1.length μ6 → W (i + 1) μ6) ∧ (b = false → W (i + 1) μ4)) ∧
  ∀ μ2, W xs.length μ2 → ∃ acc, μ2 p = some (.lst acc) ∧ Φ (.lst acc) (sdel μ2 p)
section
variable {Ψ : XP} {Φ : DK} {δ : DEnv} {μ : Sto}
theorem u_lc2 {ι : DI} {γ : DG} {θ : DT} {ι1 : DI} {γ1 : DG} {θ1 : DT} {φ : DE} {vs vs1 : List Nat} : dLc2 ι γ θ ι1 γ1 θ1 φ vs vs1 Ψ δ μ Φ = ι Ψ δ μ fun xs μ1 => LcG2 γ θ ι1 γ1 θ1 φ (dwipe δ vs) vs1 Ψ xs μ1 Φ := rfl
end
end DW
set_option Elab.async false
set_option linter.all false
set_option maxRecDepth 100000
set_option maxHeartbeats 4000000
namespace DW
open PySem PySem.Spec PyProof.Rows L2
def wrap : Bool → List D → D
  | true => .tup
  | false => .lst
def iZM (b1 b2 : Bool) (φ φ' : DE) : DI := fun Ψ δ μ Φ => φ Ψ δ μ fun x μ1 => φ' Ψ δ μ1 fun y μ2 => ∃ xs ys, x = wrap b1 xs ∧ y = wrap b2 ys ∧ Φ ((xs.zip ys).map fun p => .pr [p.1, p.2]) μ2
theorem u_iZM {b1 b2 : Bool} {φ φ' : DE} {Ψ : XP} {δ : DEnv} {μ : Sto} {Φ : List D → Sto → Prop} : iZM b1 b2 φ φ' Ψ δ μ Φ = φ Ψ δ μ fun x μ1 => φ' Ψ δ μ1 fun y μ2 => ∃ xs ys, x = wrap b1 xs ∧ y = wrap b2 ys ∧ Φ ((xs.zip ys).map fun p => .pr [p.1, p.2]) μ2 := rfl
theorem w_zipLT {l t : List D} {P : List D → List D → Prop} : (∃ xs ys, D.lst l = wrap false xs ∧ D.tup t = wrap true ys ∧ P xs ys) = P l t := propext ⟨fun ⟨_, _, e1, e2, q⟩ => by cases e1; cases e2; exact q, fun q => ⟨_, _, rfl, rfl, q⟩⟩
theorem w_zipTL {l t : List D} {P : List D → List D → Prop} : (∃ xs ys, D.tup l = wrap true xs ∧ D.lst t = wrap false ys ∧ P xs ys) = P l t := propext ⟨fun ⟨_, _, e1, e2, q⟩ => by cases e1; cases e2; exact q, fun q => ⟨_, _, rfl, rfl, q⟩⟩
end DW
set_option Elab.async false
set_option linter.all false
set_option maxRecDepth 100000
set_option maxHeartbeats 4000000
namespace DW
open PySem PySem.Spec PyProof.Rows L2
section
variable {K : Fg} {B : Bx K} {ta : TE} {φ : DE} {Ψ : XP} {δ : DEnv} {μ : Sto} {Φ : DK}
def dTupR1 (φ : DE) : DE := fun Ψ δ μ Φ => φ Ψ δ μ fun x μ1 => ∃ j, x = .int j ∧ 0 ≤ j ∧ j ≤ 100000 ∧ Φ (.tup (rngD 0 j.toNat)) μ1
theorem u_tupR1 : dTupR1 φ Ψ δ μ Φ = φ Ψ δ μ fun x μ1 => ∃ j, x = .int j ∧ 0 ≤ j ∧ j ≤ 100000 ∧ Φ (.tup (rngD 0 j.toNat)) μ1 := rfl
end
end DW
set_option Elab.async false
set_option linter.all false
set_option maxRecDepth 100000
set_option maxHeartbeats 4000000
namespace DW
open PySem PySem.Spec PyProof.Rows L2
end DW
set_option Elab.async false
set_option linter.all false
set_option maxRecDepth 100000
set_option maxHeartbeats 4000000
namespace DW
open PySem PySem.Spec PyProof.Rows L2
section
variable {K : Fg} {B : Bx K} {ta : TE} {φ : DE} {tas : TA} {ψ : DA} {Ψ : XP} {δ : DEnv} {μ : Sto} {Φ : DK}
def dMethXN (C : Addr) (NS : List Str) (c : Con) (φ : DE) (ψ : DA) : DE := fun Ψ δ μ Φ => φ Ψ δ μ fun x μ1 => ∃ es, x = .obj C NS es ∧ ψ Ψ δ μ1 fun ds μ2 => c (x :: ds) μ2 Φ fun _ _ => False
def dMakeSN (C : Addr) (c : Con) (ψ : DA) : DE := fun Ψ δ μ Φ => ψ Ψ δ μ fun ds μ1 => ∀ x, μ1 x = none → c (.hd (.ref x) :: ds) (sset μ1 x (.ins C [] [])) (fun d μ2 => d = .non ∧ ∃ ns es, μ2 x = some (.ins C ns es) ∧ Φ (.obj C ns es) (sdel μ2 x)) (fun _ _ => False)
theorem u_methXN {C : Addr} {NS : List Str} {c : Con} : dMethXN C NS c φ ψ Ψ δ μ Φ = φ Ψ δ μ fun x μ1 => ∃ es, x = .obj C NS es ∧ ψ Ψ δ μ1 fun ds μ2 => c (x :: ds) μ2 Φ fun _ _ => False := rfl
theorem u_makeSN {C : Addr} {c : Con} : dMakeSN C c ψ Ψ δ μ Φ = ψ Ψ δ μ fun ds μ1 => ∀ x, μ1 x = none → c (.hd (.ref x) :: ds) (sset μ1 x (.ins C [] [])) (fun d μ2 => d = .non ∧ ∃ ns es, μ2 x = some (.ins C ns es) ∧ Φ (.obj C ns es) (sdel μ2 x)) (fun _ _ => False) := rfl
end
theorem w_neB {b c : Bool} {μ : Sto} {Φ : DK} : oNe (.bl b) (.bl c) μ Φ = Φ (.bl (!decide (b = c))) μ := w_someb
end DW
set_option Elab.async false
set_option linter.all false
set_option maxRecDepth 100000
set_option maxHeartbeats 4000000
namespace DW
open PySem PySem.Spec PyProof.Rows L2
section
variable {K : Fg} {B : Bx K} {ta tb : TE} {φ φ2 : DE} {Ψ : XP} {δ : DEnv} {μ : Sto} {Φ : DK} {W : WX}
def dBinX (C : Addr) (NS : List Str) (c : Con) (φ φ2 : DE) : DE := fun Ψ δ μ Φ => φ Ψ δ μ fun x μ1 => φ2 Ψ δ μ1 fun y μ2 => ∃ es fs, x = .obj C NS es ∧ y = .obj C NS fs ∧ c [x, y] μ2 (fun d μ3 => (∃ C' NS' es', d = .obj C' NS' es') ∧ Φ d μ3) fun z μ3 => Ψ z δ μ3
def dInvX (C : Addr) (NS : List Str) (c : Con) (φ : DE) : DE := fun Ψ δ μ Φ => φ Ψ δ μ fun x μ1 => ∃ es, x = .obj C NS es ∧ c [x] μ1 Φ fun z μ3 => Ψ z δ μ3
theorem u_binX {C : Addr} {NS : List Str} {c : Con} : dBinX C NS c φ φ2 Ψ δ μ Φ = φ Ψ δ μ fun x μ1 => φ2 Ψ δ μ1 fun y μ2 => ∃ es fs, x = .obj C NS es ∧ y = .obj C NS fs ∧ c [x, y] μ2 (fun d μ3 => (∃ C' NS' es', d = .obj C' NS' es') ∧ Φ d μ3) fun z μ3 => Ψ z δ μ3 := rfl
theorem u_invX {C : Addr} {NS : List Str} {c : Con} : dInvX C NS c φ Ψ δ μ Φ = φ Ψ δ μ fun x μ1 => ∃ es, x = .obj C NS es ∧ c [x] μ1 Φ fun z μ3 => Ψ z δ μ3 := rfl
end
end DW
set_option Elab.async false
set_option linter.all false
set_option maxRecDepth 100000
namespace LW
open PySem PySem.Spec L2 DW
def prodI (ws : List Int) : Int := ws.foldl (· * ·) 1
theorem prodI_snoc (ws : List Int) (z : Int) : prodI (ws ++ [z]) = prodI ws * z := by unfold prodI; rw [List.foldl_append]; rfl
theorem prod_snoc {ws : List Int} {i : Nat} {z : Int} (h : ws[i]? = some z) : prodI (ws.take (i + 1)) = prodI (ws.take i) * z := by
  rw [List.take_add_one, h]; exact prodI_snoc _ _
def prodR : List Int → Int
  | [] => 1
  | w :: r => prodR r * w
theorem prodI_rev : ∀ r : List Int, prodI r.reverse = prodR r
  | [] => rfl
  | w :: r => by rw [List.reverse_cons, prodI_snoc, prodI_rev r]; rfl
abbrev Pos (ws : List Int) : Prop := ∀ w ∈ ws, (0 : Int) < w
theorem Pos.rev {ws : List Int} (h : Pos ws) : Pos ws.reverse := fun w hw => h w (List.mem_reverse.mp hw)
theorem prodR_pos : ∀ {r : List Int}, Pos r → 0 < prodR r
  | [], _ => by decide
  | w :: r, h => Int.mul_pos (prodR_pos fun x hx => h x (List.mem_cons_of_mem _ hx)) (h w List.mem_cons_self)
/-- widths as they are drawn -/
structure WB (ws : List Int) : Prop where
  len : ws.length ≤ 1000
  lo : ∀ w ∈ ws, (0 : Int) ≤ w
  hi : ∀ w ∈ ws, w < 2 ^ 100
  pr : ∀ j, 0 ≤ prodI (ws.take j) ∧ prodI (ws.take j) < 2 ^ 200
theorem WB.mul {ws : List Int} (h : WB ws) {i : Nat} {z : Int} (e : ws[i]? = some z) : CMulX (prodI (ws.take i)) z := by
  have h1 := h.pr i
  have h2 := h.lo z (List.mem_of_getElem? e)
  have h3 := h.hi z (List.mem_of_getElem? e)
  exact mulx 200 100 (by omega) (by omega) (by decide)
end LW
set_option Elab.async false
set_option linter.all false
set_option maxRecDepth 100000
namespace LW
open PySem PySem.Spec L2 DW
/-- two lists that change: the state and one's own -/
structure Two (μ : Sto) (p st : Addr) (L c : List D) (μ' : Sto) : Prop where
  hp : μ p = none
  ne : st ≠ p
  pL : μ' p = some (.lst L)
  sc : μ' st = some (.lst c)
  ot : ∀ a, a ≠ p → a ≠ st → μ' a = μ a
theorem Two.start {μ : Sto} {p st : Addr} {L c : List D} (hp : μ p = none) (hs : μ st = some (.lst c)) : Two μ p st L c (sset μ p (.lst L)) := by
  have ne : st ≠ p := fun z => by rw [z, hp] at hs; cases hs
  exact ⟨hp, ne, sset_same, by rw [sset_ne ne]; exact hs, fun a h _ => sset_ne h⟩
theorem Two.setS {μ μ' : Sto} {p st : Addr} {L c c2 : List D} (T : Two μ p st L c μ') : Two μ p st L c2 (sset μ' st (.lst c2)) :=
  ⟨T.hp, T.ne, by rw [sset_ne (Ne.symm T.ne)]; exact T.pL, sset_same, fun a h1 h2 => by rw [sset_ne h2]; exact T.ot a h1 h2⟩
theorem Two.setP {μ μ' : Sto} {p st : Addr} {L L2 c : List D} (T : Two μ p st L c μ') : Two μ p st L2 c (sset μ' p (.lst L2)) :=
  ⟨T.hp, T.ne, sset_same, by rw [sset_ne T.ne]; exact T.sc, fun a h1 h2 => by rw [sset_ne h1]; exact T.ot a h1 h2⟩
theorem Two.sub {μ μ' : Sto} {p st : Addr} {L c : List D} (T : Two μ p st L c μ') : Sub (sset μ st (.lst c)) μ' := fun a x e => by
  by_cases h : a = st
  · subst h; rw [sset_same] at e; rw [T.sc]; exact e
  · rw [sset_ne h] at e
    have h1 : a ≠ p := fun z => by rw [z, T.hp] at e; cases e
    rw [T.ot a h1 h]; exact e
theorem Two.del {μ μ' : Sto} {p st : Addr} {L c : List D} (T : Two μ p st L c μ') : sdel μ' p = sset μ st (.lst c) := by
  funext a
  unfold sdel
  by_cases h : a = p
  · subst h; rw [if_pos rfl, sset_ne (Ne.symm T.ne), T.hp]
  · rw [if_neg h]
    by_cases h2 : a = st
    · subst h2; rw [sset_same, T.sc]
    · rw [sset_ne h2]; exact T.ot a h h2
theorem prodI_eqR (ws : List Int) : prodI ws = prodR ws.reverse := by
  have e := prodI_rev ws.reverse
  rw [List.reverse_reverse] at e
  exact e
theorem prodI_pos0 {ws : List Int} (h : Pos ws) : 0 < prodI ws := by rw [prodI_eqR]; exact prodR_pos h.rev
theorem Pos.take {ws : List Int} (h : Pos ws) (j : Nat) : Pos (ws.take j) := fun w hw => h w (List.mem_of_mem_take hw)
/-- a product of a front is no greater -/
theorem prod_take_le {ws : List Int} (h : Pos ws) : ∀ j, prodI (ws.take j) ≤ prodI ws := by
  have step : ∀ j, prodI (ws.take j) ≤ prodI (ws.take (j + 1)) := fun j => by
    cases e : ws[j]? with
    | none =>
      have hl : ws.length ≤ j := by rw [List.getElem?_eq_none_iff] at e; exact e
      rw [List.take_of_length_le hl, List.take_of_length_le (by omega)]; exact Int.le_refl _
    | some z =>
      rw [LW.prod_snoc e]
      have h1 := prodI_pos0 (h.take j)
      have h2 := h z (List.mem_of_getElem? e)
      have : prodI (ws.take j) * 1 ≤ prodI (ws.take j) * z := Int.mul_le_mul_of_nonneg_left (by omega) (by omega)
      omega
  have far : ∀ k j, prodI (ws.take j) ≤ prodI (ws.take (j + k)) := fun k => by
    induction k with
    | zero => intro j; exact Int.le_refl _
    | succ k ih => intro j; exact Int.le_trans (ih j) (step (j + k))
  intro j
  have := far ws.length j
  rw [List.take_of_length_le (by omega : ws.length ≤ j + ws.length)] at this
  exact this
theorem WB.of {ws : List Int} (hl : ws.length ≤ 1000) (hp : Pos ws) (hh : ∀ w ∈ ws, w < 2 ^ 100) (hb : prodI ws < 2 ^ 200) : WB ws :=
  ⟨hl, fun w hw => by have := hp w hw; omega, hh, fun j => ⟨by have := prodI_pos0 (hp.take j); omega, by have := prod_take_le hp j; omega⟩⟩
end LW
set_option Elab.async false
set_option linter.all false
set_option maxRecDepth 100000
namespace LW
open PySem PySem.Spec L2 DW
inductive Am where
  | any | best (r : List Int) | second (r : List Int) | most | fewest | fixed | like (i : Nat) | unlike (i : Nat) | among (l : List Int) | only (l : List Int) | table (rows : List (List Int))
  | either (a b : Am) | both (a b : Am) | els (a b : Am) | not (a : Am) | first (a : Am) | recode (m : List Int) (a : Am) | reorder (p : List Int) (a : Am)
namespace Am
def iT (l : List Int) : D := .tup (l.map .int)
def d : Am → D
  | any => .tup [.str "any"]
  | best r => .tup [.str "best", iT r]
  | second r => .tup [.str "second", iT r]
  | most => .tup [.str "most"]
  | fewest => .tup [.str "fewest"]
  | fixed => .tup [.str "fixed"]
  | like i => .tup [.str "like", .int i]
  | unlike i => .tup [.str "unlike", .int i]
  | among l => .tup [.str "among", iT l]
  | only l => .tup [.str "only", iT l]
  | table rows => .tup [.str "table", .tup (rows.map iT)]
  | either a b => .tup [.str "either", a.d, b.d]
  | both a b => .tup [.str "both", a.d, b.d]
  | els a b => .tup [.str "else", a.d, b.d]
  | not a => .tup [.str "not", a.d]
  | first a => .tup [.str "first", a.d]
  | recode m a => .tup [.str "recode", iT m, a.d]
  | reorder p a => .tup [.str "reorder", iT p, a.d]
end Am
/-- ascending numbers from lo on, below hi -/
def Asc (hi : Int) : Int → List Int → Prop
  | _, [] => True
  | lo, x :: r => lo ≤ x ∧ x < hi ∧ Asc hi (x + 1) r
structure CtxOk (n k : Nat) (c : List Int) : Prop where
  len : c.length = n
  lo : ∀ r ∈ c, 0 ≤ r
  hi : ∀ r ∈ c, r < k
  n1 : 1 ≤ n
  n64 : n ≤ 64
  k1 : 1 ≤ k
  k4 : k ≤ 4
def NumOk (len lim : Nat) (r : List Int) : Prop := r.length = len ∧ ∀ x ∈ r, 0 ≤ x ∧ x < (lim : Int)
def AmOk (n k : Nat) : Am → Prop
  | .any => True
  | .best r => NumOk k 10 r
  | .second r => NumOk k 10 r
  | .most => True
  | .fewest => True
  | .fixed => True
  | .like i => i < n
  | .unlike i => i < n
  | .among l => Asc k 0 l
  | .only l => Asc n 0 l
  | .table rows => n ≤ 8 ∧ k ^ n ≤ 256 ∧ rows.length = k ^ n ∧ ∀ l ∈ rows, Asc n 0 l
  | .either a b => AmOk n k a ∧ AmOk n k b
  | .both a b => AmOk n k a ∧ AmOk n k b
  | .els a b => AmOk n k a ∧ AmOk n k b
  | .not a => AmOk n k a
  | .first a => AmOk n k a
  | .recode m a => NumOk k k m ∧ AmOk n k a
  | .reorder p a => NumOk n n p ∧ p.Nodup ∧ AmOk n k a
def at' (l : List Int) (i : Int) : Int := l.getD i.toNat 0
/-- the number of a context -/
def ctxIx (k : Nat) (c : List Int) : Int := c.foldl (fun s r => s * k + r) 0
def someI (n : Nat) (p : Nat → Bool) : Bool := (List.range n).any p
def isG (k : Nat) : Am → List Int → Nat → Bool
  | .any, _, _ => true
  | .best r, c, x => c.all fun s => decide (at' r s ≤ at' r (c.getD x 0))
  | .second r, c, x => let m := at' r (c.getD x 0); c.all (fun s => m == at' r s) || (let ab := (c.map (at' r)).filter (fun s => decide (m < s)); decide (0 < ab.length) && ab.all (· == ab.getD 0 0))
  | .most, c, x => c.all fun s => decide (c.count s ≤ c.count (c.getD x 0))
  | .fewest, c, x => c.all fun s => decide (c.count (c.getD x 0) ≤ c.count s)
  | .fixed, c, x => c.getD x 0 == (x : Int)
  | .like i, c, x => c.getD x 0 == c.getD i 0
  | .unlike i, c, x => c.getD x 0 != c.getD i 0
  | .among l, c, x => l.contains (c.getD x 0)
  | .only l, _, x => l.contains (x : Int)
  | .table rows, c, x => (rows.getD (ctxIx k c).toNat []).contains (x : Int)
  | .either a b, c, x => isG k a c x || isG k b c x
  | .both a b, c, x => isG k a c x && isG k b c x
  | .els a b, c, x => if someI c.length (isG k a c) then isG k a c x else isG k b c x
  | .not a, c, x => !isG k a c x
  | .first a, c, x => isG k a c x && !someI x (isG k a c)
  | .recode m a, c, x => isG k a (c.map (at' m)) x
  | .reorder p a, c, x => isG k a ((List.range c.length).map fun (y : Nat) => c.getD (p.idxOf (y : Int)) (0 : Int)) (at' p x).toNat
def flagL (k : Nat) (a : Am) (c : List Int) : List D := (List.range c.length).map fun x => .bl (isG k a c x)
def FlC (P : Am → Prop) : Con := fun ds μ Φ _ => ∃ (n k : Nat) (a : Am) (c : List Int), P a ∧ AmOk n k a ∧ CtxOk n k c ∧ ds = [a.d, .tup (c.map .int), .int k] ∧ Φ (.lst (flagL k a c)) μ
section
variable {Ψ : XP} {Φ : DK} {n : Nat} {φ : DE} {δw : DEnv} {μ1 : Sto}
theorem inD_I (z : Int) : ∀ l : List Int, inD (.int z) (l.map .int) = l.contains z
  | [] => rfl
  | x :: l => by
    have ih := inD_I z l
    unfold inD at ih ⊢
    rw [List.map_cons, List.any_cons, ih, List.contains_cons]
    show (x == z || l.contains z) = _
    by_cases hh : x = z
    · rw [hh]
    · rw [beq_eq_false_iff_ne.mpr hh, beq_eq_false_iff_ne.mpr (Ne.symm hh)]
theorem flat_I (l : List Int) : (l.map D.int).all flatD = true := by rw [List.all_map]; exact List.all_eq_true.mpr fun _ _ => rfl
theorem in_I {z : Int} {l : List Int} {μ : Sto} {X : DK} (h : X (.bl (l.contains z)) μ) : oIn false (.int z) (.tup (l.map .int)) μ X :=
  ⟨_, .tup _, rfl, flat_I l, by rw [if_neg Bool.false_ne_true, inD_I]; exact h⟩
theorem atI_map {α : Type} {f : α → D} {l : List α} {i : Int} (h0 : 0 ≤ i) (h : i.toNat < l.length) : atI (l.map f) i = some (f l[i.toNat]) := by
  obtain ⟨j, rfl⟩ : ∃ j : Nat, i = (j : Int) := ⟨i.toNat, by omega⟩
  have hj : j < l.length := h
  show atI (l.map f) (j : Int) = some (f l[j])
  exact atI_nat (by rw [List.getElem?_map, List.getElem?_eq_getElem hj]; rfl)
end
theorem repI (n : Nat) (k : Int) : (List.replicate n [D.int k]).flatten = (List.replicate n k).map D.int := by
  induction n with
  | zero => rfl
  | succ n ih => rw [List.replicate_succ, List.flatten_cons, ih, List.replicate_succ, List.map_cons]; rfl
theorem prodI_rep (n : Nat) (k : Int) : prodI (List.replicate n k) = k ^ n := by
  induction n with
  | zero => rw [Int.pow_zero]; rfl
  | succ n ih => rw [List.replicate_succ', prodI_snoc, ih, Int.pow_succ]
theorem pow_small {k n : Nat} (hk1 : 1 ≤ k) (hk : k ≤ 4) (hn : n ≤ 64) : k ^ n ≤ 2 ^ 128 := by
  have h1 : k ^ n ≤ 4 ^ n := Nat.pow_le_pow_left hk n
  have h2 : 4 ^ n ≤ 4 ^ 64 := Nat.pow_le_pow_right (by decide) hn
  exact Nat.le_trans h1 (Nat.le_trans h2 (by decide))
theorem WB_rep {n k : Nat} (hn : n ≤ 64) (hk1 : 1 ≤ k) (hk : k ≤ 4) : WB (List.replicate n (k : Int)) := by
  refine WB.of (by rw [List.length_replicate]; omega) (fun w hw => ?_) (fun w hw => ?_) ?_
  · rw [List.eq_of_mem_replicate hw]; omega
  · rw [List.eq_of_mem_replicate hw]
    have : (k : Int) ≤ 4 := by omega
    exact Int.lt_of_le_of_lt this (by decide)
  · rw [prodI_rep, ← Int.natCast_pow]
    have := pow_small hk1 hk hn
    have h2 : ((k ^ n : Nat) : Int) ≤ ((2 ^ 128 : Nat) : Int) := Int.ofNat_le.mpr this
    exact Int.lt_of_le_of_lt h2 (by decide)
theorem asc_mono {hi hi' : Int} (h : hi ≤ hi') : ∀ {lo : Int} {l : List Int}, Asc hi lo l → Asc hi' lo l
  | _, [], _ => trivial
  | _, x :: l, ⟨h1, h2, h3⟩ => ⟨h1, by omega, asc_mono h h3⟩
theorem asc_snoc {hi : Int} : ∀ {lo : Int} {l : List Int}, lo ≤ hi → Asc hi lo l → Asc (hi + 1) lo (l ++ [hi])
  | _, [], h, _ => ⟨h, by omega, trivial⟩
  | _, x :: l, h, ⟨h1, h2, h3⟩ => ⟨h1, by omega, asc_snoc (by omega) h3⟩
theorem FlC.len {P : Am → Prop} {ds μ Φ Ψ} (h : FlC P ds μ Φ Ψ) : ds.length = 3 := by obtain ⟨_, _, _, _, _, _, _, rfl, _⟩ := h; rfl
end LW
set_option Elab.async false
set_option linter.all false
set_option maxRecDepth 100000
namespace LW
open PySem PySem.Spec L2 DW
theorem seq_cut {ω ζ : DSt} {Ψ : XP} {Δ : DEnds} {δ : DEnv} {μ : Sto} (h : ∀ M, M = ζ Ψ Δ → ω Ψ { Δ with nx := M } δ μ) : dSeq ω ζ Ψ Δ δ μ := h _ rfl
inductive How where
  | any | rise | once
def okH : How → List Int → Int → Bool
  | .any, _, _ => true
  | .rise, l, i => match l.getLast? with
    | none => true
    | some j => decide (j < i)
  | .once, l, i => !l.contains i
/-- the first wrong entry behind the right entries l -/
def ef (h : How) (lim : Int) : List Int → List D → Option Nat
  | _, [] => none
  | l, .int i :: ds => if 0 ≤ i ∧ i < lim ∧ okH h l i = true then ef h lim (l ++ [i]) ds else some l.length
  | l, _ :: _ => some l.length
def entF (h : How) (len : Option Nat) (lim : Int) : D → Option (List Int)
  | .tup es => if (∀ m, len = some m → es.length = m) then (ef h lim [] es).map fun (i : Nat) => [(i : Int)] else some []
  | _ => some []
def rowsE (n : Nat) : Nat → List D → Option (List Int)
  | _, [] => none
  | i, r :: rs => match entF .rise none n r with
    | some p => some ((i : Int) :: p)
    | none => rowsE n (i + 1) rs
def rowsF (n k : Nat) : D → Option (List Int)
  | .tup rs => if rs.length = k ^ n then rowsE n 0 rs else some []
  | _ => some []
def tblK : List (Str × List Str) := [("any", []), ("best", ["ranks"]), ("second", ["ranks"]), ("most", []), ("fewest", []), ("fixed", []), ("like", ["option"]), ("unlike", ["option"]), ("among", ["outcomes"]), ("only", ["options"]), ("table", ["rows"]), ("either", ["aim", "aim"]), ("both", ["aim", "aim"]), ("else", ["aim", "aim"]), ("not", ["aim"]), ("first", ["aim"]), ("recode", ["codes", "aim"]), ("reorder", ["places", "aim"])]
def tblD : List (Str × D) := tblK.map fun p => (p.1, .tup (p.2.map .str))
theorem lookup_D (w : Str) : ∀ l : List (Str × List Str), (l.map fun p => (p.1, D.tup (p.2.map .str))).lookup w = (l.lookup w).map fun ks => D.tup (ks.map .str)
  | [] => rfl
  | (a, b) :: l => by
    rw [List.map_cons, List.lookup_cons, List.lookup_cons]
    cases w == a
    · exact lookup_D w l
    · rfl
theorem lookup_mem {w : Str} {ks : List Str} : ∀ {l : List (Str × List Str)}, l.lookup w = some ks → (w, ks) ∈ l
  | [], h => by simp at h
  | (a, b) :: l, h => by
    rw [List.lookup_cons] at h
    by_cases e : w = a
    · subst e; simp at h; rw [h]; exact List.mem_cons_self
    · have : (w == a) = false := beq_eq_false_iff_ne.mpr e
      rw [this] at h
      exact List.mem_cons_of_mem _ (lookup_mem h)
def sh (w : Str) : Option (List Str) := tblK.lookup w
def wi (f : D → Option (List Int)) (n k : Nat) (kd : Str) (d : D) : Option (List Int) :=
  if kd = "aim" then f d
  else if kd = "option" then (match d with
    | .int i => if 0 ≤ i ∧ i < (n : Int) then none else some []
    | _ => some [])
  else if kd = "ranks" then entF .any (some k) 10 d
  else if kd = "codes" then entF .any (some k) k d
  else if kd = "places" then entF .once (some n) n d
  else if kd = "outcomes" then entF .rise none k d
  else if kd = "options" then entF .rise none n d
  else rowsF n k d
def wis (f : D → Option (List Int)) (n k : Nat) : Nat → List Str → List D → Option (List Int)
  | i, kd :: ks, d :: ds => match wi f n k kd d with
    | some p => some ((i : Int) :: p)
    | none => wis f n k (i + 1) ks ds
  | _, _, _ => none
def sml (n k : Nat) : Prop := n ≤ 8 ∧ k ^ n ≤ 256
instance {n k : Nat} : Decidable (sml n k) := inferInstanceAs (Decidable (_ ∧ _))
/-- the first wrong part of a term with so many levels left -/
def fa (n k : Nat) : Nat → D → Option (List Int)
  | 0, _ => some []
  | r + 1, .tup (.str w :: its) => match sh w with
    | none => some []
    | some ks => if its.length = ks.length then (if w = "table" ∧ ¬ sml n k then some [] else wis (fa n k r) n k 1 ks its) else some []
  | _ + 1, _ => some []
def pd : Option (List Int) → D
  | none => .non
  | some p => .tup (p.map .int)
/-- plain terms: so long, so deep -/
def trm (L : Nat) : Nat → D → Prop
  | _, .int _ => True
  | _, .str _ => True
  | j + 1, .tup ds => ds.length ≤ L ∧ ∀ d ∈ ds, trm L j d
  | _, _ => False
theorem trm_mono {L M : Nat} (hL : L ≤ M) : ∀ {i j : Nat} {d : D}, i ≤ j → trm L i d → trm M j d
  | _, _, .int _, _, _ => by simp [trm]
  | _, _, .str _, _, _ => by simp [trm]
  | 0, j, .tup _, _, h => by simp [trm] at h
  | i + 1, 0, .tup _, hi, h => by omega
  | i + 1, j + 1, .tup ds, hi, h => ⟨Nat.le_trans h.1 hL, fun d hd => trm_mono hL (Nat.le_of_succ_le_succ hi) (h.2 d hd)⟩
  | _, _, .non, _, h => by simp [trm] at h
  | _, _, .bl _, _, h => by simp [trm] at h
  | _, _, .lst _, _, h => by simp [trm] at h
  | _, _, .pr _, _, h => by simp [trm] at h
  | _, _, .obj _ _ _, _, h => by simp [trm] at h
  | _, _, .hd _, _, h => by simp [trm] at h
  | _, _, .scr _, _, h => by simp [trm] at h
theorem trm_cases {L j : Nat} {d : D} (h : trm L j d) : (∃ i, d = .int i) ∨ (∃ s, d = .str s) ∨ ∃ ds i, d = .tup ds ∧ j = i + 1 ∧ ds.length ≤ L ∧ ∀ x ∈ ds, trm L i x := by
  cases d with
  | int i => exact .inl ⟨i, rfl⟩
  | str s => exact .inr (.inl ⟨s, rfl⟩)
  | tup ds => cases j with
    | zero => simp [trm] at h
    | succ i => exact .inr (.inr ⟨ds, i, rfl, rfl, h.1, h.2⟩)
  | _ => simp [trm] at h
theorem trm_tup {L j : Nat} {ds : List D} (hl : ds.length ≤ L) (h : ∀ d ∈ ds, trm L j d) : trm L (j + 1) (.tup ds) := ⟨hl, h⟩
theorem trm_int {L j : Nat} {i : Int} : trm L j (.int i) := by simp [trm]
theorem trm_str {L j : Nat} {i : Str} : trm L j (.str i) := by simp [trm]
theorem trm_I {L j : Nat} {l : List Int} (h : l.length ≤ L) : trm L (j + 1) (.tup (l.map .int)) := ⟨by rw [List.length_map]; exact h, fun d hd => by obtain ⟨i, _, rfl⟩ := List.mem_map.mp hd; exact trm_int⟩
theorem ef_lt {h : How} {lim : Int} : ∀ {ds : List D} {l : List Int} {i : Nat}, ef h lim l ds = some i → l.length ≤ i ∧ i < l.length + ds.length
  | [], l, i, e => by simp [ef] at e
  | d :: ds, l, i, e => by
    have fin : some l.length = some i → l.length ≤ i ∧ i < l.length + (d :: ds).length := fun z => by cases z; rw [List.length_cons]; omega
    cases d with
    | int z =>
      simp only [ef] at e
      split at e
      · have := ef_lt e
        rw [List.length_append, List.length_singleton] at this
        rw [List.length_cons]
        omega
      · exact fin e
    | _ => exact fin (by simpa [ef] using e)
/-- a path that may be told -/
def pok (L m : Nat) (p : List Int) : Prop := p.length ≤ m ∧ ∀ i ∈ p, 0 ≤ i ∧ i ≤ (L : Int)
theorem pok_nil {L m : Nat} : pok L m [] := ⟨by simp, by simp⟩
theorem pok_cons {L m : Nat} {i : Nat} {p : List Int} (hi : i ≤ L) (h : pok L m p) : pok L (m + 1) ((i : Int) :: p) := ⟨by rw [List.length_cons]; have := h.1; omega, fun x hx => by
  rcases List.mem_cons.mp hx with e | e
  · omega
  · exact h.2 x e⟩
theorem pok_mono {L m n : Nat} {p : List Int} (hm : m ≤ n) (h : pok L m p) : pok L n p := ⟨Nat.le_trans h.1 hm, h.2⟩
theorem entF_ok {h : How} {len : Option Nat} {lim : Int} {d : D} {p : List Int} {L j : Nat} (ht : trm L j d) (e : entF h len lim d = some p) : pok L 1 p := by
  rcases trm_cases ht with ⟨i, rfl⟩ | ⟨s, rfl⟩ | ⟨ds, i, rfl, rfl, hl, hx⟩
  · simp [entF] at e; subst e; exact pok_nil
  · simp [entF] at e; subst e; exact pok_nil
  · simp only [entF] at e
    split at e
    · obtain ⟨i, hi, rfl⟩ := Option.map_eq_some_iff.mp e
      have := ef_lt hi
      exact pok_cons (m := 0) (by simp at this; omega) pok_nil
    · cases e; exact pok_nil
theorem rowsE_ok {n : Nat} {L j : Nat} : ∀ {rs : List D} {i : Nat} {p : List Int}, (∀ d ∈ rs, trm L j d) → i + rs.length ≤ L → rowsE n i rs = some p → pok L 2 p
  | [], i, p, _, _, e => by simp [rowsE] at e
  | r :: rs, i, p, h, hl, e => by
    simp only [rowsE] at e
    rw [List.length_cons] at hl
    split at e
    · rename_i q hq
      cases e
      exact pok_cons (by omega) (entF_ok (h r List.mem_cons_self) hq)
    · exact rowsE_ok (fun d hd => h d (List.mem_cons_of_mem _ hd)) (by omega) e
theorem rowsF_ok {n k : Nat} {L j : Nat} {d : D} {p : List Int} (h : trm L j d) (e : rowsF n k d = some p) : pok L 2 p := by
  rcases trm_cases h with ⟨i, rfl⟩ | ⟨s, rfl⟩ | ⟨ds, i, rfl, rfl, hl, hx⟩
  · simp [rowsF] at e; subst e; exact pok_nil
  · simp [rowsF] at e; subst e; exact pok_nil
  · simp only [rowsF] at e
    split at e
    · exact rowsE_ok hx (by omega) e
    · cases e; exact pok_nil
theorem wi_ok {f : D → Option (List Int)} {n k m : Nat} {kd : Str} {d : D} {p : List Int} {L j : Nat} (h : trm L j d) (hf : ∀ p, f d = some p → pok L (m + 2) p) (e : wi f n k kd d = some p) : pok L (m + 2) p := by
  have up : ∀ {p : List Int} {a : Nat}, a ≤ 2 → pok L a p → pok L (m + 2) p := fun ha h => pok_mono (by omega) h
  unfold wi at e
  split at e
  · exact hf p e
  split at e
  · have : p = [] := by
      rcases trm_cases h with ⟨i, rfl⟩ | ⟨s, rfl⟩ | ⟨ds, i, rfl, rfl, hl, hx⟩
      · simp only at e
        split at e
        · cases e
        · cases e; rfl
      · cases e; rfl
      · cases e; rfl
    rw [this]; exact pok_nil
  split at e
  · exact up (by decide) (entF_ok h e)
  split at e
  · exact up (by decide) (entF_ok h e)
  split at e
  · exact up (by decide) (entF_ok h e)
  split at e
  · exact up (by decide) (entF_ok h e)
  split at e
  · exact up (by decide) (entF_ok h e)
  exact up (by decide) (rowsF_ok h e)
theorem wis_ok {f : D → Option (List Int)} {n k m : Nat} {L j : Nat} : ∀ {ks : List Str} {ds : List D} {i : Nat} {p : List Int}, (∀ d ∈ ds, trm L j d ∧ ∀ p, f d = some p → pok L (m + 2) p) → i + ds.length ≤ L + 1 → wis f n k i ks ds = some p → pok L (m + 3) p
  | [], _, _, _, _, _, e => by simp [wis] at e
  | _ :: _, [], _, _, _, _, e => by simp [wis] at e
  | kd :: ks, d :: ds, i, p, h, hl, e => by
    rw [List.length_cons] at hl
    simp only [wis] at e
    split at e
    · rename_i q hq
      cases e
      exact pok_cons (by omega) (wi_ok (h d List.mem_cons_self).1 (h d List.mem_cons_self).2 hq)
    · exact wis_ok (fun x hx => h x (List.mem_cons_of_mem _ hx)) (by omega) e
theorem fa_ok {n k L : Nat} : ∀ {r j : Nat} {d : D} {p : List Int}, trm L j d → fa n k r d = some p → pok L (r + 2) p
  | 0, j, d, p, h, e => by simp [fa] at e; subst e; exact pok_nil
  | r + 1, j, d, p, h, e => by
    have nil : p = [] → pok L (r + 3) p := fun z => by rw [z]; exact pok_nil
    rcases trm_cases h with ⟨i, rfl⟩ | ⟨s, rfl⟩ | ⟨ds, i, rfl, rfl, hl, hx⟩
    · exact nil (by simp [fa] at e; exact e)
    · exact nil (by simp [fa] at e; exact e)
    · cases ds with
      | nil => exact nil (by simp [fa] at e; exact e)
      | cons x its =>
        rcases trm_cases (hx x List.mem_cons_self) with ⟨z, rfl⟩ | ⟨w, rfl⟩ | ⟨es, _, rfl, _, _, _⟩
        · exact nil (by simp [fa] at e; exact e)
        · simp only [fa] at e
          split at e
          · exact nil (by cases e; rfl)
          · rename_i ks hk
            split at e
            · split at e
              · exact nil (by cases e; rfl)
              · rw [List.length_cons] at hl
                exact wis_ok (fun y hy => ⟨hx y (List.mem_cons_of_mem _ hy), fun q hq => fa_ok (hx y (List.mem_cons_of_mem _ hy)) hq⟩) (by omega) e
            · exact nil (by cases e; rfl)
        · exact nil (by simp [fa] at e; exact e)
end LW
set_option Elab.async false
set_option linter.all false
set_option maxRecDepth 100000
set_option maxHeartbeats 4000000
namespace LW
open PySem PySem.Spec L2 DW PyProof.Rows
def topS (i : Nat) : Stmt := PySem.Challenge.pw_choosersrow_k03_wrong_aims.main.body.getD i (.Pass ⟨0, 0, 0, 0⟩)
local macro_rules | `(tactic| walk_at "wp") => `(tactic| try simp only [u_binX, u_invX, w_neB, u_methXN, u_makeSN, u_tupR1, u_lc2, u_iZM, w_zipLT, w_zipTL, u_cntL, u_lstR1O, u_fld, w_fld, w_someE, u_setF, u_methX, w_objE, u_makeS, u_sortSet, u_lstR1, u_iZipL, u_iEnL, u_idx, u_popAt, u_cntT, u_idxT, u_callF, w_maxL, w_minL, w_ixDc, w_inDc, w_repL, w_listLs, w_tplT, w_tplP, u_isE, w_isE, u_kitER, u_kitET, u_excE, u_xf, w_xf1, u_slS, u_raise1, u_iEn, w_listStr, w_lenStr, w_catStr, w_ixStr, w_inStr, w_strE, w_strI, w_strS, u_rest, cut_to, cut_from1, Int.zero_add, u_revT, w_repT, u_tupG, u_try, u_gPlain, u_gThen, u_gNil, u_yield, u_gWhile, u_while, u_isX, u_kitR, u_kitT, u_excOk, w_zipE, u_goalX, u_lc, rngD_len, Int.toNat_natCast, u_for, u_iT, u_iL, u_iR1, u_iR2, u_iZ, u_iS, w_lstE, dwipe, u_asg, u_asgS, u_ret, u_retN, u_if, u_next, u_break, u_cont, u_drop, u_raise, u_aug, u_var, u_c, u_op, u_un, u_test, u_and, u_or, u_not, u_yes, u_andV, u_orV, u_notV, u_ifE, u_chain, u_nil, u_cons, u_tup, u_lst, u_own, u_cb, u_call, u_callS, u_name, u_etup, u_enil, u_econs, u_sub, u_app, u_slT, u_slL, u_noPart, u_part, u_revL, ex_some, w_I0, w_I, w_uI, w_int, w_bl, w_isi, w_someb, w_eqI, w_neI, w_eqS, w_neS, w_lenT, w_lenL, w_lenS, w_tupL, w_tupT, w_ixT, w_ixL, w_ixS, w_catT, w_catL, w_all, w_any, w_min2, w_divmod, w_listS, w_listL, w_listT, w_isN, w_notN, w_tupE, w_intE, w_consE, w_hdE, w_cellS, w_set, at0, at1, at2, at3, i_tT, i_tI, i_tB, i_tS, i_nT, i_nI, i_nB, i_nS, i_iT, i_iI, i_iB, i_iS, i_bT, i_bI, i_bB, i_bS, i_sT, i_sI, i_sB, i_sS, v_itemsS, w_eqB, isNone, dstart, List.map, List.length, List.replicate, List.cons_append, List.nil_append, List.append_nil, List.getElem?_cons_zero, List.getElem?_cons_succ, List.set_cons_zero, List.set_cons_succ, ix40, ix42, ix43, true_implies, false_implies, and_true, true_and, Bool.not_true, Bool.not_false, decide_eq_true_eq, decide_eq_false_iff_not, List.length_map, Nat.reduceAdd, reduceCtorEq, v_ixH, v_items, v_itemsT, v_itemsL, v_len, v_tuple, v_list, v_listOwn, sset_same, sset_sset, Option.some.injEq, Cell.lst.injEq, Cell.frz.injEq, false_and, exists_false, or_false, false_or, exists_eq_left', ne_eq, not_false_eq_true, isTup, Bool.true_eq_false, Bool.false_eq_true])
local macro_rules | `(tactic| walk_at "wps") => `(tactic| try simp only [u_seq, u_binX, u_invX, w_neB, u_methXN, u_makeSN, u_tupR1, u_lc2, u_iZM, w_zipLT, w_zipTL, u_cntL, u_lstR1O, u_fld, w_fld, w_someE, u_setF, u_methX, w_objE, u_makeS, u_sortSet, u_lstR1, u_iZipL, u_iEnL, u_idx, u_popAt, u_cntT, u_idxT, u_callF, w_maxL, w_minL, w_ixDc, w_inDc, w_repL, w_listLs, w_tplT, w_tplP, u_isE, w_isE, u_kitER, u_kitET, u_excE, u_xf, w_xf1, u_slS, u_raise1, u_iEn, w_listStr, w_lenStr, w_catStr, w_ixStr, w_inStr, w_strE, w_strI, w_strS, u_rest, cut_to, cut_from1, Int.zero_add, u_revT, w_repT, u_tupG, u_try, u_gPlain, u_gThen, u_gNil, u_yield, u_gWhile, u_while, u_isX, u_kitR, u_kitT, u_excOk, w_zipE, u_goalX, u_lc, rngD_len, Int.toNat_natCast, u_for, u_iT, u_iL, u_iR1, u_iR2, u_iZ, u_iS, w_lstE, dwipe, u_asg, u_asgS, u_ret, u_retN, u_if, u_next, u_break, u_cont, u_drop, u_raise, u_aug, u_var, u_c, u_op, u_un, u_test, u_and, u_or, u_not, u_yes, u_andV, u_orV, u_notV, u_ifE, u_chain, u_nil, u_cons, u_tup, u_lst, u_own, u_cb, u_call, u_callS, u_name, u_etup, u_enil, u_econs, u_sub, u_app, u_slT, u_slL, u_noPart, u_part, u_revL, ex_some, w_I0, w_I, w_uI, w_int, w_bl, w_isi, w_someb, w_eqI, w_neI, w_eqS, w_neS, w_lenT, w_lenL, w_lenS, w_tupL, w_tupT, w_ixT, w_ixL, w_ixS, w_catT, w_catL, w_all, w_any, w_min2, w_divmod, w_listS, w_listL, w_listT, w_isN, w_notN, w_tupE, w_intE, w_consE, w_hdE, w_cellS, w_set, at0, at1, at2, at3, i_tT, i_tI, i_tB, i_tS, i_nT, i_nI, i_nB, i_nS, i_iT, i_iI, i_iB, i_iS, i_bT, i_bI, i_bB, i_bS, i_sT, i_sI, i_sB, i_sS, v_itemsS, w_eqB, isNone, dstart, List.map, List.length, List.replicate, List.cons_append, List.nil_append, List.append_nil, List.getElem?_cons_zero, List.getElem?_cons_succ, List.set_cons_zero, List.set_cons_succ, ix40, ix42, ix43, true_implies, false_implies, and_true, true_and, Bool.not_true, Bool.not_false, decide_eq_true_eq, decide_eq_false_iff_not, List.length_map, Nat.reduceAdd, reduceCtorEq, v_ixH, v_items, v_itemsT, v_itemsL, v_len, v_tuple, v_list, v_listOwn, sset_same, sset_sset, Option.some.injEq, Cell.lst.injEq, Cell.frz.injEq, false_and, exists_false, or_false, false_or, exists_eq_left', ne_eq, not_false_eq_true, isTup, Bool.true_eq_false, Bool.false_eq_true])
abbrev s_is_number : Stmt := topS 19
abbrev N_is_number : List Str := ["value"]
theorem sc_is_number : FnScope N_is_number ["value"] (defScope s_is_number) := ⟨rfl, rfl, rfl, by decide +kernel, rfl, by decide +kernel, by decide +kernel⟩
abbrev s_is_below : Stmt := topS 20
abbrev N_is_below : List Str := ["value", "limit"]
theorem sc_is_below : FnScope N_is_below ["value", "limit"] (defScope s_is_below) := ⟨rfl, rfl, rfl, by decide +kernel, rfl, by decide +kernel, by decide +kernel⟩
abbrev s_count_choices : Stmt := topS 31
abbrev N_count_choices : List Str := ["widths", "many", "width"]
theorem sc_count_choices : FnScope N_count_choices ["widths"] (defScope s_count_choices) := ⟨rfl, rfl, rfl, by decide +kernel, rfl, by decide +kernel, by decide +kernel⟩
abbrev s_has_outcomes : Stmt := topS 37
abbrev N_has_outcomes : List Str := ["outcomes"]
theorem sc_has_outcomes : FnScope N_has_outcomes ["outcomes"] (defScope s_has_outcomes) := ⟨rfl, rfl, rfl, by decide +kernel, rfl, by decide +kernel, by decide +kernel⟩
abbrev s_is_size : Stmt := topS 38
abbrev N_is_size : List Str := ["options", "outcomes"]
theorem sc_is_size : FnScope N_is_size ["options", "outcomes"] (defScope s_is_size) := ⟨rfl, rfl, rfl, by decide +kernel, rfl, by decide +kernel, by decide +kernel⟩
abbrev s_is_small : Stmt := topS 39
abbrev N_is_small : List Str := ["options", "outcomes"]
theorem sc_is_small : FnScope N_is_small ["options", "outcomes"] (defScope s_is_small) := ⟨rfl, rfl, rfl, by decide +kernel, rfl, by decide +kernel, by decide +kernel⟩
abbrev s_count_contexts : Stmt := topS 41
abbrev N_count_contexts : List Str := ["options", "outcomes"]
theorem sc_count_contexts : FnScope N_count_contexts ["options", "outcomes"] (defScope s_count_contexts) := ⟨rfl, rfl, rfl, by decide +kernel, rfl, by decide +kernel, by decide +kernel⟩
abbrev s_has_shape : Stmt := topS 46
abbrev N_has_shape : List Str := ["term"]
theorem sc_has_shape : FnScope N_has_shape ["term"] (defScope s_has_shape) := ⟨rfl, rfl, rfl, by decide +kernel, rfl, by decide +kernel, by decide +kernel⟩
abbrev s_wrong_numbers : Stmt := topS 49
abbrev N_wrong_numbers : List Str := ["item", "length", "limit", "index", "entry"]
theorem sc_wrong_numbers : FnScope N_wrong_numbers ["item", "length", "limit"] (defScope s_wrong_numbers) := ⟨rfl, rfl, rfl, by decide +kernel, rfl, by decide +kernel, by decide +kernel⟩
abbrev s_wrong_places : Stmt := topS 50
abbrev N_wrong_places : List Str := ["item", "options", "index", "entry"]
theorem sc_wrong_places : FnScope N_wrong_places ["item", "options"] (defScope s_wrong_places) := ⟨rfl, rfl, rfl, by decide +kernel, rfl, by decide +kernel, by decide +kernel⟩
abbrev s_wrong_ascending : Stmt := topS 51
abbrev N_wrong_ascending : List Str := ["item", "limit", "least", "index", "entry"]
theorem sc_wrong_ascending : FnScope N_wrong_ascending ["item", "limit"] (defScope s_wrong_ascending) := ⟨rfl, rfl, rfl, by decide +kernel, rfl, by decide +kernel, by decide +kernel⟩
abbrev s_wrong_rows : Stmt := topS 52
abbrev N_wrong_rows : List Str := ["item", "options", "outcomes", "index", "row", "path"]
theorem sc_wrong_rows : FnScope N_wrong_rows ["item", "options", "outcomes"] (defScope s_wrong_rows) := ⟨rfl, rfl, rfl, by decide +kernel, rfl, by decide +kernel, by decide +kernel⟩
abbrev s_wrong_item : Stmt := topS 48
abbrev N_wrong_item : List Str := ["kind", "item", "options", "outcomes", "depth"]
theorem sc_wrong_item : FnScope N_wrong_item ["kind", "item", "options", "outcomes", "depth"] (defScope s_wrong_item) := ⟨rfl, rfl, rfl, by decide +kernel, rfl, by decide +kernel, by decide +kernel⟩
abbrev s_wrong_aim : Stmt := topS 47
abbrev N_wrong_aim : List Str := ["term", "options", "outcomes", "depth", "place", "kind", "path"]
theorem sc_wrong_aim : FnScope N_wrong_aim ["term", "options", "outcomes", "depth"] (defScope s_wrong_aim) := ⟨rfl, rfl, rfl, by decide +kernel, rfl, by decide +kernel, by decide +kernel⟩
abbrev s_Aim___init__ : Stmt := clsS (topS 53) 0
abbrev N_Aim___init__ : List Str := ["self", "term", "options", "outcomes", "path"]
theorem sc_Aim___init__ : FnScope N_Aim___init__ ["self", "term", "options", "outcomes"] (defScope s_Aim___init__) := ⟨rfl, rfl, rfl, by decide +kernel, rfl, by decide +kernel, by decide +kernel⟩
abbrev s__law_start : Stmt := topS 55
abbrev N__law_start : List Str := ["_law_script", "_law_seed", "_law_k"]
theorem sc__law_start : FnScope N__law_start ["_law_script"] (defScope s__law_start) := ⟨rfl, rfl, rfl, by decide +kernel, rfl, by decide +kernel, by decide +kernel⟩
abbrev s__law_pick : Stmt := topS 56
abbrev N__law_pick : List Str := ["_law_state", "_law_limit", "_law_cell", "_law_mixed", "_law_rest"]
theorem sc__law_pick : FnScope N__law_pick ["_law_state", "_law_limit"] (defScope s__law_pick) := ⟨rfl, rfl, rfl, by decide +kernel, rfl, by decide +kernel, by decide +kernel⟩
abbrev s__law_same : Stmt := topS 57
abbrev N__law_same : List Str := ["_law_actual", "_law_due", "_law_p"]
theorem sc__law_same : FnScope N__law_same ["_law_actual", "_law_due"] (defScope s__law_same) := ⟨rfl, rfl, rfl, by decide +kernel, rfl, by decide +kernel, by decide +kernel⟩
abbrev s__law_contexts : Stmt := topS 58
abbrev N__law_contexts : List Str := ["_law_n", "_law_k", "_law_many", "_law_x"]
theorem sc__law_contexts : FnScope N__law_contexts ["_law_n", "_law_k"] (defScope s__law_contexts) := ⟨rfl, rfl, rfl, by decide +kernel, rfl, by decide +kernel, by decide +kernel⟩
abbrev s__law_some : Stmt := topS 59
abbrev N__law_some : List Str := ["_law_state", "_law_limit", "_law_x"]
theorem sc__law_some : FnScope N__law_some ["_law_state", "_law_limit"] (defScope s__law_some) := ⟨rfl, rfl, rfl, by decide +kernel, rfl, by decide +kernel, by decide +kernel⟩
abbrev s__law_places : Stmt := topS 60
abbrev N__law_places : List Str := ["_law_state", "_law_many", "_law_rest", "_law_k"]
theorem sc__law_places : FnScope N__law_places ["_law_state", "_law_many"] (defScope s__law_places) := ⟨rfl, rfl, rfl, by decide +kernel, rfl, by decide +kernel, by decide +kernel⟩
abbrev s__law_any_size : Stmt := topS 61
abbrev N__law_any_size : List Str := ["_law_state", "_law_k", "_law_how"]
theorem sc__law_any_size : FnScope N__law_any_size ["_law_state"] (defScope s__law_any_size) := ⟨rfl, rfl, rfl, by decide +kernel, rfl, by decide +kernel, by decide +kernel⟩
abbrev s__law_single : Stmt := topS 62
abbrev N__law_single : List Str := ["_law_state", "_law_n", "_law_k", "_law_words", "_law_word", "_law_r", "_law_p"]
theorem sc__law_single : FnScope N__law_single ["_law_state", "_law_n", "_law_k"] (defScope s__law_single) := ⟨rfl, rfl, rfl, by decide +kernel, rfl, by decide +kernel, by decide +kernel⟩
abbrev s__law_wrapped : Stmt := topS 63
abbrev N__law_wrapped : List Str := ["_law_state", "_law_term", "_law_n", "_law_k", "_law_word", "_law_beside", "_law_r"]
theorem sc__law_wrapped : FnScope N__law_wrapped ["_law_state", "_law_term", "_law_n", "_law_k"] (defScope s__law_wrapped) := ⟨rfl, rfl, rfl, by decide +kernel, rfl, by decide +kernel, by decide +kernel⟩
abbrev s__law_bent : Stmt := topS 64
abbrev N__law_bent : List Str := ["_law_state", "_law_part", "_law_n", "_law_k", "_law_how", "_law_turned", "_law_words"]
theorem sc__law_bent : FnScope N__law_bent ["_law_state", "_law_part", "_law_n", "_law_k"] (defScope s__law_bent) := ⟨rfl, rfl, rfl, by decide +kernel, rfl, by decide +kernel, by decide +kernel⟩
abbrev s__law_bent_term : Stmt := topS 65
abbrev N__law_bent_term : List Str := ["_law_state", "_law_term", "_law_n", "_law_k", "_law_path", "_law_part", "_law_level", "_law_p"]
theorem sc__law_bent_term : FnScope N__law_bent_term ["_law_state", "_law_term", "_law_n", "_law_k"] (defScope s__law_bent_term) := ⟨rfl, rfl, rfl, by decide +kernel, rfl, by decide +kernel, by decide +kernel⟩
abbrev s__law_replaced : Stmt := topS 66
abbrev N__law_replaced : List Str := ["_law_term", "_law_path", "_law_part", "_law_p"]
theorem sc__law_replaced : FnScope N__law_replaced ["_law_term", "_law_path", "_law_part"] (defScope s__law_replaced) := ⟨rfl, rfl, rfl, by decide +kernel, rfl, by decide +kernel, by decide +kernel⟩
abbrev s__law_near : Stmt := topS 67
abbrev N__law_near : List Str := ["_law_state", "_law_n", "_law_k", "_law_some_here", "_law_places_here", "_law_ranks", "_law_at", "_law_r", "_law_doubled", "_law_edge", "_law_near_here", "_law_many", "_law_rows", "_law_p", "_law_entry"]
theorem sc__law_near : FnScope N__law_near ["_law_state", "_law_n", "_law_k"] (defScope s__law_near) := ⟨rfl, rfl, rfl, by decide +kernel, rfl, by decide +kernel, by decide +kernel⟩
abbrev s__law_length : Stmt := topS 68
abbrev N__law_length : List Str := ["_law_word"]
theorem sc__law_length : FnScope N__law_length ["_law_word"] (defScope s__law_length) := ⟨rfl, rfl, rfl, by decide +kernel, rfl, by decide +kernel, by decide +kernel⟩
abbrev s__law_under : Stmt := topS 69
abbrev N__law_under : List Str := ["_law_at", "_law_fault_here"]
theorem sc__law_under : FnScope N__law_under ["_law_at", "_law_fault_here"] (defScope s__law_under) := ⟨rfl, rfl, rfl, by decide +kernel, rfl, by decide +kernel, by decide +kernel⟩
abbrev s__law_entries_fault : Stmt := topS 70
abbrev N__law_entries_fault : List Str := ["_law_item", "_law_length_here", "_law_limit", "_law_how", "_law_p"]
theorem sc__law_entries_fault : FnScope N__law_entries_fault ["_law_item", "_law_length_here", "_law_limit", "_law_how"] (defScope s__law_entries_fault) := ⟨rfl, rfl, rfl, by decide +kernel, rfl, by decide +kernel, by decide +kernel⟩
abbrev s__law_table_fault : Stmt := topS 71
abbrev N__law_table_fault : List Str := ["_law_rows", "_law_n", "_law_k", "_law_many", "_law_p", "_law_fault_here"]
theorem sc__law_table_fault : FnScope N__law_table_fault ["_law_rows", "_law_n", "_law_k"] (defScope s__law_table_fault) := ⟨rfl, rfl, rfl, by decide +kernel, rfl, by decide +kernel, by decide +kernel⟩
abbrev s__law_item_fault : Stmt := topS 72
abbrev N__law_item_fault : List Str := ["_law_term", "_law_n", "_law_k", "_law_level", "_law_word"]
theorem sc__law_item_fault : FnScope N__law_item_fault ["_law_term", "_law_n", "_law_k", "_law_level"] (defScope s__law_item_fault) := ⟨rfl, rfl, rfl, by decide +kernel, rfl, by decide +kernel, by decide +kernel⟩
abbrev s__law_fault : Stmt := topS 73
abbrev N__law_fault : List Str := ["_law_term", "_law_n", "_law_k", "_law_level", "_law_fault_here"]
theorem sc__law_fault : FnScope N__law_fault ["_law_term", "_law_n", "_law_k", "_law_level"] (defScope s__law_fault) := ⟨rfl, rfl, rfl, by decide +kernel, rfl, by decide +kernel, by decide +kernel⟩
abbrev s__law_made : Stmt := topS 74
abbrev N__law_made : List Str := ["_law_term", "_law_n", "_law_k", "e", "_law_aim", "_law_beside"]
theorem sc__law_made : FnScope N__law_made ["_law_term", "_law_n", "_law_k"] (defScope s__law_made) := ⟨rfl, rfl, rfl, by decide +kernel, rfl, by decide +kernel, by decide +kernel⟩
abbrev s__law_judged : Stmt := topS 75
abbrev N__law_judged : List Str := ["_law_term", "_law_n", "_law_k", "_law_fault_here"]
theorem sc__law_judged : FnScope N__law_judged ["_law_term", "_law_n", "_law_k"] (defScope s__law_judged) := ⟨rfl, rfl, rfl, by decide +kernel, rfl, by decide +kernel, by decide +kernel⟩
abbrev s_law : Stmt := topS 76
abbrev N_law : List Str := ["_law_script", "_law_state", "_law_size", "_law_n", "_law_k", "_law_term", "_law_step", "_law_bent_here", "_law_word", "_law_asked", "_law_wrong", "_law_pair"]
theorem sc_law : FnScope N_law ["_law_script"] (defScope s_law) := ⟨rfl, rfl, rfl, by decide +kernel, rfl, by decide +kernel, by decide +kernel⟩
set_option genInjectivity false in
structure Txt (P : Program) (w : World) (K : Fg) (mg : Str → Option Value) where
  f_is_number : Addr
  d_is_number : FuncData
  F_is_number : Fun K "is_number" "is_number" s_is_number f_is_number d_is_number
  g_is_number : mg "is_number" = some (.ref f_is_number)
  b_is_number : Binds K d_is_number ["value"] []
  f_is_below : Addr
  d_is_below : FuncData
  F_is_below : Fun K "is_below" "is_below" s_is_below f_is_below d_is_below
  g_is_below : mg "is_below" = some (.ref f_is_below)
  b_is_below : Binds K d_is_below ["value", "limit"] []
  f_count_choices : Addr
  d_count_choices : FuncData
  F_count_choices : Fun K "count_choices" "count_choices" s_count_choices f_count_choices d_count_choices
  g_count_choices : mg "count_choices" = some (.ref f_count_choices)
  b_count_choices : Binds K d_count_choices ["widths"] []
  f_has_outcomes : Addr
  d_has_outcomes : FuncData
  F_has_outcomes : Fun K "has_outcomes" "has_outcomes" s_has_outcomes f_has_outcomes d_has_outcomes
  g_has_outcomes : mg "has_outcomes" = some (.ref f_has_outcomes)
  b_has_outcomes : Binds K d_has_outcomes ["outcomes"] []
  f_is_size : Addr
  d_is_size : FuncData
  F_is_size : Fun K "is_size" "is_size" s_is_size f_is_size d_is_size
  g_is_size : mg "is_size" = some (.ref f_is_size)
  b_is_size : Binds K d_is_size ["options", "outcomes"] []
  f_is_small : Addr
  d_is_small : FuncData
  F_is_small : Fun K "is_small" "is_small" s_is_small f_is_small d_is_small
  g_is_small : mg "is_small" = some (.ref f_is_small)
  b_is_small : Binds K d_is_small ["options", "outcomes"] []
  f_count_contexts : Addr
  d_count_contexts : FuncData
  F_count_contexts : Fun K "count_contexts" "count_contexts" s_count_contexts f_count_contexts d_count_contexts
  g_count_contexts : mg "count_contexts" = some (.ref f_count_contexts)
  b_count_contexts : Binds K d_count_contexts ["options", "outcomes"] []
  f_has_shape : Addr
  d_has_shape : FuncData
  F_has_shape : Fun K "has_shape" "has_shape" s_has_shape f_has_shape d_has_shape
  g_has_shape : mg "has_shape" = some (.ref f_has_shape)
  b_has_shape : Binds K d_has_shape ["term"] []
  f_wrong_numbers : Addr
  d_wrong_numbers : FuncData
  F_wrong_numbers : Fun K "wrong_numbers" "wrong_numbers" s_wrong_numbers f_wrong_numbers d_wrong_numbers
  g_wrong_numbers : mg "wrong_numbers" = some (.ref f_wrong_numbers)
  b_wrong_numbers : Binds K d_wrong_numbers ["item", "length", "limit"] []
  f_wrong_places : Addr
  d_wrong_places : FuncData
  F_wrong_places : Fun K "wrong_places" "wrong_places" s_wrong_places f_wrong_places d_wrong_places
  g_wrong_places : mg "wrong_places" = some (.ref f_wrong_places)
  b_wrong_places : Binds K d_wrong_places ["item", "options"] []
  f_wrong_ascending : Addr
  d_wrong_ascending : FuncData
  F_wrong_ascending : Fun K "wrong_ascending" "wrong_ascending" s_wrong_ascending f_wrong_ascending d_wrong_ascending
  g_wrong_ascending : mg "wrong_ascending" = some (.ref f_wrong_ascending)
  b_wrong_ascending : Binds K d_wrong_ascending ["item", "limit"] []
  f_wrong_rows : Addr
  d_wrong_rows : FuncData
  F_wrong_rows : Fun K "wrong_rows" "wrong_rows" s_wrong_rows f_wrong_rows d_wrong_rows
  g_wrong_rows : mg "wrong_rows" = some (.ref f_wrong_rows)
  b_wrong_rows : Binds K d_wrong_rows ["item", "options", "outcomes"] []
  f_wrong_item : Addr
  d_wrong_item : FuncData
  F_wrong_item : Fun K "wrong_item" "wrong_item" s_wrong_item f_wrong_item d_wrong_item
  g_wrong_item : mg "wrong_item" = some (.ref f_wrong_item)
  b_wrong_item : Binds K d_wrong_item ["kind", "item", "options", "outcomes", "depth"] []
  f_wrong_aim : Addr
  d_wrong_aim : FuncData
  F_wrong_aim : Fun K "wrong_aim" "wrong_aim" s_wrong_aim f_wrong_aim d_wrong_aim
  g_wrong_aim : mg "wrong_aim" = some (.ref f_wrong_aim)
  b_wrong_aim : Binds K d_wrong_aim ["term", "options", "outcomes", "depth"] []
  f_Aim___init__ : Addr
  d_Aim___init__ : FuncData
  F_Aim___init__ : Fun K "__init__" "Aim.__init__" s_Aim___init__ f_Aim___init__ d_Aim___init__
  b_Aim___init__ : Binds K d_Aim___init__ ["self", "term", "options", "outcomes"] []
  f__law_start : Addr
  d__law_start : FuncData
  F__law_start : Fun K "_law_start" "_law_start" s__law_start f__law_start d__law_start
  g__law_start : mg "_law_start" = some (.ref f__law_start)
  b__law_start : Binds K d__law_start ["_law_script"] []
  f__law_pick : Addr
  d__law_pick : FuncData
  F__law_pick : Fun K "_law_pick" "_law_pick" s__law_pick f__law_pick d__law_pick
  g__law_pick : mg "_law_pick" = some (.ref f__law_pick)
  b__law_pick : Binds K d__law_pick ["_law_state", "_law_limit"] []
  f__law_same : Addr
  d__law_same : FuncData
  F__law_same : Fun K "_law_same" "_law_same" s__law_same f__law_same d__law_same
  g__law_same : mg "_law_same" = some (.ref f__law_same)
  b__law_same : Binds K d__law_same ["_law_actual", "_law_due"] []
  f__law_contexts : Addr
  d__law_contexts : FuncData
  F__law_contexts : Fun K "_law_contexts" "_law_contexts" s__law_contexts f__law_contexts d__law_contexts
  g__law_contexts : mg "_law_contexts" = some (.ref f__law_contexts)
  b__law_contexts : Binds K d__law_contexts ["_law_n", "_law_k"] []
  f__law_some : Addr
  d__law_some : FuncData
  F__law_some : Fun K "_law_some" "_law_some" s__law_some f__law_some d__law_some
  g__law_some : mg "_law_some" = some (.ref f__law_some)
  b__law_some : Binds K d__law_some ["_law_state", "_law_limit"] []
  f__law_places : Addr
  d__law_places : FuncData
  F__law_places : Fun K "_law_places" "_law_places" s__law_places f__law_places d__law_places
  g__law_places : mg "_law_places" = some (.ref f__law_places)
  b__law_places : Binds K d__law_places ["_law_state", "_law_many"] []
  f__law_any_size : Addr
  d__law_any_size : FuncData
  F__law_any_size : Fun K "_law_any_size" "_law_any_size" s__law_any_size f__law_any_size d__law_any_size
  g__law_any_size : mg "_law_any_size" = some (.ref f__law_any_size)
  b__law_any_size : Binds K d__law_any_size ["_law_state"] []
  f__law_single : Addr
  d__law_single : FuncData
  F__law_single : Fun K "_law_single" "_law_single" s__law_single f__law_single d__law_single
  g__law_single : mg "_law_single" = some (.ref f__law_single)
  b__law_single : Binds K d__law_single ["_law_state", "_law_n", "_law_k"] []
  f__law_wrapped : Addr
  d__law_wrapped : FuncData
  F__law_wrapped : Fun K "_law_wrapped" "_law_wrapped" s__law_wrapped f__law_wrapped d__law_wrapped
  g__law_wrapped : mg "_law_wrapped" = some (.ref f__law_wrapped)
  b__law_wrapped : Binds K d__law_wrapped ["_law_state", "_law_term", "_law_n", "_law_k"] []
  f__law_bent : Addr
  d__law_bent : FuncData
  F__law_bent : Fun K "_law_bent" "_law_bent" s__law_bent f__law_bent d__law_bent
  g__law_bent : mg "_law_bent" = some (.ref f__law_bent)
  b__law_bent : Binds K d__law_bent ["_law_state", "_law_part", "_law_n", "_law_k"] []
  f__law_bent_term : Addr
  d__law_bent_term : FuncData
  F__law_bent_term : Fun K "_law_bent_term" "_law_bent_term" s__law_bent_term f__law_bent_term d__law_bent_term
  g__law_bent_term : mg "_law_bent_term" = some (.ref f__law_bent_term)
  b__law_bent_term : Binds K d__law_bent_term ["_law_state", "_law_term", "_law_n", "_law_k"] []
  f__law_replaced : Addr
  d__law_replaced : FuncData
  F__law_replaced : Fun K "_law_replaced" "_law_replaced" s__law_replaced f__law_replaced d__law_replaced
  g__law_replaced : mg "_law_replaced" = some (.ref f__law_replaced)
  b__law_replaced : Binds K d__law_replaced ["_law_term", "_law_path", "_law_part"] []
  f__law_near : Addr
  d__law_near : FuncData
  F__law_near : Fun K "_law_near" "_law_near" s__law_near f__law_near d__law_near
  g__law_near : mg "_law_near" = some (.ref f__law_near)
  b__law_near : Binds K d__law_near ["_law_state", "_law_n", "_law_k"] []
  f__law_length : Addr
  d__law_length : FuncData
  F__law_length : Fun K "_law_length" "_law_length" s__law_length f__law_length d__law_length
  g__law_length : mg "_law_length" = some (.ref f__law_length)
  b__law_length : Binds K d__law_length ["_law_word"] []
  f__law_under : Addr
  d__law_under : FuncData
  F__law_under : Fun K "_law_under" "_law_under" s__law_under f__law_under d__law_under
  g__law_under : mg "_law_under" = some (.ref f__law_under)
  b__law_under : Binds K d__law_under ["_law_at", "_law_fault_here"] []
  f__law_entries_fault : Addr
  d__law_entries_fault : FuncData
  F__law_entries_fault : Fun K "_law_entries_fault" "_law_entries_fault" s__law_entries_fault f__law_entries_fault d__law_entries_fault
  g__law_entries_fault : mg "_law_entries_fault" = some (.ref f__law_entries_fault)
  b__law_entries_fault : Binds K d__law_entries_fault ["_law_item", "_law_length_here", "_law_limit", "_law_how"] []
  f__law_table_fault : Addr
  d__law_table_fault : FuncData
  F__law_table_fault : Fun K "_law_table_fault" "_law_table_fault" s__law_table_fault f__law_table_fault d__law_table_fault
  g__law_table_fault : mg "_law_table_fault" = some (.ref f__law_table_fault)
  b__law_table_fault : Binds K d__law_table_fault ["_law_rows", "_law_n", "_law_k"] []
  f__law_item_fault : Addr
  d__law_item_fault : FuncData
  F__law_item_fault : Fun K "_law_item_fault" "_law_item_fault" s__law_item_fault f__law_item_fault d__law_item_fault
  g__law_item_fault : mg "_law_item_fault" = some (.ref f__law_item_fault)
  b__law_item_fault : Binds K d__law_item_fault ["_law_term", "_law_n", "_law_k", "_law_level"] []
  f__law_fault : Addr
  d__law_fault : FuncData
  F__law_fault : Fun K "_law_fault" "_law_fault" s__law_fault f__law_fault d__law_fault
  g__law_fault : mg "_law_fault" = some (.ref f__law_fault)
  b__law_fault : Binds K d__law_fault ["_law_term", "_law_n", "_law_k", "_law_level"] []
  f__law_made : Addr
  d__law_made : FuncData
  F__law_made : Fun K "_law_made" "_law_made" s__law_made f__law_made d__law_made
  g__law_made : mg "_law_made" = some (.ref f__law_made)
  b__law_made : Binds K d__law_made ["_law_term", "_law_n", "_law_k"] []
  f__law_judged : Addr
  d__law_judged : FuncData
  F__law_judged : Fun K "_law_judged" "_law_judged" s__law_judged f__law_judged d__law_judged
  g__law_judged : mg "_law_judged" = some (.ref f__law_judged)
  b__law_judged : Binds K d__law_judged ["_law_term", "_law_n", "_law_k"] []
  f_law : Addr
  d_law : FuncData
  F_law : Fun K "law" "law" s_law f_law d_law
  g_law : mg "law" = some (.ref f_law)
  b_law : Binds K d_law ["_law_script"] []
  z_isinstance : mg "isinstance" = none
  z_int : mg "int" = none
  z_bool : mg "bool" = none
  z_all : mg "all" = none
  z_str : mg "str" = none
  z_len : mg "len" = none
  z_enumerate : mg "enumerate" = none
  z_tuple : mg "tuple" = none
  z_range : mg "range" = none
  z_list : mg "list" = none
  z_min : mg "min" = none
  z_any : mg "any" = none
  z_ValueError : mg "ValueError" = none
  g_LETTERS : ∃ t, mg "LETTERS" = some (.str "abcdefghijklmnopqrstuvwxyz" t)
  g_DIGITS : ∃ t, mg "DIGITS" = some (.str "0123456789" t)
  g_LONGEST_WORD : ∃ t, mg "LONGEST_WORD" = some (.int 12 t)
  g_LONGEST_NUMBER : ∃ t, mg "LONGEST_NUMBER" = some (.int 9 t)
  g_NUMBERS_END : ∃ t, mg "NUMBERS_END" = some (.int 1000000000 t)
  g_DEEPEST_TUPLE : ∃ t, mg "DEEPEST_TUPLE" = some (.int 30 t)
  g_MOST_OPTIONS : ∃ t, mg "MOST_OPTIONS" = some (.int 64 t)
  g_MOST_OUTCOMES : ∃ t, mg "MOST_OUTCOMES" = some (.int 4 t)
  g_MOST_SMALL_OPTIONS : ∃ t, mg "MOST_SMALL_OPTIONS" = some (.int 8 t)
  g_MOST_SMALL_CONTEXTS : ∃ t, mg "MOST_SMALL_CONTEXTS" = some (.int 256 t)
  g_DEEPEST_AIM : ∃ t, mg "DEEPEST_AIM" = some (.int 6 t)
  g_RANKS_END : ∃ t, mg "RANKS_END" = some (.int 10 t)
  c_OutOfRange : Addr
  g_OutOfRange : mg "OutOfRange" = some (.ref c_OutOfRange)
  c_InvalidAim : Addr
  g_InvalidAim : mg "InvalidAim" = some (.ref c_InvalidAim)
  c_InvalidGame : Addr
  g_InvalidGame : mg "InvalidGame" = some (.ref c_InvalidGame)
  c_InvalidQuery : Addr
  g_InvalidQuery : mg "InvalidQuery" = some (.ref c_InvalidQuery)
  c_InvalidContext : Addr
  g_InvalidContext : mg "InvalidContext" = some (.ref c_InvalidContext)
  c_SizeMismatch : Addr
  g_SizeMismatch : mg "SizeMismatch" = some (.ref c_SizeMismatch)
  c_TooLarge : Addr
  g_TooLarge : mg "TooLarge" = some (.ref c_TooLarge)
  c_InvalidTerm : Addr
  g_InvalidTerm : mg "InvalidTerm" = some (.ref c_InvalidTerm)
  c_ChoosersError : Addr
  g_ChoosersError : mg "ChoosersError" = some (.ref c_ChoosersError)
  fi_InvalidAim : Addr
  di_InvalidAim : FuncData
  ox_InvalidAim : OexC K c_InvalidAim
  ic_InvalidAim : PySem.W.findIn K (.ref c_InvalidAim) "__init__" = some (some (.ref fi_InvalidAim))
  ti_InvalidAim : PySem.W.typeIn K (.ref fi_InvalidAim) = some (.type "function")
  no_InvalidAim : PySem.W.findIn K (.ref c_InvalidAim) "path" = some none
  xf_InvalidAim : XfC K c_InvalidAim
  ec_InvalidAim : L2.ExcC K c_InvalidAim
  in_InvalidAim : ∀ {w : World} {base : Heap} {cx : CXT}, FnOk P w K mg base cx 1 fi_InvalidAim di_InvalidAim ["self", "path"] (spInit K c_InvalidAim "path" (okPath K))
  bi_InvalidAim : Binds K di_InvalidAim ["self", "path"] []
  i_InvalidAim_InvalidGame : PySem.W.kitOne K (.ref c_InvalidAim) (.ref c_InvalidGame) = some false
  i_InvalidAim_InvalidQuery : PySem.W.kitOne K (.ref c_InvalidAim) (.ref c_InvalidQuery) = some false
  i_InvalidAim_InvalidContext : PySem.W.kitOne K (.ref c_InvalidAim) (.ref c_InvalidContext) = some false
  i_InvalidAim_SizeMismatch : PySem.W.kitOne K (.ref c_InvalidAim) (.ref c_SizeMismatch) = some false
  i_InvalidAim_TooLarge : PySem.W.kitOne K (.ref c_InvalidAim) (.ref c_TooLarge) = some false
  i_InvalidAim_InvalidTerm : PySem.W.kitOne K (.ref c_InvalidAim) (.ref c_InvalidTerm) = some true
  i_InvalidAim_InvalidAim : PySem.W.kitOne K (.ref c_InvalidAim) (.ref c_InvalidAim) = some true
  i_InvalidAim_ValueError : PySem.W.kitOne K (.ref c_InvalidAim) (.type "ValueError") = some true
  i_InvalidAim_OutOfRange : PySem.W.kitOne K (.ref c_InvalidAim) (.ref c_OutOfRange) = some false
  m_InvalidAim_ChoosersError : PySem.W.exmOne K (.ref c_InvalidAim) (.ref c_ChoosersError) = some true
  x_OutOfRange : PySem.W.excIn K c_OutOfRange [.type "ValueError", .type "Exception", .type "BaseException", .type "object"] "ValueError.__new__" = true
  k_OutOfRange : PySem.W.keepIn K (.ref c_OutOfRange) = true
  e_OutOfRange : PySem.W.subIn K (.ref c_OutOfRange) (.type "BaseException") = some true
  t_OutOfRange : PySem.W.typeIn K (.ref c_OutOfRange) = some (.type "type")
  ec_OutOfRange : L2.ExcC K c_OutOfRange
  i_OutOfRange_InvalidGame : PySem.W.kitOne K (.ref c_OutOfRange) (.ref c_InvalidGame) = some false
  i_OutOfRange_InvalidQuery : PySem.W.kitOne K (.ref c_OutOfRange) (.ref c_InvalidQuery) = some false
  i_OutOfRange_InvalidContext : PySem.W.kitOne K (.ref c_OutOfRange) (.ref c_InvalidContext) = some false
  i_OutOfRange_SizeMismatch : PySem.W.kitOne K (.ref c_OutOfRange) (.ref c_SizeMismatch) = some false
  i_OutOfRange_TooLarge : PySem.W.kitOne K (.ref c_OutOfRange) (.ref c_TooLarge) = some false
  i_OutOfRange_InvalidTerm : PySem.W.kitOne K (.ref c_OutOfRange) (.ref c_InvalidTerm) = some false
  i_OutOfRange_InvalidAim : PySem.W.kitOne K (.ref c_OutOfRange) (.ref c_InvalidAim) = some false
  i_OutOfRange_ValueError : PySem.W.kitOne K (.ref c_OutOfRange) (.type "ValueError") = some true
  i_OutOfRange_OutOfRange : PySem.W.kitOne K (.ref c_OutOfRange) (.ref c_OutOfRange) = some true
  m_OutOfRange_ChoosersError : PySem.W.exmOne K (.ref c_OutOfRange) (.ref c_ChoosersError) = some true
  c_SHAPES : Addr
  g_SHAPES : mg "SHAPES" = some (.ref c_SHAPES)
  D_SHAPES : DictOk K w c_SHAPES [("any", .tup []), ("best", .tup [.str "ranks"]), ("second", .tup [.str "ranks"]), ("most", .tup []), ("fewest", .tup []), ("fixed", .tup []), ("like", .tup [.str "option"]), ("unlike", .tup [.str "option"]), ("among", .tup [.str "outcomes"]), ("only", .tup [.str "options"]), ("table", .tup [.str "rows"]), ("either", .tup [.str "aim", .str "aim"]), ("both", .tup [.str "aim", .str "aim"]), ("else", .tup [.str "aim", .str "aim"]), ("not", .tup [.str "aim"]), ("first", .tup [.str "aim"]), ("recode", .tup [.str "codes", .str "aim"]), ("reorder", .tup [.str "places", .str "aim"])]
  c_Aim : Addr
  g_Aim : mg "Aim" = some (.ref c_Aim)
  mk_Aim : Mk K c_Aim f_Aim___init__
  cls_Aim : Cls K c_Aim
  na_Aim_term : NoAttr K c_Aim "term"
  na_Aim_options : NoAttr K c_Aim "options"
  na_Aim_outcomes : NoAttr K c_Aim "outcomes"
section
variable {P : Program} {w : World} {K : Fg} {mg : Str → Option Value} {base : Heap}
def isI : D → Bool
  | .int _ => true
  | _ => false
/-- what a part of a term may be -/
def leaf3 (d : D) : Prop := (∃ i, d = .int i) ∨ (∃ s, d = .str s) ∨ ∃ ds, d = .tup ds
theorem trm_leaf {L j : Nat} {d : D} (h : trm L j d) : leaf3 d := by
  rcases trm_cases h with ⟨i, rfl⟩ | ⟨s, rfl⟩ | ⟨ds, i, rfl, _⟩
  · exact .inl ⟨i, rfl⟩
  · exact .inr (.inl ⟨s, rfl⟩)
  · exact .inr (.inr ⟨ds, rfl⟩)
def c_is_number : Con := fun ds μ Φ _ => ∃ d, ds = [d] ∧ leaf3 d ∧ Φ (.bl (isI d)) μ
theorem len_is_number {ds μ Φ Ψ} (h : c_is_number ds μ Φ Ψ) : ds.length = 1 := by obtain ⟨i, rfl, _⟩ := h; rfl
theorem w_is_number {d : D} {μ Φ Ψ} (hd : leaf3 d) : c_is_number [d] μ Φ Ψ = Φ (.bl (isI d)) μ := propext ⟨fun ⟨j, e, _, q⟩ => by cases e; exact q, fun q => ⟨d, rfl, hd, q⟩⟩
theorem ok_is_number {cx : CXT} (T : Txt P w K mg) : FnOk P w K mg base cx 1 T.f_is_number T.d_is_number ["value"] (spOf K c_is_number) := by
  refine def_okC T.F_is_number sc_is_number _ (fun ds μ Φ Ψ h => len_is_number h) (fun cdv A outer s H E B hW hr =>
    ⟨_, (pss_one (ps_ret (pe_and (pe_callB call_isi (by rfl) T.z_isinstance (by decide +kernel) (pa_cons (pv 0) (pa_cons (pe_bltn (v := .ty "int") rfl T.z_int (by decide +kernel) rfl) pa_nil))) (pe_one (pe_not (pe_callB call_isi (by rfl) T.z_isinstance (by decide +kernel) (pa_cons (pv 0) (pa_cons (pe_bltn (v := .ty "bool") rfl T.z_bool (by decide +kernel) rfl) pa_nil)))))))),
      (sRet (sAndV (sCB (rcIsi (T := "int")) (sCons sVar (sCons sHd sNil))) (sNotV (sCB (rcIsi (T := "bool")) (sCons sVar (sCons sHd sNil))))))⟩) (fun ds μ Φ Ψ h => ?hv)
  case hv =>
    obtain ⟨d, rfl, hd, h⟩ := h
    rcases hd with ⟨i, rfl⟩ | ⟨s, rfl⟩ | ⟨ds, rfl⟩
    all_goals walk_at "wps"
    all_goals exact ret_same h
def blw (m : Int) : D → Bool
  | .int i => decide (0 ≤ i ∧ i < m)
  | _ => false
def c_is_below : Con := fun ds μ Φ _ => ∃ d m, ds = [d, .int m] ∧ leaf3 d ∧ Φ (.bl (blw m d)) μ
theorem len_is_below {ds μ Φ Ψ} (h : c_is_below ds μ Φ Ψ) : ds.length = 2 := by obtain ⟨i, m, rfl, _⟩ := h; rfl
theorem w_is_below {d : D} {m μ Φ Ψ} (hd : leaf3 d) : c_is_below [d, .int m] μ Φ Ψ = Φ (.bl (blw m d)) μ := propext ⟨fun ⟨a, b, e, _, q⟩ => by cases e; exact q, fun q => ⟨d, m, rfl, hd, q⟩⟩
theorem ok_is_below (T : Txt P w K mg) : FnOk P w K mg base (L2N.CX P w) 2 T.f_is_below T.d_is_below ["value", "limit"] (spOf K c_is_below) := by
  refine def_okC T.F_is_below sc_is_below _ (fun ds μ Φ Ψ h => len_is_below h) (fun cdv A outer s H E B hW hr =>
    have tk : L2N.Takes (cxOf (L2N.CX P w) P w K mg base N_is_below "is_below" (defScope s_is_below) T.f_is_below cdv A outer s H E) (fun cls d _ H => E cls d H) := L2N.takes_of rfl rfl rfl rfl
    ⟨_, (pss_one (ps_ret (pe_and (pe_call (ok_is_number T) hr rfl T.g_is_number T.F_is_number.kp T.b_is_number .nil passN (pa_cons (pv 0) pa_nil)) (pe_one (pe_chain op_le op_lt pe_int (pv 0) (pv 1)))))),
      (sRet (sAndV (sCall (sCons sVar sNil)) (sChain roBl0 roBl0 sInt sVar sVar)))⟩) (fun ds μ Φ Ψ h => ?hv)
  case hv =>
    obtain ⟨d, m, rfl, hd, h⟩ := h
    walk_at "wps"
    simp only [w_is_number hd]
    rcases hd with ⟨i, rfl⟩ | ⟨s, rfl⟩ | ⟨ds, rfl⟩
    · simp only [isI]
      walk_at "wps"
      refine ⟨fun h1 => ret_same ?_, fun h1 => ret_same ?_⟩
      · simpa [blw, h1] using h
      · simpa [blw, h1] using h
    · simp only [isI]
      walk_at "wps"
      exact ret_same h
    · simp only [isI]
      walk_at "wps"
      exact ret_same h
def c_count_choices : Con := fun ds μ Φ _ => ∃ ws : List Int, ds = [.tup (ws.map .int)] ∧ (∀ i z, ws[i]? = some z → CMulX (prodI (ws.take i)) z) ∧ Φ (.int (prodI ws)) μ
theorem len_count_choices {ds μ Φ Ψ} (h : c_count_choices ds μ Φ Ψ) : ds.length = 1 := by obtain ⟨i, rfl, _⟩ := h; rfl
theorem ok_count_choices {cx : CXT} (T : Txt P w K mg) : FnOk P w K mg base cx 1 T.f_count_choices T.d_count_choices ["widths"] (spOf K c_count_choices) := by
  refine def_okC T.F_count_choices sc_count_choices _ (fun ds μ Φ Ψ h => len_count_choices h) (fun cdv A outer s H E B hW hr =>
    ⟨_, (pss_cons (ps_set (i := 1) sc_count_choices.nd rfl (Or.inl rfl) pe_int)
      (pss_cons (ps_for (passes_of rfl) rfl (pi_tup (pv 0)) (pg_name (i := 2) sc_count_choices.nd rfl (Or.inl rfl)) (pss_one (ps_set (i := 1) sc_count_choices.nd rfl (Or.inl rfl) (pe_op op_mulX (pv 1) (pv 2)))))
      (pss_one (ps_ret (pv 1))))),
      (sSeq (sAsg sInt sName)
      (sSeq (sFor (siT sVar) (fun _ _ _ => sName) (fun _ _ _ => (sAsg (sOp roInt sVar sVar) sName)))
      (sRet sVar)))⟩) (fun ds μ Φ Ψ h => ?hv)
  case hv =>
    obtain ⟨ws, rfl, hc, h⟩ := h
    walk_at "wps"
    refine ⟨fun i δ' μ' => μ' = μ ∧ ∃ x, δ' = [some (.tup (ws.map .int)), some (.int (prodI (ws.take i))), x], ⟨rfl, none, rfl⟩, ?_, ?_⟩
    · rintro i d δ' μ' hi ⟨rfl, x, rfl⟩
      obtain ⟨z, hz, rfl⟩ := mapI_get hi
      walk_at "wps"
      exact ⟨hc i z hz, _, by rw [prod_snoc hz]⟩
    · rintro δ' μ' ⟨rfl, x, rfl⟩
      rw [List.take_length]
      walk_at "wps"
      exact ret_same h
def c_has_outcomes : Con := fun ds μ Φ _ => ∃ i : Int, ds = [.int i] ∧ Φ (.bl (decide (1 ≤ i ∧ i ≤ 4))) μ
theorem len_has_outcomes {ds μ Φ Ψ} (h : c_has_outcomes ds μ Φ Ψ) : ds.length = 1 := by obtain ⟨i, rfl, _⟩ := h; rfl
theorem w_has_outcomes {i μ Φ Ψ} : c_has_outcomes [.int i] μ Φ Ψ = Φ (.bl (decide (1 ≤ i ∧ i ≤ 4))) μ := propext ⟨fun ⟨a, e, q⟩ => by cases e; exact q, fun q => ⟨i, rfl, q⟩⟩
theorem ok_has_outcomes {cx : CXT} (T : Txt P w K mg) : FnOk P w K mg base cx 1 T.f_has_outcomes T.d_has_outcomes ["outcomes"] (spOf K c_has_outcomes) := by
  refine def_okC T.F_has_outcomes sc_has_outcomes _ (fun ds μ Φ Ψ h => len_has_outcomes h) (fun cdv A outer s H E B hW hr =>
    ⟨_, (pss_one (ps_ret (pe_chain op_le op_le pe_int (pv 0) (pe_glob (v := .int 4) rfl T.g_MOST_OUTCOMES.choose_spec ⟨_, rfl⟩)))),
      (sRet (sChain roBl0 roBl0 sInt sVar sInt))⟩) (fun ds μ Φ Ψ h => ?hv)
  case hv =>
    obtain ⟨i, rfl, h⟩ := h
    walk_at "wps"
    refine ⟨fun h1 => ret_same ?_, fun h1 => ret_same ?_⟩
    · simpa [h1] using h
    · simpa [h1] using h
def c_is_size : Con := fun ds μ Φ _ => ∃ i j : Int, ds = [.int i, .int j] ∧ Φ (.bl (decide (1 ≤ i ∧ i ≤ 64 ∧ 1 ≤ j ∧ j ≤ 4))) μ
theorem len_is_size {ds μ Φ Ψ} (h : c_is_size ds μ Φ Ψ) : ds.length = 2 := by obtain ⟨i, j, rfl, _⟩ := h; rfl
theorem ok_is_size {cx : CXT} (T : Txt P w K mg) : FnOk P w K mg base cx 2 T.f_is_size T.d_is_size ["options", "outcomes"] (spOf K c_is_size) := by
  refine def_okC T.F_is_size sc_is_size _ (fun ds μ Φ Ψ h => len_is_size h) (fun cdv A outer s H E B hW hr =>
    ⟨_, (pss_one (ps_ret (pe_and (pe_chain op_le op_le pe_int (pv 0) (pe_glob (v := .int 64) rfl T.g_MOST_OPTIONS.choose_spec ⟨_, rfl⟩)) (pe_one (pe_call (ok_has_outcomes T) hr rfl T.g_has_outcomes T.F_has_outcomes.kp T.b_has_outcomes .nil passN (pa_cons (pv 1) pa_nil)))))),
      (sRet (sAndV (sChain roBl0 roBl0 sInt sVar sInt) (sCall (sCons sVar sNil))))⟩) (fun ds μ Φ Ψ h => ?hv)
  case hv =>
    obtain ⟨i, j, rfl, h⟩ := h
    walk_at "wps"
    simp only [w_has_outcomes]
    walk_at "wps"
    refine ⟨fun h1 => ⟨fun h2 => ret_same ?_, fun h2 => ret_same ?_⟩, fun h1 => ret_same ?_⟩
    · simpa [h1, h2] using h
    · simpa [h1, h2] using h
    · simpa [h1] using h
def c_count_contexts : Con := fun ds μ Φ _ => ∃ n k : Nat, ds = [.int n, .int k] ∧ n ≤ 8 ∧ k ≤ 4 ∧ 1 ≤ k ∧ Φ (.int ((k ^ n : Nat) : Int)) μ
theorem len_count_contexts {ds μ Φ Ψ} (h : c_count_contexts ds μ Φ Ψ) : ds.length = 2 := by obtain ⟨i, j, rfl, _⟩ := h; rfl
theorem w_count_choices {ws μ Φ Ψ} (h : WB ws) : (c_count_choices [.tup (ws.map .int)] μ Φ Ψ) = Φ (.int (prodI ws)) μ := propext ⟨fun ⟨us, e, _, q⟩ => by
  injection e with e _
  injection e with e
  have : ws = us := (List.map_inj_right (fun _ _ z => by cases z; rfl)).mp e
  rw [this]; exact q, fun q => ⟨ws, rfl, fun i z e => h.mul e, q⟩⟩
theorem ok_count_contexts {cx : CXT} (T : Txt P w K mg) : FnOk P w K mg base cx 2 T.f_count_contexts T.d_count_contexts ["options", "outcomes"] (spOf K c_count_contexts) := by
  refine def_okC T.F_count_contexts sc_count_contexts _ (fun ds μ Φ Ψ h => len_count_contexts h) (fun cdv A outer s H E B hW hr =>
    ⟨_, (pss_one (ps_ret (pe_call (ok_count_choices T) hr rfl T.g_count_choices T.F_count_choices.kp T.b_count_choices .nil passN (pa_cons (pe_op op_repA (pe_tupN (pa_cons (pv 1) pa_nil)) (pv 0)) pa_nil)))),
      (sRet (sCall (sCons (sOp roRepT (sTup (sCons sVar sNil)) sVar) sNil)))⟩) (fun ds μ Φ Ψ h => ?hv)
  case hv =>
    obtain ⟨n, k, rfl, hn, hk, hk1, h⟩ := h
    walk_at "wps"
    refine ⟨by omega, by omega, by omega, by omega, ?_⟩
    rw [repI, w_count_choices (WB_rep (by omega) hk1 hk), prodI_rep, ← Int.natCast_pow]
    exact ret_same h
def c_is_small : Con := fun ds μ Φ _ => ∃ n k : Nat, ds = [.int n, .int k] ∧ 1 ≤ n ∧ 1 ≤ k ∧ k ≤ 4 ∧ Φ (.bl (decide (n ≤ 8 ∧ k ^ n ≤ 256))) μ
theorem len_is_small {ds μ Φ Ψ} (h : c_is_small ds μ Φ Ψ) : ds.length = 2 := by obtain ⟨i, j, rfl, _⟩ := h; rfl
theorem ok_is_small {cx : CXT} (T : Txt P w K mg) : FnOk P w K mg base cx 3 T.f_is_small T.d_is_small ["options", "outcomes"] (spOf K c_is_small) := by
  refine def_okC T.F_is_small sc_is_small _ (fun ds μ Φ Ψ h => len_is_small h) (fun cdv A outer s H E B hW hr =>
    ⟨_, (pss_cons (ps_if (PW.pt (pw_or (pt_not (pt_chain op_le op_le pe_int (pv 0) (pe_glob (v := .int 8) rfl T.g_MOST_SMALL_OPTIONS.choose_spec ⟨_, rfl⟩))) (pw_or1 (pt_not (pt_val (pe_call (ok_has_outcomes T) (hr.mono (by decide)) rfl T.g_has_outcomes T.F_has_outcomes.kp T.b_has_outcomes .nil passN (pa_cons (pv 1) pa_nil))))))) (pss_one (ps_ret pe_bl)) pss_nil)
      (pss_one (ps_ret (pe_cmpR op_le (pe_call (ok_count_contexts T) hr rfl T.g_count_contexts T.F_count_contexts.kp T.b_count_contexts .nil passN (pa_cons (pv 0) (pa_cons (pv 1) pa_nil))) (pe_glob (v := .int 256) rfl T.g_MOST_SMALL_CONTEXTS.choose_spec ⟨_, rfl⟩) (nomark _))))),
      (sSeq (sIfS (sOr (sNot (sTest (sChain roBl0 roBl0 sInt sVar sInt))) (sNot (sB (sCall (sCons sVar sNil))))) (sRet sBl) sNext)
      (sRet (sOp roBl0 (sCall (sCons sVar (sCons sVar sNil))) sInt)))⟩) (fun ds μ Φ Ψ h => ?hv)
  case hv =>
    obtain ⟨n, k, rfl, hn, hk1, hk, h⟩ := h
    walk_at "wps"
    simp only [w_has_outcomes]
    walk_at "wps"
    refine ⟨fun _ => ⟨fun h2 => ret_same ?_, fun h2 => ⟨fun h3 => ?_, fun _ => ?_⟩⟩, fun h1 => absurd (by omega) h1⟩
    · have : ¬ n ≤ 8 := by simp at h2; omega
      simpa [this] using h
    · exfalso; simp at h3; omega
    · have h4 : n ≤ 8 := by simp at h2; omega
      refine ⟨n, k, rfl, h4, hk, hk1, ?_⟩
      walk_at "wps"
      refine ret_same ?_
      have e : (decide (((k ^ n : Nat) : Int) ≤ 256)) = decide (n ≤ 8 ∧ k ^ n ≤ 256) := decide_eq_decide.mpr ⟨fun z => ⟨h4, by omega⟩, fun z => by omega⟩
      rw [e]; exact h
theorem en_getD {es : List D} {i : Nat} {d : D} (h : ((List.range es.length).map fun (i : Nat) => D.pr [D.int (i : Int), es.getD i D.non])[i]? = some d) : ∃ z, es[i]? = some z ∧ d = .pr [.int i, z] := by
  rw [List.getElem?_map, Option.map_eq_some_iff] at h
  obtain ⟨j, hj, rfl⟩ := h
  obtain ⟨hj1, hj2⟩ := List.getElem?_eq_some_iff.mp hj
  simp at hj2
  subst hj2
  have hlt : i < es.length := by simpa using hj1
  exact ⟨es[i], List.getElem?_eq_getElem hlt, by rw [List.getD_eq_getElem?_getD, List.getElem?_eq_getElem hlt]; rfl⟩
def hsB : D → Bool
  | .tup (.str w :: its) => match sh w with
    | none => false
    | some ks => decide (its.length = ks.length)
  | _ => false
def c_has_shape : Con := fun ds μ Φ _ => ∃ L j d, ds = [d] ∧ trm L j d ∧ L ≤ 100000 ∧ Φ (.bl (hsB d)) μ
theorem len_has_shape {ds μ Φ Ψ} (h : c_has_shape ds μ Φ Ψ) : ds.length = 1 := by obtain ⟨_, _, _, rfl, _⟩ := h; rfl
theorem ok_has_shape {cx : CXT} (T : Txt P w K mg) : FnOk P w K mg base cx 1 T.f_has_shape T.d_has_shape ["term"] (spOf K c_has_shape) := by
  refine def_okC T.F_has_shape sc_has_shape _ (fun ds μ Φ Ψ h => len_has_shape h) (fun cdv A outer s H E B hW hr =>
    ⟨_, (pss_cons (ps_if (PW.pt (pw_or (pt_not (pt_val (pe_callB call_isi (by rfl) T.z_isinstance (by decide +kernel) (pa_cons (pv 0) (pa_cons (pe_bltn (v := .ty "tuple") rfl T.z_tuple (by decide +kernel) rfl) pa_nil))))) (pw_or1 (pt_cmpR op_eq (pe_callB call_len_seq (by rfl) T.z_len PySem.boot_len (pa_cons (pv 0) pa_nil)) pe_int (nomark _))))) (pss_one (ps_ret pe_bl)) pss_nil)
      (pss_cons (ps_if (PW.pt (pw_or (pt_not (pt_val (pe_callB call_isi (by rfl) T.z_isinstance (by decide +kernel) (pa_cons (pe_ix ix_tup (pv 0) pe_int (fun _ _ => rfl)) (pa_cons (pe_bltn (v := .ty "str") rfl T.z_str (by decide +kernel) rfl) pa_nil))))) (pw_or1 (pt_cmpR (op_notInKd T.D_SHAPES.kd) (pe_ix ix_tup (pv 0) pe_int (fun _ _ => rfl)) (pe_glob (v := .ref T.c_SHAPES) rfl T.g_SHAPES rfl) (by with_unfolding_all rfl))))) (pss_one (ps_ret pe_bl)) pss_nil)
      (pss_one (ps_ret (pe_cmpR op_eq (pe_callB call_len_seq (by rfl) T.z_len PySem.boot_len (pa_cons (pv 0) pa_nil)) (pe_op op_add (pe_callB call_len_seq (by rfl) T.z_len PySem.boot_len (pa_cons (pe_ix ix_kdict (pe_glob (v := .ref T.c_SHAPES) rfl T.g_SHAPES rfl) (pe_ix ix_tup (pv 0) pe_int (fun _ _ => rfl)) (fun _ _ => rfl)) pa_nil)) pe_int) (nomark _)))))),
      (sSeq (sIfS (sOr (sNot (sB (sCB (rcIsi (T := "tuple")) (sCons sVar (sCons sHd sNil))))) (sTest (sOp roEq (sCB rcLen (sCons sVar sNil)) sInt))) (sRet sBl) sNext)
      (sSeq (sIfS (sOr (sNot (sB (sCB (rcIsi (T := "str")) (sCons (sOp roIxT sVar sInt) (sCons sHd sNil))))) (sTest (sOp (roInD (neg := true) T.D_SHAPES) (sOp roIxT sVar sInt) sHd))) (sRet sBl) sNext)
      (sRet (sOp roEq (sCB rcLen (sCons sVar sNil)) (sOp roInt0 (sCB rcLen (sCons (sOp (roIxD T.D_SHAPES) sHd (sOp roIxT sVar sInt)) sNil)) sInt)))))⟩) (fun ds μ Φ Ψ h => ?hv)
  case hv =>
    obtain ⟨L, j, d, rfl, hd, hL, h⟩ := h
    rcases trm_cases hd with ⟨i, rfl⟩ | ⟨s, rfl⟩ | ⟨es, i, rfl, rfl, hl, hx⟩
    · walk_at "wps"
      exact ret_same h
    · walk_at "wps"
      exact ret_same h
    cases es with
    | nil =>
      walk_at "wps"
      exact ⟨fun _ => ret_same h, fun z => absurd rfl z⟩
    | cons x its =>
      rcases trm_cases (hx x List.mem_cons_self) with ⟨z, rfl⟩ | ⟨w', rfl⟩ | ⟨es, _, rfl, _, _, _⟩
      · walk_at "wps"
        exact ⟨fun _ => ret_same h, fun _ => ret_same h⟩
      · walk_at "wps"
        refine ⟨fun z => by omega, fun _ => ?_⟩
        have e := lookup_D w' tblK
        simp only [tblK, List.map_cons, List.map_nil] at e
        simp only [e]
        clear e
        have e2 : tblK.lookup w' = sh w' := rfl
        simp only [tblK] at e2
        simp only [e2]
        clear e2
        cases hk : sh w' with
        | none =>
          have : hsB (D.tup (D.str w' :: its)) = false := by unfold hsB; simp only [hk]
          rw [this] at h
          refine ⟨fun _ => ret_same h, fun z => ?_⟩
          simp at z
        | some ks =>
          have : hsB (D.tup (D.str w' :: its)) = decide (its.length = ks.length) := by unfold hsB; simp only [hk]
          rw [this] at h
          refine ⟨fun z => ?_, fun _ => ?_⟩
          · simp at z
          refine ⟨_, rfl, _, .tup _, ret_same ?_⟩
          have e3 : decide (((its.length + 1 : Nat) : Int) = ((ks.map D.str).length : Int) + 1) = decide (its.length = ks.length) := decide_eq_decide.mpr (by rw [List.length_map]; omega)
          rw [e3]
          exact h
      · walk_at "wps"
        exact ⟨fun _ => ret_same h, fun _ => ret_same h⟩
end
section
variable {P : Program} {w : World} {K : Fg} {mg : Str → Option Value} {base : Heap}
theorem ef_step {h : How} {lim : Int} {es : List D} {l : List Int} {i : Nat} {d : D} {X : Option Nat} (hi : es[i]? = some d) (hl : l.length = i) (e : ef h lim l (es.drop i) = X) :
    (∃ z, d = .int z ∧ (0 ≤ z ∧ z < lim) ∧ okH h l z = true ∧ ef h lim (l ++ [z]) (es.drop (i + 1)) = X) ∨ ((∀ z, d = .int z → ¬ ((0 ≤ z ∧ z < lim) ∧ okH h l z = true)) ∧ X = some i) := by
  obtain ⟨b1, b2⟩ := List.getElem?_eq_some_iff.mp hi
  rw [List.drop_eq_getElem_cons b1, b2] at e
  cases d with
  | int z =>
    simp only [ef] at e
    by_cases c : 0 ≤ z ∧ z < lim ∧ okH h l z = true
    · rw [if_pos c] at e
      exact .inl ⟨z, rfl, ⟨c.1, c.2.1⟩, c.2.2, e⟩
    · rw [if_neg c] at e
      refine .inr ⟨fun y hy => ?_, by rw [← e, hl]⟩
      cases hy
      exact fun q => c ⟨q.1.1, q.1.2, q.2⟩
  | _ => exact .inr ⟨nofun, by rw [← e, ← hl]; rfl⟩
theorem take_snocI {es : List D} {l : List Int} {i : Nat} {z : Int} (hi : es[i]? = some (.int z)) (e : es.take i = l.map .int) : es.take (i + 1) = (l ++ [z]).map .int := by
  rw [List.take_add_one, hi, e, List.map_append]; rfl
theorem entF_tup {h : How} {lim : Int} {es : List D} {o : Option Nat} (hl : ∀ m, o = some m → es.length = m) : entF h o lim (.tup es) = (ef h lim [] es).map fun (i : Nat) => [(i : Int)] := by
  simp only [entF]; rw [if_pos hl]
/-- the state of a walk over entries -/
structure EfAt (h : How) (lim : Int) (es : List D) (i : Nat) (l : List Int) : Prop where
  tk : es.take i = l.map .int
  ln : l.length = i
  ef : ef h lim l (es.drop i) = ef h lim [] es
theorem EfAt.zero {h : How} {lim : Int} {es : List D} : EfAt h lim es 0 [] := ⟨rfl, rfl, by rw [List.drop_zero]⟩
theorem EfAt.step {h : How} {lim : Int} {es : List D} {i : Nat} {l : List Int} {d : D} (s : EfAt h lim es i l) (hi : es[i]? = some d) :
    (∃ z, d = .int z ∧ (0 ≤ z ∧ z < lim) ∧ okH h l z = true ∧ EfAt h lim es (i + 1) (l ++ [z])) ∨ ((∀ z, d = .int z → ¬ ((0 ≤ z ∧ z < lim) ∧ okH h l z = true)) ∧ LW.ef h lim [] es = some i) := by
  rcases ef_step hi s.ln s.ef with ⟨z, rfl, h1, h2, h3⟩ | ⟨h1, h2⟩
  · exact .inl ⟨z, rfl, h1, h2, take_snocI hi s.tk, by rw [List.length_append, s.ln]; rfl, h3⟩
  · exact .inr ⟨h1, h2⟩
theorem EfAt.none {h : How} {lim : Int} {es : List D} {l : List Int} (s : EfAt h lim es es.length l) : LW.ef h lim [] es = none := by
  rw [← s.ef, List.drop_length]; rfl
def c_wrong_numbers : Con := fun ds μ Φ _ => ∃ (L j n : Nat) (lim : Int) (d : D), ds = [d, .int n, .int lim] ∧ trm L j d ∧ Φ (pd (entF .any (some n) lim d)) μ
theorem len_wrong_numbers {ds μ Φ Ψ} (h : c_wrong_numbers ds μ Φ Ψ) : ds.length = 3 := by obtain ⟨_, _, _, _, _, rfl, _⟩ := h; rfl
theorem ok_wrong_numbers (T : Txt P w K mg) : FnOk P w K mg base (L2N.CX P w) 3 T.f_wrong_numbers T.d_wrong_numbers ["item", "length", "limit"] (spOf K c_wrong_numbers) := by
  refine def_okC T.F_wrong_numbers sc_wrong_numbers _ (fun ds μ Φ Ψ h => len_wrong_numbers h) (fun cdv A outer s H E B hW hr =>
    have tk : L2N.Takes (cxOf (L2N.CX P w) P w K mg base N_wrong_numbers "wrong_numbers" (defScope s_wrong_numbers) T.f_wrong_numbers cdv A outer s H E) (fun cls d _ H => E cls d H) := L2N.takes_of rfl rfl rfl rfl
    ⟨_, (pss_cons (ps_if (PW.pt (pw_or (pt_not (pt_val (pe_callB call_isi (by rfl) T.z_isinstance (by decide +kernel) (pa_cons (pv 0) (pa_cons (pe_bltn (v := .ty "tuple") rfl T.z_tuple (by decide +kernel) rfl) pa_nil))))) (pw_or1 (pt_cmpR op_ne (pe_callB call_len_seq (by rfl) T.z_len PySem.boot_len (pa_cons (pv 0) pa_nil)) (pv 1) (nomark _))))) (pss_one (ps_ret (pe_tupN pa_nil))) pss_nil)
      (pss_cons (ps_for (passes_of rfl) rfl (pi_enumT (by rfl) T.z_enumerate (pa_cons (pv 0) pa_nil)) (pg_tup (n := 2) rfl (pgs_cons (pg_name (i := 3) sc_wrong_numbers.nd rfl (Or.inl rfl)) (pgs_cons (pg_name (i := 4) sc_wrong_numbers.nd rfl (Or.inl rfl)) pgs_nil))) (pss_one (ps_if (pt_not (pt_val (pe_call (ok_is_below T) hr rfl T.g_is_below T.F_is_below.kp T.b_is_below .nil passN (pa_cons (pv 4) (pa_cons (pv 2) pa_nil))))) (pss_one (ps_ret (pe_tupN (pa_cons (pv 3) pa_nil)))) pss_nil)))
      (pss_one (ps_ret pe_non)))),
      (sSeq (sIfS (sOr (sNot (sB (sCB (rcIsi (T := "tuple")) (sCons sVar (sCons sHd sNil))))) (sTest (sOp roNe (sCB rcLen (sCons sVar sNil)) sVar))) (sRet (sTup sNil)) sNext)
      (sSeq (sFor (siEnumT sVar) (fun _ _ _ => (sgTup (sgCons sName (sgCons sName sgNil)))) (fun _ _ _ => (sIfS (sNot (sB (sCall (sCons sVar (sCons sVar sNil))))) (sRet (sTup (sCons sVar sNil))) sNext)))
      (sRet sNon)))⟩) (fun ds μ Φ Ψ h => ?hv)
  case hv =>
    obtain ⟨L, j, n, lim, d, rfl, hd, h⟩ := h
    rcases trm_cases hd with ⟨i, rfl⟩ | ⟨s, rfl⟩ | ⟨es, j, rfl, rfl, hl, hx⟩
    · walk_at "wps"
      exact ⟨by decide, ret_same h⟩
    · walk_at "wps"
      exact ⟨by decide, ret_same h⟩
    walk_at "wps"
    refine ⟨fun z => ⟨by decide, ret_same ?_⟩, fun z => ?_⟩
    · have : ¬ (∀ m, some n = some m → es.length = m) := fun q => by have := q n rfl; simp at z; omega
      simp only [entF] at h
      rw [if_neg this] at h
      exact h
    have hn : es.length = n := by simp at z; omega
    have he := entF_tup (h := .any) (lim := lim) (es := es) (o := some n) (fun m hm => by cases hm; exact hn)
    rw [he] at h
    refine ⟨fun i δ' μ' => μ' = μ ∧ ∃ x y l, δ' = [some (.tup es), some (.int n), some (.int lim), x, y] ∧ EfAt .any lim es i l, ⟨rfl, _, _, _, rfl, .zero⟩, ?_, ?_⟩
    · rintro i d δ' μ' hi ⟨rfl, x, y, l, rfl, s⟩
      obtain ⟨z, hz, rfl⟩ := en_getD hi
      have hzl := trm_leaf (hx z (List.mem_of_getElem? hz))
      walk_at "wps"
      simp only [w_is_below hzl]
      rcases s.step hz with ⟨u, rfl, h1, h2, h3⟩ | ⟨h1, h2⟩
      · rw [show blw lim (.int u) = true from decide_eq_true h1]
        walk_at "wps"
        exact ⟨_, _, _, rfl, h3⟩
      · have : blw lim z = false := by
          cases z with
          | int u => exact decide_eq_false fun q => h1 u rfl ⟨q, rfl⟩
          | _ => rfl
        rw [this]
        rw [h2] at h
        walk_at "wps"
        exact ⟨by decide, ret_same h⟩
    · rintro δ' μ' ⟨rfl, x, y, l, rfl, s⟩
      rw [List.length_range] at s
      rw [s.none] at h
      exact ret_same h
def c_wrong_places : Con := fun ds μ Φ _ => ∃ (L j n : Nat) (d : D), ds = [d, .int n] ∧ trm L j d ∧ Φ (pd (entF .once (some n) n d)) μ
theorem len_wrong_places {ds μ Φ Ψ} (h : c_wrong_places ds μ Φ Ψ) : ds.length = 2 := by obtain ⟨_, _, _, _, rfl, _⟩ := h; rfl
theorem ok_wrong_places (T : Txt P w K mg) : FnOk P w K mg base (L2N.CX P w) 3 T.f_wrong_places T.d_wrong_places ["item", "options"] (spOf K c_wrong_places) := by
  refine def_okC T.F_wrong_places sc_wrong_places _ (fun ds μ Φ Ψ h => len_wrong_places h) (fun cdv A outer s H E B hW hr =>
    have tk : L2N.Takes (cxOf (L2N.CX P w) P w K mg base N_wrong_places "wrong_places" (defScope s_wrong_places) T.f_wrong_places cdv A outer s H E) (fun cls d _ H => E cls d H) := L2N.takes_of rfl rfl rfl rfl
    ⟨_, (pss_cons (ps_if (PW.pt (pw_or (pt_not (pt_val (pe_callB call_isi (by rfl) T.z_isinstance (by decide +kernel) (pa_cons (pv 0) (pa_cons (pe_bltn (v := .ty "tuple") rfl T.z_tuple (by decide +kernel) rfl) pa_nil))))) (pw_or1 (pt_cmpR op_ne (pe_callB call_len_seq (by rfl) T.z_len PySem.boot_len (pa_cons (pv 0) pa_nil)) (pv 1) (nomark _))))) (pss_one (ps_ret (pe_tupN pa_nil))) pss_nil)
      (pss_cons (ps_for (passes_of rfl) rfl (pi_enumT (by rfl) T.z_enumerate (pa_cons (pv 0) pa_nil)) (pg_tup (n := 2) rfl (pgs_cons (pg_name (i := 2) sc_wrong_places.nd rfl (Or.inl rfl)) (pgs_cons (pg_name (i := 3) sc_wrong_places.nd rfl (Or.inl rfl)) pgs_nil))) (pss_one (ps_if (PW.pt (pw_or (pt_not (pt_val (pe_call (ok_is_below T) hr rfl T.g_is_below T.F_is_below.kp T.b_is_below .nil passN (pa_cons (pv 3) (pa_cons (pv 1) pa_nil))))) (pw_or1 (pt_cmpR op_in_seq (pv 3) (pe_slice sl_tupN (pv 0) po_none (po_some (pv 2))) (by with_unfolding_all rfl))))) (pss_one (ps_ret (pe_tupN (pa_cons (pv 2) pa_nil)))) pss_nil)))
      (pss_one (ps_ret pe_non)))),
      (sSeq (sIfS (sOr (sNot (sB (sCB (rcIsi (T := "tuple")) (sCons sVar (sCons sHd sNil))))) (sTest (sOp roNe (sCB rcLen (sCons sVar sNil)) sVar))) (sRet (sTup sNil)) sNext)
      (sSeq (sFor (siEnumT sVar) (fun _ _ _ => (sgTup (sgCons sName (sgCons sName sgNil)))) (fun _ _ _ => (sIfS (sOr (sNot (sB (sCall (sCons sVar (sCons sVar sNil))))) (sTest (sOp (roIn (neg := false)) sVar (sSlT sVar sNoPart (sPart sVar))))) (sRet (sTup (sCons sVar sNil))) sNext)))
      (sRet sNon)))⟩) (fun ds μ Φ Ψ h => ?hv)
  case hv =>
    obtain ⟨L, j, n, d, rfl, hd, h⟩ := h
    rcases trm_cases hd with ⟨i, rfl⟩ | ⟨s, rfl⟩ | ⟨es, j, rfl, rfl, hl, hx⟩
    · walk_at "wps"
      exact ⟨by decide, ret_same h⟩
    · walk_at "wps"
      exact ⟨by decide, ret_same h⟩
    walk_at "wps"
    refine ⟨fun z => ⟨by decide, ret_same ?_⟩, fun z => ?_⟩
    · have : ¬ (∀ m, some n = some m → es.length = m) := fun q => by have := q n rfl; simp at z; omega
      simp only [entF] at h
      rw [if_neg this] at h
      exact h
    have hn : es.length = n := by simp at z; omega
    have he := entF_tup (h := .once) (lim := n) (es := es) (o := some n) (fun m hm => by cases hm; exact hn)
    rw [he] at h
    refine ⟨fun i δ' μ' => μ' = μ ∧ ∃ x y l, δ' = [some (.tup es), some (.int n), x, y] ∧ EfAt .once n es i l, ⟨rfl, _, _, _, rfl, .zero⟩, ?_, ?_⟩
    · rintro i d δ' μ' hi ⟨rfl, x, y, l, rfl, s⟩
      obtain ⟨z, hz, rfl⟩ := en_getD hi
      have hzl := trm_leaf (hx z (List.mem_of_getElem? hz))
      walk_at "wps"
      simp only [w_is_below hzl]
      by_cases hb : blw (n : Int) z = true
      · cases z with
        | int u =>
          rw [hb]
          walk_at "wps"
          rw [s.tk]
          rcases s.step hz with ⟨u', e, h1, h2, h3⟩ | ⟨h1, h2⟩
          · cases e
            have hc : l.contains u = false := by simpa [okH] using h2
            refine in_I ⟨_, rfl, ?_, fun _ => ⟨rfl, _, _, _, rfl, h3⟩⟩
            rw [hc]; nofun
          · have hc : l.contains u = true := by
              have := h1 u rfl
              by_cases q : l.contains u = true
              · exact q
              · exact absurd ⟨of_decide_eq_true hb, by simpa [okH] using q⟩ this
            rw [h2] at h
            refine in_I ⟨_, rfl, fun _ => ⟨by decide, ret_same h⟩, ?_⟩
            rw [hc]; nofun
        | _ => cases hb
      · have hb : blw (n : Int) z = false := by simpa using hb
        rw [hb]
        walk_at "wps"
        rcases s.step hz with ⟨u', rfl, h1, h2, h3⟩ | ⟨h1, h2⟩
        · exact absurd h1 (of_decide_eq_false hb)
        · rw [h2] at h
          exact ⟨by decide, ret_same h⟩
    · rintro δ' μ' ⟨rfl, x, y, l, rfl, s⟩
      rw [List.length_range] at s
      rw [s.none] at h
      exact ret_same h
def lstA (l : List Int) : Int := match l.getLast? with
  | none => 0
  | some j => j + 1
theorem lstA_snoc {l : List Int} {z : Int} : lstA (l ++ [z]) = z + 1 := by unfold lstA; rw [List.getLast?_concat]
theorem lstA_ok {l : List Int} {z : Int} (h0 : 0 ≤ z) : okH .rise l z = true ↔ lstA l ≤ z := by
  unfold lstA
  simp only [okH]
  cases l.getLast? with
  | none => exact ⟨fun _ => h0, fun _ => rfl⟩
  | some j => exact ⟨fun q => by have := of_decide_eq_true q; show j + 1 ≤ z; omega, fun q => decide_eq_true (by have : j + 1 ≤ z := q; omega)⟩
def c_wrong_ascending : Con := fun ds μ Φ _ => ∃ (L j : Nat) (lim : Int) (d : D), ds = [d, .int lim] ∧ trm L j d ∧ Φ (pd (entF .rise none lim d)) μ
theorem len_wrong_ascending {ds μ Φ Ψ} (h : c_wrong_ascending ds μ Φ Ψ) : ds.length = 2 := by obtain ⟨_, _, _, _, rfl, _⟩ := h; rfl
theorem ok_wrong_ascending (T : Txt P w K mg) : FnOk P w K mg base (L2N.CX P w) 3 T.f_wrong_ascending T.d_wrong_ascending ["item", "limit"] (spOf K c_wrong_ascending) := by
  refine def_okC T.F_wrong_ascending sc_wrong_ascending _ (fun ds μ Φ Ψ h => len_wrong_ascending h) (fun cdv A outer s H E B hW hr =>
    have tk : L2N.Takes (cxOf (L2N.CX P w) P w K mg base N_wrong_ascending "wrong_ascending" (defScope s_wrong_ascending) T.f_wrong_ascending cdv A outer s H E) (fun cls d _ H => E cls d H) := L2N.takes_of rfl rfl rfl rfl
    ⟨_, (pss_cons (ps_if (pt_not (pt_val (pe_callB call_isi (by rfl) T.z_isinstance (by decide +kernel) (pa_cons (pv 0) (pa_cons (pe_bltn (v := .ty "tuple") rfl T.z_tuple (by decide +kernel) rfl) pa_nil))))) (pss_one (ps_ret (pe_tupN pa_nil))) pss_nil)
      (pss_cons (ps_set (i := 2) sc_wrong_ascending.nd rfl (Or.inl rfl) pe_int)
      (pss_cons (ps_for (passes_of rfl) rfl (pi_enumT (by rfl) T.z_enumerate (pa_cons (pv 0) pa_nil)) (pg_tup (n := 2) rfl (pgs_cons (pg_name (i := 3) sc_wrong_ascending.nd rfl (Or.inl rfl)) (pgs_cons (pg_name (i := 4) sc_wrong_ascending.nd rfl (Or.inl rfl)) pgs_nil))) (pss_cons (ps_if (PW.pt (pw_or (pt_not (pt_val (pe_call (ok_is_below T) hr rfl T.g_is_below T.F_is_below.kp T.b_is_below .nil passN (pa_cons (pv 4) (pa_cons (pv 1) pa_nil))))) (pw_or1 (pt_cmpR op_lt (pv 4) (pv 2) (nomark _))))) (pss_one (ps_ret (pe_tupN (pa_cons (pv 3) pa_nil)))) pss_nil)
      (pss_one (ps_set (i := 2) sc_wrong_ascending.nd rfl (Or.inl rfl) (pe_op op_add (pv 4) pe_int)))))
      (pss_one (ps_ret pe_non))))),
      (sSeq (sIfS (sNot (sB (sCB (rcIsi (T := "tuple")) (sCons sVar (sCons sHd sNil))))) (sRet (sTup sNil)) sNext)
      (sSeq (sAsg sInt sName)
      (sSeq (sFor (siEnumT sVar) (fun _ _ _ => (sgTup (sgCons sName (sgCons sName sgNil)))) (fun _ _ _ => (sSeq (sIfS (sOr (sNot (sB (sCall (sCons sVar (sCons sVar sNil))))) (sTest (sOp roBl0 sVar sVar))) (sRet (sTup (sCons sVar sNil))) sNext)
      (sAsg (sOp roInt0 sVar sInt) sName))))
      (sRet sNon))))⟩) (fun ds μ Φ Ψ h => ?hv)
  case hv =>
    obtain ⟨L, j, n, d, rfl, hd, h⟩ := h
    rcases trm_cases hd with ⟨i, rfl⟩ | ⟨s, rfl⟩ | ⟨es, j, rfl, rfl, hl, hx⟩
    · walk_at "wps"
      exact ⟨by decide, ret_same h⟩
    · walk_at "wps"
      exact ⟨by decide, ret_same h⟩
    walk_at "wps"
    have he := entF_tup (h := .rise) (lim := n) (es := es) (o := none) nofun
    rw [he] at h
    refine ⟨fun i δ' μ' => μ' = μ ∧ ∃ x y l, δ' = [some (.tup es), some (.int n), some (.int (lstA l)), x, y] ∧ EfAt .rise n es i l, ⟨rfl, _, _, [], rfl, .zero⟩, ?_, ?_⟩
    · rintro i d δ' μ' hi ⟨rfl, x, y, l, rfl, s⟩
      obtain ⟨z, hz, rfl⟩ := en_getD hi
      have hzl := trm_leaf (hx z (List.mem_of_getElem? hz))
      walk_at "wps"
      simp only [w_is_below hzl]
      by_cases hb : blw n z = true
      · cases z with
        | int u =>
          rw [hb]
          walk_at "wps"
          have hu := of_decide_eq_true hb
          rcases s.step hz with ⟨u', e, h1, h2, h3⟩ | ⟨h1, h2⟩
          · cases e
            have := (lstA_ok h1.1).mp h2
            exact ⟨fun q => by omega, fun _ => ⟨_, _, l ++ [u], by rw [lstA_snoc], h3⟩⟩
          · have : ¬ lstA l ≤ u := fun q => h1 u rfl ⟨hu, (lstA_ok hu.1).mpr q⟩
            rw [h2] at h
            exact ⟨fun _ => ⟨by decide, ret_same h⟩, fun q => by omega⟩
        | _ => cases hb
      · have hb : blw n z = false := by simpa using hb
        rw [hb]
        walk_at "wps"
        rcases s.step hz with ⟨u', rfl, h1, h2, h3⟩ | ⟨h1, h2⟩
        · exact absurd h1 (of_decide_eq_false hb)
        · rw [h2] at h
          exact ⟨by decide, ret_same h⟩
    · rintro δ' μ' ⟨rfl, x, y, l, rfl, s⟩
      rw [List.length_range] at s
      rw [s.none] at h
      exact ret_same h
def c_wrong_rows : Con := fun ds μ Φ _ => ∃ (L j n k : Nat) (d : D), ds = [d, .int n, .int k] ∧ trm L j d ∧ L ≤ 100000 ∧ n ≤ 8 ∧ 1 ≤ k ∧ k ≤ 4 ∧ Φ (pd (rowsF n k d)) μ
theorem len_wrong_rows {ds μ Φ Ψ} (h : c_wrong_rows ds μ Φ Ψ) : ds.length = 3 := by obtain ⟨_, _, _, _, _, rfl, _⟩ := h; rfl
theorem rowsE_step {n : Nat} {rs : List D} {i : Nat} {d : D} {X : Option (List Int)} (hi : rs[i]? = some d) (e : rowsE n i (rs.drop i) = X) :
    (∃ p, entF .rise none n d = some p ∧ X = some ((i : Int) :: p)) ∨ (entF .rise none n d = none ∧ rowsE n (i + 1) (rs.drop (i + 1)) = X) := by
  obtain ⟨b1, b2⟩ := List.getElem?_eq_some_iff.mp hi
  rw [List.drop_eq_getElem_cons b1, b2] at e
  simp only [rowsE] at e
  cases hp : entF .rise none n d with
  | none => rw [hp] at e; exact .inr ⟨rfl, e⟩
  | some p => rw [hp] at e; exact .inl ⟨p, rfl, e.symm⟩
theorem ok_wrong_rows (T : Txt P w K mg) : FnOk P w K mg base (L2N.CX P w) 4 T.f_wrong_rows T.d_wrong_rows ["item", "options", "outcomes"] (spOf K c_wrong_rows) := by
  refine def_okC T.F_wrong_rows sc_wrong_rows _ (fun ds μ Φ Ψ h => len_wrong_rows h) (fun cdv A outer s H E B hW hr =>
    have tk : L2N.Takes (cxOf (L2N.CX P w) P w K mg base N_wrong_rows "wrong_rows" (defScope s_wrong_rows) T.f_wrong_rows cdv A outer s H E) (fun cls d _ H => E cls d H) := L2N.takes_of rfl rfl rfl rfl
    ⟨_, (pss_cons (ps_if (PW.pt (pw_or (pt_not (pt_val (pe_callB call_isi (by rfl) T.z_isinstance (by decide +kernel) (pa_cons (pv 0) (pa_cons (pe_bltn (v := .ty "tuple") rfl T.z_tuple (by decide +kernel) rfl) pa_nil))))) (pw_or1 (pt_cmpR op_ne (pe_callB call_len_seq (by rfl) T.z_len PySem.boot_len (pa_cons (pv 0) pa_nil)) (pe_call (ok_count_contexts T) (hr.mono (by decide)) rfl T.g_count_contexts T.F_count_contexts.kp T.b_count_contexts .nil passN (pa_cons (pv 1) (pa_cons (pv 2) pa_nil))) (nomark _))))) (pss_one (ps_ret (pe_tupN pa_nil))) pss_nil)
      (pss_cons (ps_for (passes_of rfl) rfl (pi_enumT (by rfl) T.z_enumerate (pa_cons (pv 0) pa_nil)) (pg_tup (n := 2) rfl (pgs_cons (pg_name (i := 3) sc_wrong_rows.nd rfl (Or.inl rfl)) (pgs_cons (pg_name (i := 4) sc_wrong_rows.nd rfl (Or.inl rfl)) pgs_nil))) (pss_cons (ps_set (i := 5) sc_wrong_rows.nd rfl (Or.inl rfl) (pe_call (ok_wrong_ascending T) hr rfl T.g_wrong_ascending T.F_wrong_ascending.kp T.b_wrong_ascending .nil passN (pa_cons (pv 4) (pa_cons (pv 1) pa_nil))))
      (pss_one (ps_if (pt_cmpR op_notN (pv 5) pe_non (nomark _)) (pss_one (ps_ret (pe_op op_catN (pe_tupN (pa_cons (pv 3) pa_nil)) (pv 5)))) pss_nil))))
      (pss_one (ps_ret pe_non)))),
      (sSeq (sIfS (sOr (sNot (sB (sCB (rcIsi (T := "tuple")) (sCons sVar (sCons sHd sNil))))) (sTest (sOp roNe (sCB rcLen (sCons sVar sNil)) (sCall (sCons sVar (sCons sVar sNil)))))) (sRet (sTup sNil)) sNext)
      (sSeq (sFor (siEnumT sVar) (fun _ _ _ => (sgTup (sgCons sName (sgCons sName sgNil)))) (fun _ _ _ => (sSeq (sAsg (sCall (sCons sVar (sCons sVar sNil))) sName)
      (sIfS (sTest (sOp roNotN sVar sNon)) (sRet (sOp roCatT (sTup (sCons sVar sNil)) sVar)) sNext))))
      (sRet sNon)))⟩) (fun ds μ Φ Ψ h => ?hv)
  case hv =>
    obtain ⟨L, j, n, k, d, rfl, hd, hL, hn8, hk1, hk, h⟩ := h
    rcases trm_cases hd with ⟨i, rfl⟩ | ⟨s, rfl⟩ | ⟨rs, j, rfl, rfl, hl, hx⟩
    · walk_at "wps"
      exact ⟨by decide, ret_same h⟩
    · walk_at "wps"
      exact ⟨by decide, ret_same h⟩
    walk_at "wps"
    refine ⟨n, k, rfl, hn8, hk, hk1, ?_⟩
    walk_at "wps"
    refine ⟨fun z => ⟨by decide, ret_same ?_⟩, fun z => ?_⟩
    · have : ¬ rs.length = k ^ n := fun q => by rw [q] at z; simp at z
      simp only [rowsF] at h
      rw [if_neg this] at h
      exact h
    have hn : rs.length = k ^ n := Classical.byContradiction fun q => by
      have : decide (((rs.length : Nat) : Int) = ((k ^ n : Nat) : Int)) = false := decide_eq_false (fun e => q (Int.ofNat.inj e))
      rw [this] at z; cases z
    have he : rowsF n k (.tup rs) = rowsE n 0 rs := by simp only [rowsF]; rw [if_pos hn]
    rw [he] at h
    refine ⟨fun i δ' μ' => μ' = μ ∧ ∃ x y q, δ' = [some (.tup rs), some (.int n), some (.int k), x, y, q] ∧ rowsE n i (rs.drop i) = rowsE n 0 rs, ⟨rfl, _, _, _, rfl, by rw [List.drop_zero]⟩, ?_, ?_⟩
    · rintro i d δ' μ' hi ⟨rfl, x, y, q, rfl, s⟩
      obtain ⟨z, hz, rfl⟩ := en_getD hi
      have hzl := hx z (List.mem_of_getElem? hz)
      walk_at "wps"
      refine ⟨L, j, n, z, rfl, hzl, ?_⟩
      rcases rowsE_step hz s with ⟨p, h1, h2⟩ | ⟨h1, h2⟩
      · rw [h1]
        simp only [pd]
        walk_at "wps"
        have hp := (entF_ok hzl h1).1
        rw [h2] at h
        exact ⟨by decide, by omega, ret_same h⟩
      · rw [h1]
        simp only [pd]
        walk_at "wps"
        exact ⟨_, _, _, rfl, h2⟩
    · rintro δ' μ' ⟨rfl, x, y, q, rfl, s⟩
      rw [List.length_range, List.drop_length] at s
      rw [← s] at h
      exact ret_same h
end
section
variable {P : Program} {w : World} {K : Fg} {mg : Str → Option Value} {base : Heap}
structure SzOk (n k : Nat) : Prop where
  n1 : 1 ≤ n
  n64 : n ≤ 64
  k1 : 1 ≤ k
  k4 : k ≤ 4
def kinds : List Str := ["aim", "option", "ranks", "codes", "places", "outcomes", "options", "rows"]
theorem wi_aim {f : D → Option (List Int)} {n k : Nat} {d : D} : wi f n k "aim" d = f d := by unfold wi; simp (config := { decide := true }) only [if_true, if_false, reduceIte]
theorem wi_option {f : D → Option (List Int)} {n k : Nat} {d : D} : wi f n k "option" d = if blw n d = true then none else some [] := by
  unfold wi
  rw [if_neg (by decide), if_pos (by decide)]
  cases d with
  | int i => simp only [blw]; by_cases c : 0 ≤ i ∧ i < (n : Int) <;> simp [c]
  | _ => rfl
theorem wi_ranks {f : D → Option (List Int)} {n k : Nat} {d : D} : wi f n k "ranks" d = entF .any (some k) 10 d := by unfold wi; simp (config := { decide := true }) only [if_true, if_false, reduceIte]
theorem wi_codes {f : D → Option (List Int)} {n k : Nat} {d : D} : wi f n k "codes" d = entF .any (some k) k d := by unfold wi; simp (config := { decide := true }) only [if_true, if_false, reduceIte]
theorem wi_places {f : D → Option (List Int)} {n k : Nat} {d : D} : wi f n k "places" d = entF .once (some n) n d := by unfold wi; simp (config := { decide := true }) only [if_true, if_false, reduceIte]
theorem wi_outcomes {f : D → Option (List Int)} {n k : Nat} {d : D} : wi f n k "outcomes" d = entF .rise none k d := by unfold wi; simp (config := { decide := true }) only [if_true, if_false, reduceIte]
theorem wi_options {f : D → Option (List Int)} {n k : Nat} {d : D} : wi f n k "options" d = entF .rise none n d := by unfold wi; simp (config := { decide := true }) only [if_true, if_false, reduceIte]
theorem wi_rows {f : D → Option (List Int)} {n k : Nat} {d : D} : wi f n k "rows" d = rowsF n k d := by unfold wi; simp (config := { decide := true }) only [if_true, if_false, reduceIte]
def c_wrong_item (m : Nat) : Con := fun ds μ Φ _ => ∃ (L j n k r : Nat) (kd : Str) (d : D), ds = [.str kd, d, .int n, .int k, .int (6 - (r : Int))] ∧ SzOk n k ∧ kd ∈ kinds ∧ (kd = "rows" → n ≤ 8) ∧ trm L j d ∧ L ≤ 100000 ∧ r ≤ 5 ∧ r + 2 ≤ m ∧ Φ (pd (wi (fa n k r) n k kd d)) μ
theorem len_wrong_item {m ds μ Φ Ψ} (h : c_wrong_item m ds μ Φ Ψ) : ds.length = 5 := by obtain ⟨_, _, _, _, _, _, _, rfl, _⟩ := h; rfl
def c_wrong_aim (m : Nat) : Con := fun ds μ Φ _ => ∃ (L j n k r : Nat) (d : D), ds = [d, .int n, .int k, .int (7 - (r : Int))] ∧ SzOk n k ∧ trm L j d ∧ L ≤ 100000 ∧ r ≤ 6 ∧ r + 1 ≤ m ∧ Φ (pd (fa n k r d)) μ
theorem len_wrong_aim {m ds μ Φ Ψ} (h : c_wrong_aim m ds μ Φ Ψ) : ds.length = 4 := by obtain ⟨_, _, _, _, _, _, rfl, _⟩ := h; rfl
theorem step_wrong_item (T : Txt P w K mg) {k : Nat} (hk : 4 ≤ k) (n : Nat) (ih_wrong_aim : FnOk P w K mg base (L2N.CX P w) k T.f_wrong_aim T.d_wrong_aim ["term", "options", "outcomes", "depth"] (spOf K (c_wrong_aim n))) : FnOk P w K mg base (L2N.CX P w) (k + 1) T.f_wrong_item T.d_wrong_item ["kind", "item", "options", "outcomes", "depth"] (spOf K (c_wrong_item (n + 1))) := by
  refine def_okC T.F_wrong_item sc_wrong_item _ (fun ds μ Φ Ψ h => len_wrong_item h) (fun cdv A outer s H E B hW hr =>
    have tk : L2N.Takes (cxOf (L2N.CX P w) P w K mg base N_wrong_item "wrong_item" (defScope s_wrong_item) T.f_wrong_item cdv A outer s H E) (fun cls d _ H => E cls d H) := L2N.takes_of rfl rfl rfl rfl
    ⟨_, (pss_cons (ps_if (pt_cmpR op_eq (pv 0) pe_str (nomark _)) (pss_one (ps_ret (pe_call ih_wrong_aim hr rfl T.g_wrong_aim T.F_wrong_aim.kp T.b_wrong_aim .nil passN (pa_cons (pv 1) (pa_cons (pv 2) (pa_cons (pv 3) (pa_cons (pe_op op_add (pv 4) pe_int) pa_nil))))))) pss_nil)
      (pss_cons (ps_if (pt_cmpR op_eq (pv 0) pe_str (nomark _)) (pss_one (ps_ret (pe_ifExp (pt_val (pe_call (ok_is_below T) (hr.mono (by omega)) rfl T.g_is_below T.F_is_below.kp T.b_is_below .nil passN (pa_cons (pv 1) (pa_cons (pv 2) pa_nil)))) pe_non (pe_tupN pa_nil)))) pss_nil)
      (pss_cons (ps_if (pt_cmpR op_eq (pv 0) pe_str (nomark _)) (pss_one (ps_ret (pe_call (ok_wrong_numbers T) (hr.mono (by omega)) rfl T.g_wrong_numbers T.F_wrong_numbers.kp T.b_wrong_numbers .nil passN (pa_cons (pv 1) (pa_cons (pv 3) (pa_cons (pe_glob (v := .int 10) rfl T.g_RANKS_END.choose_spec ⟨_, rfl⟩) pa_nil)))))) pss_nil)
      (pss_cons (ps_if (pt_cmpR op_eq (pv 0) pe_str (nomark _)) (pss_one (ps_ret (pe_call (ok_wrong_numbers T) (hr.mono (by omega)) rfl T.g_wrong_numbers T.F_wrong_numbers.kp T.b_wrong_numbers .nil passN (pa_cons (pv 1) (pa_cons (pv 3) (pa_cons (pv 3) pa_nil)))))) pss_nil)
      (pss_cons (ps_if (pt_cmpR op_eq (pv 0) pe_str (nomark _)) (pss_one (ps_ret (pe_call (ok_wrong_places T) (hr.mono (by omega)) rfl T.g_wrong_places T.F_wrong_places.kp T.b_wrong_places .nil passN (pa_cons (pv 1) (pa_cons (pv 2) pa_nil))))) pss_nil)
      (pss_cons (ps_if (pt_cmpR op_eq (pv 0) pe_str (nomark _)) (pss_one (ps_ret (pe_call (ok_wrong_ascending T) (hr.mono (by omega)) rfl T.g_wrong_ascending T.F_wrong_ascending.kp T.b_wrong_ascending .nil passN (pa_cons (pv 1) (pa_cons (pv 3) pa_nil))))) pss_nil)
      (pss_cons (ps_if (pt_cmpR op_eq (pv 0) pe_str (nomark _)) (pss_one (ps_ret (pe_call (ok_wrong_ascending T) (hr.mono (by omega)) rfl T.g_wrong_ascending T.F_wrong_ascending.kp T.b_wrong_ascending .nil passN (pa_cons (pv 1) (pa_cons (pv 2) pa_nil))))) pss_nil)
      (pss_one (ps_ret (pe_call (ok_wrong_rows T) (hr.mono (by omega)) rfl T.g_wrong_rows T.F_wrong_rows.kp T.b_wrong_rows .nil passN (pa_cons (pv 1) (pa_cons (pv 2) (pa_cons (pv 3) pa_nil))))))))))))),
      (sSeq (sIfS (sTest (sOp roEq sVar sStr)) (sRet (sCall (sCons sVar (sCons sVar (sCons sVar (sCons (sOp roInt0 sVar sInt) sNil)))))) sNext)
      (sSeq (sIfS (sTest (sOp roEq sVar sStr)) (sRet (sIf (sB (sCall (sCons sVar (sCons sVar sNil)))) sNon (sTup sNil))) sNext)
      (sSeq (sIfS (sTest (sOp roEq sVar sStr)) (sRet (sCall (sCons sVar (sCons sVar (sCons sInt sNil))))) sNext)
      (sSeq (sIfS (sTest (sOp roEq sVar sStr)) (sRet (sCall (sCons sVar (sCons sVar (sCons sVar sNil))))) sNext)
      (sSeq (sIfS (sTest (sOp roEq sVar sStr)) (sRet (sCall (sCons sVar (sCons sVar sNil)))) sNext)
      (sSeq (sIfS (sTest (sOp roEq sVar sStr)) (sRet (sCall (sCons sVar (sCons sVar sNil)))) sNext)
      (sSeq (sIfS (sTest (sOp roEq sVar sStr)) (sRet (sCall (sCons sVar (sCons sVar sNil)))) sNext)
      (sRet (sCall (sCons sVar (sCons sVar (sCons sVar sNil))))))))))))⟩) (fun ds μ Φ Ψ h => ?hv)
  case hv =>
    obtain ⟨L, j, nn, k, r, kd, d, rfl, hs, hk, hr8, hd, hL, hr5, hr, h⟩ := h
    simp only [kinds, List.mem_cons, List.not_mem_nil, or_false] at hk
    rcases hk with rfl | rfl | rfl | rfl | rfl | rfl | rfl | rfl
    all_goals walk_at "wps"
    all_goals simp (config := { decide := true }) only [false_implies, true_implies, and_true, true_and, w_is_below (trm_leaf hd)]
    · rw [wi_aim] at h
      exact ⟨L, j, nn, k, r, d, by rw [show (6 : Int) - (r : Int) + 1 = 7 - (r : Int) by omega], hs, hd, hL, by omega, by omega, ret_same h⟩
    · rw [wi_option] at h
      refine ⟨blw nn d, rfl, fun q => ret_same ?_, fun q => ret_same ?_⟩
      · rw [if_pos q] at h; exact h
      · rw [if_neg (by rw [q]; decide)] at h; exact h
    · rw [wi_ranks] at h
      exact ⟨L, j, k, 10, d, rfl, hd, ret_same h⟩
    · rw [wi_codes] at h
      exact ⟨L, j, k, k, d, rfl, hd, ret_same h⟩
    · rw [wi_places] at h
      exact ⟨L, j, nn, d, rfl, hd, ret_same h⟩
    · rw [wi_outcomes] at h
      exact ⟨L, j, k, d, rfl, hd, ret_same h⟩
    · rw [wi_options] at h
      exact ⟨L, j, nn, d, rfl, hd, ret_same h⟩
    · rw [wi_rows] at h
      exact ⟨L, j, nn, k, d, rfl, hd, hL, hr8 rfl, hs.k1, hs.k4, ret_same h⟩
theorem hsB_true {d : D} (h : hsB d = true) : ∃ w its ks, d = .tup (.str w :: its) ∧ sh w = some ks ∧ its.length = ks.length := by
  unfold hsB at h
  split at h
  · rename_i w its
    split at h
    · cases h
    · rename_i ks hk
      exact ⟨w, its, ks, rfl, hk, of_decide_eq_true h⟩
  · cases h
theorem fa_bad {n k r : Nat} {d : D} (h : hsB d = false) : fa n k r d = some [] := by
  cases r with
  | zero => rfl
  | succ r =>
    unfold hsB at h
    split at h
    · rename_i w its
      simp only [fa]
      split at h
      · rename_i hk
        first
          | rw [hk]
          | rfl
      · rename_i ks hk
        first
          | (rw [hk]; simp only; rw [if_neg (of_decide_eq_false h)])
          | rw [if_neg (of_decide_eq_false h)]
    · rename_i hh
      unfold fa
      split
      · rfl
      · rename_i r' w its e
        exact absurd rfl (hh w its)
      · rfl
theorem fa_good {n k r : Nat} {w : Str} {its : List D} {ks : List Str} (hk : sh w = some ks) (hl : its.length = ks.length) (hs : ¬ (w = "table" ∧ ¬ sml n k)) : fa n k (r + 1) (.tup (.str w :: its)) = wis (fa n k r) n k 1 ks its := by
  simp only [fa, hk]
  rw [if_pos hl, if_neg hs]
theorem fa_tab {n k r : Nat} {w : Str} {its : List D} {ks : List Str} (hk : sh w = some ks) (hs : w = "table" ∧ ¬ sml n k) : fa n k (r + 1) (.tup (.str w :: its)) = some [] := by
  simp only [fa, hk]
  by_cases hl : its.length = ks.length
  · rw [if_pos hl, if_pos hs]
  · rw [if_neg hl]
theorem wis_step {f : D → Option (List Int)} {n k : Nat} : ∀ {ks : List Str} {its : List D} {i s : Nat} {kd : Str} {x : D} {X : Option (List Int)}, ks[i]? = some kd → its[i]? = some x → wis f n k (s + i) (ks.drop i) (its.drop i) = X →
    (∃ p, wi f n k kd x = some p ∧ X = some (((s + i : Nat) : Int) :: p)) ∨ (wi f n k kd x = none ∧ wis f n k (s + (i + 1)) (ks.drop (i + 1)) (its.drop (i + 1)) = X) := by
  intro ks its i s kd x X h1 h2 e
  obtain ⟨a1, a2⟩ := List.getElem?_eq_some_iff.mp h1
  obtain ⟨b1, b2⟩ := List.getElem?_eq_some_iff.mp h2
  rw [List.drop_eq_getElem_cons a1, a2, List.drop_eq_getElem_cons b1, b2] at e
  simp only [wis] at e
  cases hp : wi f n k kd x with
  | none => rw [hp] at e; exact .inr ⟨rfl, e⟩
  | some p => rw [hp] at e; exact .inl ⟨p, rfl, e.symm⟩
theorem en_getK {ks : List Str} {i : Nat} {d : D} (h : ((List.range (ks.map D.str).length).map fun (i : Nat) => D.pr [D.int (1 + (i : Int)), (ks.map D.str).getD i D.non])[i]? = some d) : ∃ kd, ks[i]? = some kd ∧ d = .pr [.int (1 + (i : Int)), .str kd] := by
  rw [List.getElem?_map, Option.map_eq_some_iff] at h
  obtain ⟨j, hj, rfl⟩ := h
  obtain ⟨hj1, hj2⟩ := List.getElem?_eq_some_iff.mp hj
  simp at hj2
  subst hj2
  have hlt : i < ks.length := by simpa using hj1
  exact ⟨ks[i], List.getElem?_eq_getElem hlt, by simp [List.getD_eq_getElem?_getD, hlt]⟩
theorem kinds_ok : ∀ p ∈ tblK, ∀ kd ∈ p.2, kd ∈ kinds ∧ (kd = "rows" → p.1 = "table") := by decide
theorem kd_in {w : Str} {ks : List Str} {kd : Str} {i : Nat} (h : sh w = some ks) (hi : ks[i]? = some kd) : kd ∈ kinds ∧ (kd = "rows" → w = "table") := kinds_ok _ (lookup_mem h) _ (List.mem_of_getElem? hi)
theorem sh_D {w : Str} {ks : List Str} (h : sh w = some ks) : tblD.lookup w = some (.tup (ks.map .str)) := by
  unfold tblD; rw [lookup_D, show tblK.lookup w = some ks from h]; rfl
theorem step_wrong_aim (T : Txt P w K mg) {k : Nat} (hk : 4 ≤ k) (n : Nat) (ih_wrong_item : FnOk P w K mg base (L2N.CX P w) k T.f_wrong_item T.d_wrong_item ["kind", "item", "options", "outcomes", "depth"] (spOf K (c_wrong_item (n + 1)))) : FnOk P w K mg base (L2N.CX P w) (k + 1) T.f_wrong_aim T.d_wrong_aim ["term", "options", "outcomes", "depth"] (spOf K (c_wrong_aim (n + 1))) := by
  refine def_okC T.F_wrong_aim sc_wrong_aim _ (fun ds μ Φ Ψ h => len_wrong_aim h) (fun cdv A outer s H E B hW hr =>
    have tk : L2N.Takes (cxOf (L2N.CX P w) P w K mg base N_wrong_aim "wrong_aim" (defScope s_wrong_aim) T.f_wrong_aim cdv A outer s H E) (fun cls d _ H => E cls d H) := L2N.takes_of rfl rfl rfl rfl
    ⟨_, (pss_cons (ps_if (PW.pt (pw_or (pt_not (pt_val (pe_call (ok_has_shape T) (hr.mono (by omega)) rfl T.g_has_shape T.F_has_shape.kp T.b_has_shape .nil passN (pa_cons (pv 0) pa_nil)))) (pw_or1 (pt_cmpR op_gt (pv 3) (pe_glob (v := .int 6) rfl T.g_DEEPEST_AIM.choose_spec ⟨_, rfl⟩) (nomark _))))) (pss_one (ps_ret (pe_tupN pa_nil))) pss_nil)
      (pss_cons (ps_if (PW.pt (pw_and (pt_cmpR op_eq (pe_ix ix_tup (pv 0) pe_int (fun _ _ => rfl)) pe_str (nomark _)) (pw_and1 (pt_not (pt_val (pe_call (ok_is_small T) (hr.mono (by omega)) rfl T.g_is_small T.F_is_small.kp T.b_is_small .nil passN (pa_cons (pv 1) (pa_cons (pv 2) pa_nil)))))))) (pss_one (ps_ret (pe_tupN pa_nil))) pss_nil)
      (pss_cons (ps_for (passes_of rfl) rfl (pi_enumTk (n := 1) (by rfl) T.z_enumerate (pa_cons (pe_ix ix_kdict (pe_glob (v := .ref T.c_SHAPES) rfl T.g_SHAPES rfl) (pe_ix ix_tup (pv 0) pe_int (fun _ _ => rfl)) (fun _ _ => rfl)) pa_nil) (by decide) (by decide)) (pg_tup (n := 2) rfl (pgs_cons (pg_name (i := 4) sc_wrong_aim.nd rfl (Or.inl rfl)) (pgs_cons (pg_name (i := 5) sc_wrong_aim.nd rfl (Or.inl rfl)) pgs_nil))) (pss_cons (ps_set (i := 6) sc_wrong_aim.nd rfl (Or.inl rfl) (pe_call ih_wrong_item hr rfl T.g_wrong_item T.F_wrong_item.kp T.b_wrong_item .nil passN (pa_cons (pv 5) (pa_cons (pe_ix ix_tup (pv 0) (pv 4) (fun _ _ => rfl)) (pa_cons (pv 1) (pa_cons (pv 2) (pa_cons (pv 3) pa_nil)))))))
      (pss_one (ps_if (pt_cmpR op_notN (pv 6) pe_non (nomark _)) (pss_one (ps_ret (pe_op op_catN (pe_tupN (pa_cons (pv 4) pa_nil)) (pv 6)))) pss_nil))))
      (pss_one (ps_ret pe_non))))),
      (sSeq (sIfS (sOr (sNot (sB (sCall (sCons sVar sNil)))) (sTest (sOp roBl0 sVar sInt))) (sRet (sTup sNil)) sNext)
      (sSeq (sIfS (sAnd (sTest (sOp roEq (sOp roIxT sVar sInt) sStr)) (sNot (sB (sCall (sCons sVar (sCons sVar sNil)))))) (sRet (sTup sNil)) sNext)
      (sSeq (sFor (siEnumT (sOp (roIxD T.D_SHAPES) sHd (sOp roIxT sVar sInt))) (fun _ _ _ => (sgTup (sgCons sName (sgCons sName sgNil)))) (fun _ _ _ => (sSeq (sAsg (sCall (sCons sVar (sCons (sOp roIxT sVar sVar) (sCons sVar (sCons sVar (sCons sVar sNil)))))) sName)
      (sIfS (sTest (sOp roNotN sVar sNon)) (sRet (sOp roCatT (sTup (sCons sVar sNil)) sVar)) sNext))))
      (sRet sNon))))⟩) (fun ds μ Φ Ψ h => ?hv)
  case hv =>
    obtain ⟨L, j, nn, k, r, d, rfl, hs, hd, hL, hr6, hr, h⟩ := h
    have n1 := hs.n1
    have n64 := hs.n64
    have k1 := hs.k1
    have k4 := hs.k4
    refine seq_cut fun M hM => ?_
    walk_at "wp"
    refine ⟨L, j, d, rfl, hd, hL, ?_⟩
    cases hb : hsB d with
    | false =>
      rw [fa_bad hb] at h
      walk_at "wp"
      exact ⟨by decide, ret_same h⟩
    | true =>
      walk_at "wp"
      cases r with
      | zero => exact ⟨fun _ => ⟨by decide, ret_same h⟩, fun z => by simp at z⟩
      | succ r =>
        refine ⟨fun z => by simp at z; omega, fun _ => ?_⟩
        obtain ⟨w', its, ks, rfl, hsh, hlen⟩ := hsB_true hb
        have hlk := sh_D hsh
        simp only [tblD, tblK, List.map_cons, List.map_nil] at hlk
        obtain ⟨j, rfl⟩ : ∃ i, j = i + 1 := by cases j with
          | zero => simp [trm] at hd
          | succ i => exact ⟨i, rfl⟩
        have hx := hd.2
        have hll := hd.1
        rw [List.length_cons] at hll
        rw [hM]; clear hM M
        refine seq_cut fun M hM => ?_
        have rest : ¬ (w' = "table" ∧ ¬ sml nn k) → ∀ x y z : Option D, M [some (.tup (.str w' :: its)), some (.int nn), some (.int k), some (.int (7 - ((r + 1 : Nat) : Int))), x, y, z] μ := by
          intro hsm x y z
          rw [fa_good hsh hlen hsm] at h
          rw [hM]
          walk_at "wps"
          refine ⟨_, hlk, _, rfl, fun i δ' μ' => μ' = μ ∧ ∃ x y z, δ' = [some (.tup (.str w' :: its)), some (.int nn), some (.int k), some (.int (7 - ((r + 1 : Nat) : Int))), x, y, z] ∧ wis (fa nn k r) nn k (1 + i) (ks.drop i) (its.drop i) = wis (fa nn k r) nn k 1 ks its, ⟨rfl, _, _, _, rfl, rfl⟩, ?_, ?_⟩
          · rintro i d δ' μ' hi ⟨rfl, x, y, z, rfl, s⟩
            obtain ⟨kd, hki, rfl⟩ := en_getK hi
            have hil : i < its.length := by have := (List.getElem?_eq_some_iff.mp hki).1; omega
            have hit : its[i]? = some its[i] := List.getElem?_eq_getElem hil
            have hxi := hx its[i] (List.mem_cons_of_mem _ (List.getElem_mem hil))
            have hkd := kd_in hsh hki
            walk_at "wps"
            refine ⟨its[i], ?_, ?_⟩
            · have ei : (1 : Int) + (i : Int) = ((i + 1 : Nat) : Int) := by omega
              rw [ei]
              exact atI_nat (by rw [List.getElem?_cons_succ]; exact hit)
            · refine ⟨L, j, nn, k, r, kd, its[i], by rw [show (7 : Int) - ((r + 1 : Nat) : Int) = 6 - (r : Int) by omega], hs, hkd.1, fun e => (Classical.not_not.mp fun q => hsm ⟨hkd.2 e, q⟩).1, hxi, hL, by omega, by omega, ?_⟩
              rcases wis_step (s := 1) hki hit s with ⟨p, h1, h2⟩ | ⟨h1, h2⟩
              · rw [h1]
                simp only [pd]
                walk_at "wps"
                have hp := (wi_ok (m := r) hxi (fun p hp => fa_ok hxi hp) h1).1
                rw [h2] at h
                have ei : ((1 + i : Nat) : Int) = 1 + (i : Int) := by omega
                rw [ei] at h
                exact ⟨by decide, by omega, ret_same h⟩
              · rw [h1]
                simp only [pd]
                walk_at "wps"
                exact ⟨_, _, _, rfl, h2⟩
          · rintro δ' μ' ⟨rfl, x, y, z, rfl, s⟩
            rw [List.length_range, List.length_map, List.drop_length] at s
            rw [← s] at h
            exact ret_same h
        walk_at "wp"
        by_cases htab : w' = "table" ∧ ¬ sml nn k
        · rw [fa_tab hsh htab] at h
          refine ⟨fun _ => ⟨nn, k, rfl, n1, k1, k4, ?_⟩, fun z => absurd htab.1 z⟩
          rw [show decide (nn ≤ 8 ∧ k ^ nn ≤ 256) = false from decide_eq_false htab.2]
          walk_at "wp"
          exact ⟨by decide, ret_same h⟩
        · refine ⟨fun z => ⟨nn, k, rfl, n1, k1, k4, ?_⟩, fun z => rest htab _ _ _⟩
          rw [show decide (nn ≤ 8 ∧ k ^ nn ≤ 256) = true from decide_eq_true (Classical.not_not.mp fun q => htab ⟨z, q⟩)]
          walk_at "wp"
          exact rest htab _ _ _
end
section
variable {P : Program} {w : World} {K : Fg} {mg : Str → Option Value} {base : Heap}
theorem fn_never {P : Program} {w : World} {K : Fg} {mg : Str → Option Value} {base : Heap} {CX : CXT} {k : Nat} {f : Addr} {fd : FuncData} {ps : List Str} {c : Con} (h : ∀ ds μ Φ Ψ, ¬ c ds μ Φ Ψ) : FnOk P w K mg base CX k f fd ps (spOf K c) :=
  ⟨fun vs H Q E q => by obtain ⟨μ, ds, Φ, Ψ, _, _, hc, _⟩ := q; exact absurd hc (h _ _ _ _), fun A outer s H args us vs Q E _ _ _ _ q => by obtain ⟨μ, ds, Φ, Ψ, _, _, hc, _⟩ := q; exact absurd hc (h _ _ _ _)⟩
section
variable {P : Program} {w : World} {K : Fg} {mg : Str → Option Value} {base : Heap}
theorem okN_wrong_aim (T : Txt P w K mg) : ∀ n, FnOk P w K mg base (L2N.CX P w) (4 + 2 * n) T.f_wrong_aim T.d_wrong_aim ["term", "options", "outcomes", "depth"] (spOf K (c_wrong_aim n))
  | 0 => fn_never fun ds μ Φ Ψ ⟨_, _, _, _, _, _, _, _, _, _, _, h, _⟩ => by omega
  | n + 1 => step_wrong_aim T (k := 4 + 2 * n + 1) (by omega) n (step_wrong_item T (k := 4 + 2 * n) (by omega) n (okN_wrong_aim T n))
theorem ok_wrong_aim (T : Txt P w K mg) : FnOk P w K mg base (L2N.CX P w) 20 T.f_wrong_aim T.d_wrong_aim ["term", "options", "outcomes", "depth"] (spOf K (c_wrong_aim 7)) := (okN_wrong_aim T 7).mono (by decide)
end
def NSA : List Str := ["term", "options", "outcomes"]
def szB (n k : Int) : Prop := 1 ≤ n ∧ n ≤ 64 ∧ 1 ≤ k ∧ k ≤ 4
def c_Aim___init__ (C I O : Addr) : Con := fun ds μ Φ Ψ => ∃ (x : Addr) (L j : Nat) (n k : Int) (d : D), ds = [.hd (.ref x), d, .int n, .int k] ∧ trm L j d ∧ L ≤ 100000 ∧ μ x = some (.ins C [] []) ∧
  (¬ szB n k → Ψ (.mk O none) μ) ∧ (szB n k → fa n.toNat k.toNat 6 d = none → Φ .non (sset μ x (.ins C NSA [d, .int n, .int k]))) ∧ (szB n k → ∀ p, fa n.toNat k.toNat 6 d = some p → Ψ (.mk I (some (["path"], [.tup (p.map .int)]))) μ)
theorem len_Aim___init__ {C I O ds μ Φ Ψ} (h : c_Aim___init__ C I O ds μ Φ Ψ) : ds.length = 4 := by obtain ⟨_, _, _, _, _, _, rfl, _⟩ := h; rfl
theorem ok_Aim___init__ (T : Txt P w K mg) : FnOk P w K mg base (L2N.CX P w) 21 T.f_Aim___init__ T.d_Aim___init__ ["self", "term", "options", "outcomes"] (spOf K (c_Aim___init__ T.c_Aim T.c_InvalidAim T.c_OutOfRange)) := by
  refine def_okC T.F_Aim___init__ sc_Aim___init__ _ (fun ds μ Φ Ψ h => len_Aim___init__ h) (fun cdv A outer s H E B hW hr =>
    have tk : L2N.Takes (cxOf (L2N.CX P w) P w K mg base N_Aim___init__ "Aim.__init__" (defScope s_Aim___init__) T.f_Aim___init__ cdv A outer s H E) (fun cls d _ H => E cls d H) := L2N.takes_of rfl rfl rfl rfl
    ⟨_, (pss_cons (ps_if (pt_not (pt_val (pe_call (ok_is_size T) (hr.mono (by decide)) rfl T.g_is_size T.F_is_size.kp T.b_is_size .nil passN (pa_cons (pv 2) (pa_cons (pv 3) pa_nil))))) (pss_one (L2N.ps_raise rfl tk (L2N.pmk_own PySem.F.excBase_ValueError T.x_OutOfRange T.g_OutOfRange T.k_OutOfRange (raises_own T.e_OutOfRange T.t_OutOfRange) rfl))) pss_nil)
      (pss_cons (ps_set (i := 4) sc_Aim___init__.nd rfl (Or.inl rfl) (pe_call (ok_wrong_aim T) hr rfl T.g_wrong_aim T.F_wrong_aim.kp T.b_wrong_aim .nil passN (pa_cons (pv 1) (pa_cons (pv 2) (pa_cons (pv 3) (pa_cons pe_int pa_nil))))))
      (pss_cons (ps_if (pt_cmpR op_notN (pv 4) pe_non (nomark _)) (pss_one (L2N.ps_raise rfl tk (pmk_sup T.ox_InvalidAim T.ic_InvalidAim T.ti_InvalidAim T.no_InvalidAim T.in_InvalidAim (hr.mono (by decide)) T.bi_InvalidAim passN rfl T.g_InvalidAim (pa_cons (pv 4) pa_nil)))) pss_nil)
      (pss_cons (ps_fld (pv 0) (pv 1) rfl)
      (pss_cons (ps_fld (pv 0) (pv 2) rfl)
      (pss_one (ps_fld (pv 0) (pv 3) rfl))))))),
      (sSeq (sIfS (sNot (sB (sCall (sCons sVar (sCons sVar sNil))))) (sRaise0W (W := fun cls d _ H => E cls d H) (C := T.c_OutOfRange) (by exact hW)) sNext)
      (sSeq (sAsg (sCall (sCons sVar (sCons sVar (sCons sVar (sCons sInt sNil))))) sName)
      (sSeq (sIfS (sTest (sOp roNotN sVar sNon)) (sRaise1 (W := fun cls d _ H => E cls d H) (C := T.c_InvalidAim) (fld := "path") (by exact hW) okdPath_ok sVar) sNext)
      (sSeq (sSetF T.cls_Aim T.na_Aim_term sVar sVar)
      (sSeq (sSetF T.cls_Aim T.na_Aim_options sVar sVar)
      (sSetF T.cls_Aim T.na_Aim_outcomes sVar sVar))))))⟩) (fun ds μ Φ Ψ h => ?hv)
  case hv =>
    obtain ⟨x, L, j, n, k, d, rfl, hd, hL, hx, h0, h1, h2⟩ := h
    walk_at "wps"
    refine ⟨n, k, rfl, ?_⟩
    by_cases hs : szB n k
    · rw [decide_eq_true (show (1 : Int) ≤ n ∧ n ≤ 64 ∧ (1 : Int) ≤ k ∧ k ≤ 4 from hs)]
      have hs' : SzOk n.toNat k.toNat := ⟨by have := hs.1; omega, by have := hs.2.1; omega, by have := hs.2.2.1; omega, by have := hs.2.2.2; omega⟩
      have en : ((n.toNat : Nat) : Int) = n := by have := hs.1; omega
      have ek : ((k.toNat : Nat) : Int) = k := by have := hs.2.2.1; omega
      walk_at "wps"
      refine ⟨L, j, n.toNat, k.toNat, 6, d, by rw [en, ek]; rfl, hs', hd, hL, by decide, by decide, ?_⟩
      cases hp : fa n.toNat k.toNat 6 d with
      | none =>
        simp only [pd]
        walk_at "wps"
        refine ⟨x, [], [], rfl, hx, by decide, by decide, x, _, _, rfl, sset_same, by decide, by decide, x, _, _, rfl, sset_same, by decide, by decide, ?_⟩
        rw [sset_sset, sset_sset]
        exact ret_same (h1 hs hp)
      | some p =>
        simp only [pd]
        walk_at "wps"
        have hk := fa_ok hd hp
        exact ⟨⟨p, rfl, fun i hm => Nat.lt_of_lt_of_le (PySem.Flt.log2_lt_of (n := i.natAbs) (by decide : 0 < 100) (by have := hk.2 i hm; omega)) (by decide), by have := hk.1; omega⟩, μ, Sub.refl, h2 hs p hp⟩
    · rw [decide_eq_false (show ¬ ((1 : Int) ≤ n ∧ n ≤ 64 ∧ (1 : Int) ≤ k ∧ k ≤ 4) from hs)]
      walk_at "wps"
      exact ⟨_, Sub.refl, h0 hs⟩
end
section
variable {P : Program} {w : World} {K : Fg} {mg : Str → Option Value} {base : Heap}
structure StC (ns : List Int) (c : List D) : Prop where
  ex : ∃ seed idx rest : Int, c = [.int seed, .lst (ns.map .int), .int idx, .int rest] ∧ 0 ≤ seed ∧ seed < 2147483647 ∧ 0 ≤ idx ∧ 0 ≤ rest
def c__law_pick : Con := fun ds μ Φ _ => ∃ st ns c n, ds = [.hd (.ref st), .int n] ∧ μ st = some (.lst c) ∧ StC ns c ∧ 0 < n ∧ n.natAbs.log2 < 9000 ∧ ∀ r c', 0 ≤ r → r < n → StC ns c' → Φ (.int r) (sset μ st (.lst c'))
theorem len__law_pick {ds μ Φ Ψ} (h : c__law_pick ds μ Φ Ψ) : ds.length = 2 := by obtain ⟨i, _, _, _, rfl, _⟩ := h; rfl
theorem pick_cell {ns : List Int} {idx : Int} {P : D → Prop} (h0 : 0 ≤ idx) (h1 : idx < ns.length) (k : ∀ z, P (.int z)) : ∃ d, atI (ns.map D.int) idx = some d ∧ P d := by
  obtain ⟨j, rfl⟩ : ∃ j : Nat, idx = (j : Int) := ⟨idx.toNat, by omega⟩
  have hj : j < ns.length := by omega
  exact ⟨.int ns[j], atI_nat (by rw [List.getElem?_map, List.getElem?_eq_getElem hj]; rfl), k _⟩
theorem ok__law_pick {cx : CXT} (T : Txt P w K mg) : FnOk P w K mg base cx 1 T.f__law_pick T.d__law_pick ["_law_state", "_law_limit"] (spOf K c__law_pick) := by
  refine def_okC T.F__law_pick sc__law_pick _ (fun ds μ Φ Ψ h => len__law_pick h) (fun cdv A outer s H E B hW hr =>
    ⟨_, (pss_cons (ps_if (pt_cmpR op_ge (pe_ix ix_list (pv 0) pe_int (fun _ _ => rfl)) (pv 1) (nomark _)) (pss_cons (ps_set (i := 4) sc__law_pick.nd rfl (Or.inl rfl) (pe_callTy call_int1 (by rfl) T.z_int (by decide +kernel) (pa_cons (pe_ix ix_list (pv 0) pe_int (fun _ _ => rfl)) pa_nil)))
      (pss_cons (ps_asg (pe_op op_fdivW (pv 4) (pv 1)) (pg_sub (pv 0) pe_int set_list))
      (pss_one (ps_ret (pe_op op_mod (pv 4) (pv 1)))))) pss_nil)
      (pss_cons (ps_set (i := 2) sc__law_pick.nd rfl (Or.inl rfl) pe_int)
      (pss_cons (ps_if (pt_cmpR op_lt (pe_ix ix_list (pv 0) pe_int (fun _ _ => rfl)) (pe_callB call_len_seq (by rfl) T.z_len PySem.boot_len (pa_cons (pe_ix ix_list (pv 0) pe_int (fun _ _ => rfl)) pa_nil)) (nomark _)) (pss_cons (ps_set (i := 2) sc__law_pick.nd rfl (Or.inl rfl) (pe_callTy call_int1 (by rfl) T.z_int (by decide +kernel) (pa_cons (pe_ix ix_list (pe_ix ix_list (pv 0) pe_int (fun _ _ => rfl)) (pe_ix ix_list (pv 0) pe_int (fun _ _ => rfl)) (fun _ _ => rfl)) pa_nil)))
      (pss_cons (ps_asg (pe_op op_add (pe_ix ix_list (pv 0) pe_int (fun _ _ => rfl)) pe_int) (pg_sub (pv 0) pe_int set_list))
      (pss_cons (ps_if (pt_cmpR op_lt (pv 2) pe_int (nomark _)) (pss_one (ps_set (i := 2) sc__law_pick.nd rfl (Or.inl rfl) (pe_op op_sub pe_int (pv 2)))) pss_nil)
      (pss_one (ps_if (pt_cmpR op_ge (pv 2) (pe_op op_pow pe_int pe_int) (nomark _)) (pss_cons (ps_asg (pe_op op_fdivW (pv 2) (pv 1)) (pg_sub (pv 0) pe_int set_list))
      (pss_one (ps_ret (pe_op op_mod (pv 2) (pv 1))))) pss_nil))))) pss_nil)
      (pss_cons (ps_set (i := 3) sc__law_pick.nd rfl (Or.inl rfl) (pe_op op_mod (pe_op op_mulX (pe_op op_add (pe_op op_add (pe_callTy call_int1 (by rfl) T.z_int (by decide +kernel) (pa_cons (pe_ix ix_list (pv 0) pe_int (fun _ _ => rfl)) pa_nil)) (pe_op op_mod (pv 2) pe_int)) pe_int) pe_int) pe_int))
      (pss_cons (ps_asg (pe_op op_mod (pe_op op_add (pe_op op_mulX (pv 3) pe_int) pe_int) pe_int) (pg_sub (pv 0) pe_int set_list))
      (pss_one (ps_ret (pe_op op_mod (pe_op op_fdivW (pe_callTy call_int1 (by rfl) T.z_int (by decide +kernel) (pa_cons (pe_ix ix_list (pv 0) pe_int (fun _ _ => rfl)) pa_nil)) pe_int) (pv 1))))))))),
      (sSeq (sIfS (sTest (sOp roBl0 (sOp roIxL sVar sInt) sVar)) (sSeq (sAsg (sCB rcInt (sCons (sOp roIxL sVar sInt) sNil)) sName)
      (sSeq (sAsgS (sOp roInt sVar sVar) sVar sInt)
      (sRet (sOp roInt sVar sVar)))) sNext)
      (sSeq (sAsg sInt sName)
      (sSeq (sIfS (sTest (sOp roBl0 (sOp roIxL sVar sInt) (sCB rcLen (sCons (sOp roIxL sVar sInt) sNil)))) (sSeq (sAsg (sCB rcInt (sCons (sOp roIxL (sOp roIxL sVar sInt) (sOp roIxL sVar sInt)) sNil)) sName)
      (sSeq (sAsgS (sOp roInt0 (sOp roIxL sVar sInt) sInt) sVar sInt)
      (sSeq (sIfS (sTest (sOp roBl0 sVar sInt)) (sAsg (sOp roInt0 sInt sVar) sName) sNext)
      (sIfS (sTest (sOp roBl0 sVar (sOp roInt sInt sInt))) (sSeq (sAsgS (sOp roInt sVar sVar) sVar sInt)
      (sRet (sOp roInt sVar sVar))) sNext)))) sNext)
      (sSeq (sAsg (sOp roInt (sOp roInt (sOp roInt0 (sOp roInt0 (sCB rcInt (sCons (sOp roIxL sVar sInt) sNil)) (sOp roInt sVar sInt)) sInt) sInt) sInt) sName)
      (sSeq (sAsgS (sOp roInt (sOp roInt0 (sOp roInt sVar sInt) sInt) sInt) sVar sInt)
      (sRet (sOp roInt (sOp roInt (sCB rcInt (sCons (sOp roIxL sVar sInt) sNil)) sInt) sVar)))))))⟩) (fun ds μ Φ Ψ h => ?hv)
  case hv =>
    obtain ⟨st, ns, c, n, rfl, hc, ⟨seed, idx, rest, rfl, h1, h2, h3, h4⟩, hn, hl, h⟩ := h
    have hmod : ∀ a : Int, 0 ≤ a % n ∧ a % n < n := fun a => ⟨Int.emod_nonneg _ (by omega), Int.emod_lt_of_pos _ hn⟩
    have hM : ∀ a : Int, 0 ≤ a % 2147483647 ∧ a % 2147483647 < 2147483647 := fun a => ⟨Int.emod_nonneg _ (by omega), Int.emod_lt_of_pos _ (by omega)⟩
    -- what stands at the end, whatever the cell is
    have tail : ∀ (μ' : Sto) (cell idx' : Int) (x4 : Option D), (∀ c', sset μ' st (.lst c') = sset μ st (.lst c')) → μ' st = some (.lst [.int seed, .lst (ns.map .int), .int idx', .int rest]) → 0 ≤ idx' → (dSeq
      (dAsg
        (dOp (oI (fun x j => 0 < j) fun i j => D.int (i % j))
          (dOp (oI CMulX fun i j => D.int (i * j))
            (dOp (oI0 fun i j => D.int (i + j))
              (dOp (oI0 fun i j => D.int (i + j)) (dCB cInt (dCons (dOp oIxL (dVar 0) (dC (D.int 0))) dNil))
                (dOp (oI (fun x j => 0 < j) fun i j => D.int (i % j)) (dVar 2) (dC (D.int 2147483647))))
              (dC (D.int 1)))
            (dC (D.int 48271)))
          (dC (D.int 2147483647)))
        (eName 3))
      (dSeq
        (dAsgS
          (dOp (oI (fun x j => 0 < j) fun i j => D.int (i % j))
            (dOp (oI0 fun i j => D.int (i + j)) (dOp (oI CMulX fun i j => D.int (i * j)) (dVar 3) (dC (D.int 69621)))
              (dC (D.int 12345)))
            (dC (D.int 2147483647)))
          (dVar 0) (dC (D.int 0)))
        (dRet
          (dOp (oI (fun x j => 0 < j) fun i j => D.int (i % j))
            (dOp (oI CDivW fun i j => D.int (i / j)) (dCB cInt (dCons (dOp oIxL (dVar 0) (dC (D.int 0))) dNil))
              (dC (D.int 7)))
            (dVar 1))))) (goalX Ψ) (goalE Φ) [some (.hd (.ref st)), some (.int n), some (.int cell), none, x4] μ' := by
      intro μ' cell idx' x4 hs hc' hi'
      have b1 := hM cell
      have b2 := hM ((seed + cell % 2147483647 + 1) * 48271)
      have b3 := hM ((seed + cell % 2147483647 + 1) * 48271 % 2147483647 * 69621 + 12345)
      clear hM hc
      walk_at "wps"
      simp only [hc']
      walk_at "wp"
      simp only [hc']
      walk_at "wp"
      refine ⟨by decide, mulx 33 17 (by omega) (by decide) (by decide), by decide, mulx 31 18 (by omega) (by decide) (by decide), by decide, wide_div (b := 3) (by decide) (by decide) (by decide) (by decide), hn, ?_⟩
      rw [hs]
      exact ret_same (h _ _ (hmod _).1 (hmod _).2 ⟨_, _, _, rfl, b3.1, b3.2, hi', h4⟩)
    refine q_seq fun nx hnx => ?_
    walk_at "wp"
    simp only [hc]
    walk_at "wp"
    refine ⟨fun c1 => ?_, fun c1 => ?_⟩
    · walk_at "wps"
      simp only [hc]
      walk_at "wp"
      simp only [hc]
      walk_at "wp"
      exact ⟨⟨hn, hl⟩, hn, ret_same (h _ _ (hmod _).1 (hmod _).2 ⟨_, _, _, rfl, h1, h2, h3, Int.ediv_nonneg h4 (by omega)⟩)⟩
    · subst hnx
      refine q_seq fun nx hnx => ?_
      walk_at "wp"
      subst hnx
      refine q_seq fun nx hnx => ?_
      walk_at "wp"
      simp only [hc]
      walk_at "wp"
      refine ⟨fun c2 => ?_, fun c2 => ?_⟩
      · refine q_seq fun nx2 hnx2 => ?_
        walk_at "wp"
        simp only [hc]
        walk_at "wp"
        refine pick_cell h3 c2 fun z => ?_
        walk_at "wp"
        subst hnx2
        refine q_seq fun nx2 hnx2 => ?_
        walk_at "wp"
        simp only [hc]
        walk_at "wp"
        simp only [hc]
        walk_at "wp"
        subst hnx2
        have hc2 : sset μ st (.lst [.int seed, .lst (ns.map .int), .int (idx + 1), .int rest]) st = some (.lst [.int seed, .lst (ns.map .int), .int (idx + 1), .int rest]) := sset_same
        have fin : ∀ z : Int, 0 ≤ z → dIfS (dTest (dOp (oI0 fun i j => D.bl (decide (j ≤ i))) (dVar 2) (dOp (oI CPow fun i j => D.int (i ^ j.toNat)) (dC (D.int 10)) (dC (D.int 18))))) (dSeq (dAsgS (dOp (oI CDivW fun i j => D.int (i / j)) (dVar 2) (dVar 1)) (dVar 0) (dC (D.int 3))) (dRet (dOp (oI (fun x j => 0 < j) fun i j => D.int (i % j)) (dVar 2) (dVar 1)))) dNext
            (goalX Ψ) ⟨nx, (goalE Φ).rt, (goalE Φ).bk, (goalE Φ).ct⟩ [some (.hd (.ref st)), some (.int n), some (.int z), none, none] (sset μ st (.lst [.int seed, .lst (ns.map .int), .int (idx + 1), .int rest])) := by
          intro z hz
          walk_at "wp"
          refine ⟨⟨by decide, by decide, by decide⟩, fun c3 => ?_, fun c3 => ?_⟩
          · walk_at "wps"
            exact ⟨⟨hn, hl⟩, hn, ret_same (h _ _ (hmod _).1 (hmod _).2 ⟨_, _, _, rfl, h1, h2, by omega, Int.ediv_nonneg hz (by omega)⟩)⟩
          · subst hnx
            exact tail _ z (idx + 1) none (fun c' => sset_sset) sset_same (by omega)
        refine q_seq fun nx2 hnx2 => ?_
        walk_at "wp"
        subst hnx2
        refine ⟨fun c3 => ?_, fun c3 => ?_⟩
        · exact fin _ (by omega)
        · exact fin _ (by omega)
      · subst hnx
        exact tail μ 11 idx none (fun _ => rfl) hc h3
def c__law_start : Con := fun ds μ Φ _ => ∃ ns, ds = [.scr ns] ∧ ns.length ≤ 63 ∧ ∀ p c, μ p = none → StC ns c → Φ (.hd (.ref p)) (sset μ p (.lst c))
theorem len__law_start {ds μ Φ Ψ} (h : c__law_start ds μ Φ Ψ) : ds.length = 1 := by obtain ⟨i, rfl, _⟩ := h; rfl
theorem ok__law_start {cx : CXT} (T : Txt P w K mg) : FnOk P w K mg base cx 1 T.f__law_start T.d__law_start ["_law_script"] (spOf K c__law_start) := by
  refine def_okC T.F__law_start sc__law_start _ (fun ds μ Φ Ψ h => len__law_start h) (fun cdv A outer s H E B hW hr =>
    ⟨_, (pss_cons (ps_set (i := 1) sc__law_start.nd rfl (Or.inl rfl) pe_int)
      (pss_cons (ps_for (passes_of rfl) rfl (pi_range1 rfl T.z_range (pa_cons (pe_callB call_len_seq (by rfl) T.z_len PySem.boot_len (pa_cons (pv 0) pa_nil)) pa_nil)) (pg_name (i := 2) sc__law_start.nd rfl (Or.inl rfl)) (pss_one (ps_set (i := 1) sc__law_start.nd rfl (Or.inl rfl) (pe_op op_mod (pe_op op_add (pe_op op_add (pe_op op_add (pe_op op_mulX (pv 1) pe_int) (pe_op op_mod (pe_callTy call_int1 (by rfl) T.z_int (by decide +kernel) (pa_cons (pe_ix ix_list (pv 0) (pv 2) (fun _ _ => rfl)) pa_nil)) pe_int)) (pv 2)) pe_int) pe_int))))
      (pss_one (ps_ret (pe_lst (pa_cons (pv 1) (pa_cons (pe_callTy call_list_of (by rfl) T.z_list (by decide +kernel) (pa_cons (pv 0) pa_nil)) (pa_cons pe_int (pa_cons pe_int pa_nil))))))))),
      (sSeq (sAsg sInt sName)
      (sSeq (sFor (siR1 (sCB rcLen (sCons sVar sNil))) (fun _ _ _ => sName) (fun _ _ _ => (sAsg (sOp roInt (sOp roInt0 (sOp roInt0 (sOp roInt0 (sOp roInt sVar sInt) (sOp roInt (sCB rcInt (sCons (sOp roIxL sVar sVar) sNil)) sInt)) sVar) sInt) sInt) sName)))
      (sRet (sOwn (sCons sVar (sCons (sCB rcList (sCons sVar sNil)) (sCons sInt (sCons sInt sNil))))))))⟩) (fun ds μ Φ Ψ h => ?hv)
  case hv =>
    obtain ⟨ns, rfl, hl, h⟩ := h
    have hM : ∀ a : Int, 0 ≤ a % 2147483647 ∧ a % 2147483647 < 2147483647 := fun a => ⟨Int.emod_nonneg _ (by omega), Int.emod_lt_of_pos _ (by omega)⟩
    walk_at "wps"
    refine ⟨by omega, by omega, fun i δ' μ' => μ' = μ ∧ ∃ seed x, 0 ≤ seed ∧ seed < 2147483647 ∧ δ' = [some (.scr ns), some (.int seed), x], ⟨rfl, 7, none, by omega, by omega, rfl⟩, ?_, ?_⟩
    · rintro i d δ' μ' hi ⟨rfl, seed, x, h1, h2, rfl⟩
      obtain ⟨hj, rfl⟩ := rngD_get hi
      walk_at "wps"
      refine ⟨mulx 31 17 (by omega) (by decide) (by decide), .int ns[i], ?_, ?_⟩
      · exact atI_nat (by rw [List.getElem?_map, List.getElem?_eq_getElem hj]; rfl)
      · walk_at "wps"
        exact ⟨by decide, by decide, _, _, (hM _).1, (hM _).2, rfl⟩ -- (hM _).1, (hM _).2, rfl⟩
    · rintro δ' μ' ⟨rfl, seed, x, h1, h2, rfl⟩
      walk_at "wps"
      exact ⟨by decide, fun p hp => ret_same (h p _ hp ⟨seed, 0, 0, rfl, h1, h2, by omega, by omega⟩)⟩
mutual
/-- what the law compares: plain data -/
def plainD : D → Bool
  | .non => true
  | .bl _ => true
  | .int _ => true
  | .str _ => true
  | .tup ds => plainDs ds && decide (ds.length ≤ 100000)
  | _ => false
def plainDs : List D → Bool
  | [] => true
  | d :: ds => plainD d && plainDs ds
end
mutual
def depD : D → Nat
  | .tup ds => depDs ds + 1
  | _ => 1
def depDs : List D → Nat
  | [] => 0
  | d :: ds => max (depD d) (depDs ds)
end
mutual
def sameD : D → D → Bool
  | a, .tup ds => match a with
    | .tup es => sameDs es ds
    | _ => false
  | a, .non => match a with
    | .non => true
    | _ => false
  | a, .str s => match a with
    | .str t => decide (t = s)
    | _ => false
  | a, .bl s => match a with
    | .bl t => decide (t = s)
    | _ => false
  | a, .int s => match a with
    | .int t => decide (t = s)
    | _ => false
  | _, _ => false
def sameDs : List D → List D → Bool
  | [], [] => true
  | e :: es, d :: ds => sameD e d && sameDs es ds
  | _, _ => false
end
/-- what may be handed to it -/
def c__law_same : Nat → Con
  | 0 => fun _ _ _ _ => False
  | n + 1 => fun ds μ Φ _ => ∃ a d, ds = [a, d] ∧ plainD a = true ∧ plainD d = true ∧ depD d ≤ n + 1 ∧ Φ (.bl (sameD a d)) μ
theorem len__law_same {n ds μ Φ Ψ} (h : c__law_same n ds μ Φ Ψ) : ds.length = 2 := by
  cases n with
  | zero => exact h.elim
  | succ n => obtain ⟨i, _, rfl, _⟩ := h; rfl
theorem depD_pos (d : D) : 0 < depD d := by cases d <;> simp [depD]
theorem same_at {n a d μ Φ Ψ} (pa : plainD a = true) (pd : plainD d = true) (hd : depD d ≤ n) (h : Φ (.bl (sameD a d)) μ) : c__law_same n [a, d] μ Φ Ψ := by
  cases n with
  | zero => have := depD_pos d; omega
  | succ n => exact ⟨a, d, rfl, pa, pd, hd, h⟩
theorem plain_get : ∀ {ds : List D} {i : Nat} {d : D}, plainDs ds = true → ds[i]? = some d → plainD d = true
  | [], i, d, _, e => by cases e
  | x :: xs, 0, d, h, e => by cases e; simp [plainDs] at h; exact h.1
  | x :: xs, i + 1, d, h, e => by simp [plainDs] at h; exact plain_get h.2 e
theorem dep_get : ∀ {ds : List D} {i : Nat} {d : D}, ds[i]? = some d → depD d ≤ depDs ds
  | [], i, d, e => by cases e
  | x :: xs, 0, d, e => by cases e; simp only [depDs]; omega
  | x :: xs, i + 1, d, e => by have := dep_get (ds := xs) (i := i) e; simp only [depDs]; omega
theorem sameDs_len : ∀ {es ds : List D}, es.length ≠ ds.length → sameDs es ds = false
  | [], [], h => absurd rfl h
  | [], _ :: _, h => by simp [sameDs]
  | _ :: _, [], h => by simp [sameDs]
  | e :: es, d :: ds, h => by simp [sameDs]; intro _; exact sameDs_len (by simpa using h)
theorem sameDs_all : ∀ {es ds : List D}, es.length = ds.length → ((List.range ds.length).map fun i => sameD (es.getD i .non) (ds.getD i .non)).all id = sameDs es ds
  | [], [], h => by simp [sameDs]
  | [], _ :: _, h => by simp at h
  | _ :: _, [], h => by simp at h
  | e :: es, d :: ds, h => by
    have ih := sameDs_all (es := es) (ds := ds) (by simpa using h)
    rw [List.length_cons, List.range_succ_eq_map, List.map_cons, List.map_map, List.all_cons, sameDs, ← ih]
    rfl
theorem step__law_same (T : Txt P w K mg) {k : Nat} (hk : 0 ≤ k) (n : Nat) (ih__law_same : FnOk P w K mg base (L2N.CX P w) k T.f__law_same T.d__law_same ["_law_actual", "_law_due"] (spOf K (c__law_same n))) : FnOk P w K mg base (L2N.CX P w) (k + 1) T.f__law_same T.d__law_same ["_law_actual", "_law_due"] (spOf K (c__law_same (n + 1))) := by
  refine def_okC T.F__law_same sc__law_same _ (fun ds μ Φ Ψ h => len__law_same h) (fun cdv A outer s H E B hW hr =>
    have tk : L2N.Takes (cxOf (L2N.CX P w) P w K mg base N__law_same "_law_same" (defScope s__law_same) T.f__law_same cdv A outer s H E) (fun cls d _ H => E cls d H) := L2N.takes_of rfl rfl rfl rfl
    ⟨_, (pss_cons (ps_if (pt_val (pe_callB call_isi (by rfl) T.z_isinstance (by decide +kernel) (pa_cons (pv 1) (pa_cons (pe_bltn (v := .ty "tuple") rfl T.z_tuple (by decide +kernel) rfl) pa_nil)))) (pss_cons (ps_if (PW.pt (pw_or (pt_not (pt_val (pe_callB call_isi (by rfl) T.z_isinstance (by decide +kernel) (pa_cons (pv 0) (pa_cons (pe_bltn (v := .ty "tuple") rfl T.z_tuple (by decide +kernel) rfl) pa_nil))))) (pw_or1 (pt_cmpR op_ne (pe_callB call_len_seq (by rfl) T.z_len PySem.boot_len (pa_cons (pv 0) pa_nil)) (pe_callB call_len_seq (by rfl) T.z_len PySem.boot_len (pa_cons (pv 1) pa_nil)) (nomark _))))) (pss_one (ps_ret pe_bl)) pss_nil)
      (pss_one (ps_ret (pe_callB (cr_all rfl) (by rfl) T.z_all (by decide +kernel) (pa_cons (pe_lc (own := [("_law_p", 2)]) rfl sc__law_same.nd (pi_range1 rfl T.z_range (pa_cons (pe_callB call_len_seq (by rfl) T.z_len PySem.boot_len (pa_cons (pv 1) pa_nil)) pa_nil)) (blkOk_by (N := N__law_same) (sc := defScope s__law_same) (by decide +kernel)) (fun _ _ _ _ _ => (pg_name (i := 2) sc__law_same.nd rfl (Or.inl rfl))) (fun _ _ _ _ _ => pts_nil) (fun _ _ _ _ _ => (pe_call ih__law_same hr rfl T.g__law_same T.F__law_same.kp T.b__law_same .nil passN (pa_cons (pe_ix ix_tup (pv 0) (pv 2) (fun _ _ => rfl)) (pa_cons (pe_ix ix_tup (pv 1) (pv 2) (fun _ _ => rfl)) pa_nil))))) pa_nil))))) pss_nil)
      (pss_cons (ps_if (pt_cmpR op_isN (pv 1) pe_non (nomark _)) (pss_one (ps_ret (pe_cmpR op_isN (pv 0) pe_non (nomark _)))) pss_nil)
      (pss_cons (ps_if (pt_val (pe_callB call_isi (by rfl) T.z_isinstance (by decide +kernel) (pa_cons (pv 1) (pa_cons (pe_bltn (v := .ty "str") rfl T.z_str (by decide +kernel) rfl) pa_nil)))) (pss_one (ps_ret (pe_and (pe_callB call_isi (by rfl) T.z_isinstance (by decide +kernel) (pa_cons (pv 0) (pa_cons (pe_bltn (v := .ty "str") rfl T.z_str (by decide +kernel) rfl) pa_nil))) (pe_one (pe_cmpR op_eq (pv 0) (pv 1) (nomark _)))))) pss_nil)
      (pss_cons (ps_if (pt_val (pe_callB call_isi (by rfl) T.z_isinstance (by decide +kernel) (pa_cons (pv 1) (pa_cons (pe_bltn (v := .ty "bool") rfl T.z_bool (by decide +kernel) rfl) pa_nil)))) (pss_one (ps_ret (pe_and (pe_callB call_isi (by rfl) T.z_isinstance (by decide +kernel) (pa_cons (pv 0) (pa_cons (pe_bltn (v := .ty "bool") rfl T.z_bool (by decide +kernel) rfl) pa_nil))) (pe_one (pe_cmpR op_eq (pv 0) (pv 1) (nomark _)))))) pss_nil)
      (pss_one (ps_ret (pe_and (pe_callB call_isi (by rfl) T.z_isinstance (by decide +kernel) (pa_cons (pv 0) (pa_cons (pe_bltn (v := .ty "int") rfl T.z_int (by decide +kernel) rfl) pa_nil))) (pe_and (pe_not (pe_callB call_isi (by rfl) T.z_isinstance (by decide +kernel) (pa_cons (pv 0) (pa_cons (pe_bltn (v := .ty "bool") rfl T.z_bool (by decide +kernel) rfl) pa_nil)))) (pe_one (pe_cmpR op_eq (pv 0) (pv 1) (nomark _))))))))))),
      (sSeq (sIfS (sB (sCB (rcIsi (T := "tuple")) (sCons sVar (sCons sHd sNil)))) (sSeq (sIfS (sOr (sNot (sB (sCB (rcIsi (T := "tuple")) (sCons sVar (sCons sHd sNil))))) (sTest (sOp roNe (sCB rcLen (sCons sVar sNil)) (sCB rcLen (sCons sVar sNil))))) (sRet sBl) sNext)
      (sRet (sCB rcAll (sCons (sLc (siR1 (sCB rcLen (sCons sVar sNil))) (gwName List.mem_cons_self) (fun _ _ _ => sName) (fun _ _ _ => sYes) (fun _ _ _ => (sCall (sCons (sOp roIxT sVar sVar) (sCons (sOp roIxT sVar sVar) sNil))))) sNil)))) sNext)
      (sSeq (sIfS (sTest (sOp roIsN sVar sNon)) (sRet (sOp roIsN sVar sNon)) sNext)
      (sSeq (sIfS (sB (sCB (rcIsi (T := "str")) (sCons sVar (sCons sHd sNil)))) (sRet (sAndV (sCB (rcIsi (T := "str")) (sCons sVar (sCons sHd sNil))) (sOp roEq sVar sVar))) sNext)
      (sSeq (sIfS (sB (sCB (rcIsi (T := "bool")) (sCons sVar (sCons sHd sNil)))) (sRet (sAndV (sCB (rcIsi (T := "bool")) (sCons sVar (sCons sHd sNil))) (sOp roEq sVar sVar))) sNext)
      (sRet (sAndV (sCB (rcIsi (T := "int")) (sCons sVar (sCons sHd sNil))) (sAndV (sNotV (sCB (rcIsi (T := "bool")) (sCons sVar (sCons sHd sNil)))) (sOp roEq sVar sVar))))))))⟩) (fun ds μ Φ Ψ h => ?hv)
  case hv =>
    obtain ⟨a, d, rfl, pa, pd, hd, h⟩ := h
    cases d with
    | tup ds =>
      cases a with
      | tup es =>
        walk_at "wps"
        refine ⟨fun c => ?_, fun c => ?_⟩
        · have c : es.length ≠ ds.length := by intro z; rw [z] at c; simp at c
          rw [sameD, sameDs_len c] at h
          exact ret_same h
        · have c : es.length = ds.length := by simp at c; omega
          simp [plainD] at pa pd
          refine ⟨by omega, by omega, lcG_mapN (fun i => .bl (sameD (es.getD i .non) (ds.getD i .non))) (by rw [rngD_len]; omega) (fun i d μ2 X hi hsub hx => ?_) ?_⟩
          · obtain ⟨hj, rfl⟩ := rngD_get hi
            have h1 : es[i]? = some es[i] := List.getElem?_eq_getElem (by omega)
            have h2 : ds[i]? = some ds[i] := List.getElem?_eq_getElem (by omega)
            walk_at "wps"
            refine ⟨_, atI_n h1, ?_⟩
            walk_at "wps"
            refine ⟨_, atI_n h2, same_at (plain_get pa.1 h1) (plain_get pd.1 h2) (by have := dep_get h2; simp only [depD] at hd; omega) ?_⟩
            simpa [List.getD_eq_getElem?_getD, h1, h2] using hx
          · rw [rngD_len]
            refine w_allB (P := (List.range ds.length).map fun i => sameD (es.getD i .non) (ds.getD i .non)) (by rw [List.map_map]; rfl) (ret_same ?_)
            rw [sameDs_all c]
            exact h
      | non => walk_at "wps"; exact ret_same h
      | int i => walk_at "wps"; exact ret_same h
      | bl i => walk_at "wps"; exact ret_same h
      | str i => walk_at "wps"; exact ret_same h
      | _ => simp [plainD] at pa
    | non =>
      cases a with
      | tup es => walk_at "wps"; exact ret_same h
      | non => walk_at "wps"; exact ret_same h
      | int i => walk_at "wps"; exact ret_same h
      | bl i => walk_at "wps"; exact ret_same h
      | str i => walk_at "wps"; exact ret_same h
      | _ => simp [plainD] at pa
    | str t =>
      cases a with
      | tup es => walk_at "wps"; exact ret_same h
      | non => walk_at "wps"; exact ret_same h
      | int i => walk_at "wps"; exact ret_same h
      | bl i => walk_at "wps"; exact ret_same h
      | str i => walk_at "wps"; exact ret_same h
      | _ => simp [plainD] at pa
    | bl t =>
      cases a with
      | tup es => walk_at "wps"; exact ret_same h
      | non => walk_at "wps"; exact ret_same h
      | int i => walk_at "wps"; exact ret_same h
      | bl i => walk_at "wps"; exact ret_same h
      | str i => walk_at "wps"; exact ret_same h
      | _ => simp [plainD] at pa
    | int t =>
      cases a with
      | tup es => walk_at "wps"; exact ret_same h
      | non => walk_at "wps"; exact ret_same h
      | int i => walk_at "wps"; exact ret_same h
      | bl i => walk_at "wps"; exact ret_same h
      | str i => walk_at "wps"; exact ret_same h
      | _ => simp [plainD] at pa
    | _ => simp [plainD] at pd
def c__law_contexts : Con := fun ds μ Φ _ => ∃ n k : Nat, ds = [.int n, .int k] ∧ n ≤ 64 ∧ k ≤ 4 ∧ 1 ≤ k ∧ Φ (.int ((k ^ n : Nat) : Int)) μ
theorem len__law_contexts {ds μ Φ Ψ} (h : c__law_contexts ds μ Φ Ψ) : ds.length = 2 := by obtain ⟨i, j, rfl, _⟩ := h; rfl
theorem ok__law_contexts {cx : CXT} (T : Txt P w K mg) : FnOk P w K mg base cx 1 T.f__law_contexts T.d__law_contexts ["_law_n", "_law_k"] (spOf K c__law_contexts) := by
  refine def_okC T.F__law_contexts sc__law_contexts _ (fun ds μ Φ Ψ h => len__law_contexts h) (fun cdv A outer s H E B hW hr =>
    ⟨_, (pss_cons (ps_set (i := 2) sc__law_contexts.nd rfl (Or.inl rfl) pe_int)
      (pss_cons (ps_for (passes_of rfl) rfl (pi_range1 rfl T.z_range (pa_cons (pv 0) pa_nil)) (pg_name (i := 3) sc__law_contexts.nd rfl (Or.inl rfl)) (pss_one (ps_set (i := 2) sc__law_contexts.nd rfl (Or.inl rfl) (pe_op op_mulX (pv 2) (pv 1)))))
      (pss_one (ps_ret (pv 2))))),
      (sSeq (sAsg sInt sName)
      (sSeq (sFor (siR1 sVar) (fun _ _ _ => sName) (fun _ _ _ => (sAsg (sOp roInt sVar sVar) sName)))
      (sRet sVar)))⟩) (fun ds μ Φ Ψ h => ?hv)
  case hv =>
    obtain ⟨n, k, rfl, hn, hk, hk1, h⟩ := h
    walk_at "wps"
    refine ⟨by omega, by omega, fun i δ' μ' => μ' = μ ∧ ∃ x : Option D, δ' = [some (.int n), some (.int k), some (.int ((k ^ i : Nat) : Int)), x] ∧ i ≤ n, ⟨rfl, none, rfl, by omega⟩, ?_, ?_⟩
    · rintro i d δ' μ' hi ⟨rfl, x, rfl, hin⟩
      obtain ⟨hj, rfl⟩ := rngD_get hi
      walk_at "wps"
      have := pow_small hk1 hk (show i ≤ 64 by omega)
      refine ⟨mulx 140 10 (by rw [Int.natAbs_natCast]; exact Nat.lt_of_le_of_lt this (by decide)) (by rw [Int.natAbs_natCast]; exact Nat.lt_of_le_of_lt hk (by decide)) (by decide), some (.int (i : Int)), ?_, by omega⟩
      rw [Nat.pow_succ, Int.natCast_mul]
    · rintro δ' μ' ⟨rfl, x, rfl, hin⟩
      walk_at "wps"
      exact ret_same h
def c__law_some : Con := fun ds μ Φ _ => ∃ (st : Addr) (ns : List Int) (c : List D) (m : Nat), ds = [.hd (.ref st), .int m] ∧ μ st = some (.lst c) ∧ StC ns c ∧ m ≤ 1000 ∧ ∀ l c', Asc m 0 l → StC ns c' → Φ (.tup (l.map .int)) (sset μ st (.lst c'))
theorem len__law_some {ds μ Φ Ψ} (h : c__law_some ds μ Φ Ψ) : ds.length = 2 := by obtain ⟨_, _, _, _, rfl, _⟩ := h; rfl
theorem ok__law_some (T : Txt P w K mg) : FnOk P w K mg base (L2N.CX P w) 2 T.f__law_some T.d__law_some ["_law_state", "_law_limit"] (spOf K c__law_some) := by
  refine def_okC T.F__law_some sc__law_some _ (fun ds μ Φ Ψ h => len__law_some h) (fun cdv A outer s H E B hW hr =>
    have tk : L2N.Takes (cxOf (L2N.CX P w) P w K mg base N__law_some "_law_some" (defScope s__law_some) T.f__law_some cdv A outer s H E) (fun cls d _ H => E cls d H) := L2N.takes_of rfl rfl rfl rfl
    ⟨_, (pss_one (ps_ret (pe_callTy call_tupleN (by rfl) T.z_tuple (by decide +kernel) (pa_cons (pe_lc (own := [("_law_x", 2)]) rfl sc__law_some.nd (pi_range1 rfl T.z_range (pa_cons (pv 1) pa_nil)) (blkOk_by (N := N__law_some) (sc := defScope s__law_some) (by decide +kernel)) (fun _ _ _ _ _ => (pg_name (i := 2) sc__law_some.nd rfl (Or.inl rfl))) (fun _ _ _ _ _ => (pts_one (pt_cmpR op_eq (pe_call (ok__law_pick T) hr rfl T.g__law_pick T.F__law_pick.kp T.b__law_pick .nil passN (pa_cons (pv 0) (pa_cons pe_int pa_nil))) pe_int (nomark _)))) (fun _ _ _ _ _ => (pv 2))) pa_nil)))),
      (sRet (sCB rcTuple (sCons (sLc (siR1 sVar) (gwName List.mem_cons_self) (fun _ _ _ => sName) (fun _ _ _ => (sTest (sOp roEq (sCall (sCons sVar (sCons sInt sNil))) sInt))) (fun _ _ _ => sVar)) sNil)))⟩) (fun ds μ Φ Ψ h => ?hv)
  case hv =>
    obtain ⟨st, ns, c, m, rfl, hst, hc, hm, h⟩ := h
    walk_at "wps"
    refine ⟨by omega, by omega, lcG_drawG (StC ns) (fun i acc => ∃ l : List Int, acc = l.map .int ∧ Asc i 0 l) (by rw [rngD_len]; omega) hst hc ⟨[], rfl, trivial⟩ (fun i d μ2 X Y acc c2 hi hs2 sc ⟨l, e, as⟩ hl hx hy => ?_) (fun acc c2 ⟨l, e, as⟩ hl sc => ?_)⟩
    · obtain ⟨hj, rfl⟩ := rngD_get hi
      walk_at "wps"
      refine ⟨st, ns, c2, 2, rfl, hs2, sc, by decide, by decide, fun r c' r0 r1 sc' => ?_⟩
      walk_at "wps"
      refine ⟨fun _ => hx _ c' sc' ⟨l ++ [(i : Int)], by rw [e, List.map_append]; rfl, asc_snoc (by omega) as⟩, fun _ => hy c' sc' ⟨l, e, asc_mono (by omega) as⟩⟩
    · rw [rngD_len] at as
      refine ⟨_, .lst _, ret_same ?_⟩
      rw [e]
      exact h l c2 as sc
theorem erase_map {α β : Type} (f : α → β) (l : List α) (i : Nat) : (l.map f).eraseIdx i = (l.eraseIdx i).map f := by
  rw [List.eraseIdx_eq_take_drop_succ, List.eraseIdx_eq_take_drop_succ, List.map_append, List.map_take, List.map_drop]
theorem erase_perm {l : List Int} {i : Nat} (h : i < l.length) : (l[i] :: l.eraseIdx i).Perm l := by
  rw [List.eraseIdx_eq_take_drop_succ]
  have e : l.take i ++ l[i] :: l.drop (i + 1) = l := by rw [← List.drop_eq_getElem_cons h, List.take_append_drop]
  exact List.perm_middle.symm.trans (List.Perm.of_eq e)
def c__law_places : Con := fun ds μ Φ _ => ∃ (st : Addr) (ns : List Int) (c : List D) (m : Nat), ds = [.hd (.ref st), .int m] ∧ μ st = some (.lst c) ∧ StC ns c ∧ m ≤ 1000 ∧ ∀ l c', NumOk m m l → l.Nodup → StC ns c' → Φ (.tup (l.map .int)) (sset μ st (.lst c'))
theorem len__law_places {ds μ Φ Ψ} (h : c__law_places ds μ Φ Ψ) : ds.length = 2 := by obtain ⟨_, _, _, _, rfl, _⟩ := h; rfl
theorem ok__law_places (T : Txt P w K mg) : FnOk P w K mg base (L2N.CX P w) 2 T.f__law_places T.d__law_places ["_law_state", "_law_many"] (spOf K c__law_places) := by
  refine def_okC T.F__law_places sc__law_places _ (fun ds μ Φ Ψ h => len__law_places h) (fun cdv A outer s H E B hW hr =>
    have tk : L2N.Takes (cxOf (L2N.CX P w) P w K mg base N__law_places "_law_places" (defScope s__law_places) T.f__law_places cdv A outer s H E) (fun cls d _ H => E cls d H) := L2N.takes_of rfl rfl rfl rfl
    ⟨_, (pss_cons (ps_set (i := 2) sc__law_places.nd rfl (Or.inr rfl) (pe_listRg rfl rfl T.z_list (prg_1 rfl T.z_range (pv 1))))
      (pss_one (ps_ret (pe_callTy call_tupleN (by rfl) T.z_tuple (by decide +kernel) (pa_cons (pe_lc (own := [("_law_k", 3)]) rfl sc__law_places.nd (pi_range1 rfl T.z_range (pa_cons (pv 1) pa_nil)) (blkOk_by (N := N__law_places) (sc := defScope s__law_places) (by decide +kernel)) (fun _ _ _ _ _ => (pg_name (i := 3) sc__law_places.nd rfl (Or.inl rfl))) (fun _ _ _ _ _ => pts_nil) (fun _ _ _ _ _ => (pe_bm PySem.F.plainAttrs_list PySem.F.slot_list_pop PySem.F.type_list_pop mt_popAt (pv 2) (by exact pa_cons (pe_call (ok__law_pick T) hr rfl T.g__law_pick T.F__law_pick.kp T.b__law_pick .nil passN (pa_cons (pv 0) (pa_cons (pe_callB call_len_seq (by rfl) T.z_len PySem.boot_len (pa_cons (pv 2) pa_nil)) pa_nil))) pa_nil)))) pa_nil))))),
      (sSeq (sAsg (sLstR1O sVar) sName)
      (sRet (sCB rcTuple (sCons (sLc (siR1 sVar) (gwName List.mem_cons_self) (fun _ _ _ => sName) (fun _ _ _ => sYes) (fun _ _ _ => (sPopAt sVar (sCall (sCons sVar (sCons (sCB rcLen (sCons sVar sNil)) sNil)))))) sNil))))⟩) (fun ds μ Φ Ψ h => ?hv)
  case hv =>
    obtain ⟨st, ns, c, m, rfl, hst, hc, hm, h⟩ := h
    walk_at "wps"
    refine ⟨by omega, by omega, fun q hq => ⟨by omega, by omega, ?_⟩⟩
    have ne : st ≠ q := fun z => by rw [z, hq] at hst; cases hst
    have e0 : rngD 0 m = ((List.range m).map fun (i : Nat) => (i : Int)).map .int := by
      unfold rngD
      rw [List.map_map]
      exact List.map_congr_left fun i _ => by show D.int (0 + (i : Int)) = D.int (i : Int); rw [Int.zero_add]
    refine lcG_sto (fun i acc ν => ∃ (ps rest : List Int) (c2 : List D), acc = ps.map .int ∧ StC ns c2 ∧ ν = sset (sset μ st (.lst c2)) q (.lst (rest.map .int)) ∧ ps.length = i ∧ i + rest.length = m ∧ (ps ++ rest).Perm ((List.range m).map fun (i : Nat) => (i : Int)))
      (by rw [rngD_len]; omega) ⟨[], (List.range m).map fun (i : Nat) => (i : Int), c, rfl, hc, ?_, rfl, by simp, by rw [List.nil_append]⟩ (fun i d ν p X Y acc hi hp ⟨ps, rest, c2, e, sc, en, hl, hr, pm⟩ hla hx hy => ?_) (fun acc ν ⟨ps, rest, c2, e, sc, en, hl, hr, pm⟩ hla => ?_)
    · rw [e0]
      funext b
      by_cases h1 : b = q
      · subst h1; rw [sset_same, sset_same]
      · rw [sset_ne h1, sset_ne h1]
        by_cases h2 : b = st
        · subst h2; rw [sset_same]; exact hst
        · rw [sset_ne h2]
    · obtain ⟨hj, rfl⟩ := rngD_get hi
      have np : p ≠ q := fun z => by rw [en, z, sset_same] at hp; cases hp
      have nst : p ≠ st := fun z => by rw [en, z, sset_ne ne, sset_same] at hp; cases hp
      walk_at "wps"
      have Mq : sset ν p (.lst acc) q = some (.lst (rest.map .int)) := by rw [sset_ne (Ne.symm np), en, sset_same]
      have Mst : sset ν p (.lst acc) st = some (.lst c2) := by rw [sset_ne (Ne.symm nst), en, sset_ne ne, sset_same]
      have hp0 := hp
      rw [en, sset_ne np, sset_ne nst] at hp0
      have rl : 0 < rest.length := by omega
      refine ⟨_, Mq, .inl ⟨_, Mq, st, ns, c2, _, rfl, Mst, sc, by rw [List.length_map]; omega, ?_, fun r c' r0 r1 sc' => ?_⟩⟩
      · rw [List.length_map, Int.natAbs_natCast]
        have := Nat.log2_le_self rest.length
        omega
      · rw [List.length_map] at r1
        have rn : r.toNat < rest.length := by omega
        refine ⟨rest.map .int, by rw [sset_ne (Ne.symm ne)]; exact Mq, by rw [List.length_map]; omega, r.toNat, .int rest[r.toNat], by rw [Int.toNat_of_nonneg r0], by rw [List.getElem?_map, List.getElem?_eq_getElem rn]; rfl, ?_⟩
        have es : sset (sset (sset ν p (.lst acc)) st (.lst c')) q (.lst ((rest.map D.int).eraseIdx r.toNat)) = sset (sset (sset μ st (.lst c')) q (.lst ((rest.eraseIdx r.toNat).map .int))) p (.lst acc) := by
          rw [sset_comm (a := p) (b := st) nst, sset_comm (a := p) (b := q) np, en, sset_comm (a := q) (b := st) (Ne.symm ne), sset_sset, sset_sset, erase_map]
        rw [es]
        refine hx _ _ (by rw [sset_ne np, sset_ne nst]; exact hp0) ⟨ps ++ [rest[r.toNat]], rest.eraseIdx r.toNat, c', by rw [e, List.map_append]; rfl, sc', rfl, by rw [List.length_append, hl]; rfl, by rw [List.length_eraseIdx, if_pos rn]; omega, ?_⟩
        refine List.Perm.trans ?_ pm
        rw [List.append_assoc]
        exact List.Perm.append_left ps (erase_perm rn)
    · rw [rngD_len] at hr hl
      have r0 : rest = [] := by cases rest with
        | nil => rfl
        | cons x y => simp at hr
      subst r0
      rw [List.append_nil] at pm
      refine ⟨_, .lst _, sset μ st (.lst c2), ?_, ?_⟩
      · rw [en]
        exact Sub.refl.set (by rw [sset_ne (Ne.symm ne)]; exact hq)
      · rw [e]
        refine h ps c2 ⟨hl, fun x hx => ?_⟩ ?_ sc
        · obtain ⟨y, hy, rfl⟩ := List.mem_map.mp (pm.mem_iff.mp hx)
          have := List.mem_range.mp hy
          omega
        · refine pm.nodup_iff.mpr ?_
          refine List.pairwise_map.mpr (List.Pairwise.imp (fun hab => ?_) List.pairwise_lt_range)
          omega
end
section
variable {P : Program} {w : World} {K : Fg} {mg : Str → Option Value} {base : Heap}
theorem inD_S (z : Str) : ∀ l : List Str, inD (.str z) (l.map .str) = l.contains z
  | [] => rfl
  | x :: l => by
    have ih := inD_S z l
    unfold inD at ih ⊢
    rw [List.map_cons, List.any_cons, ih, List.contains_cons]
    show (x == z || l.contains z) = _
    by_cases hh : x = z
    · rw [hh]
    · rw [beq_eq_false_iff_ne.mpr hh, beq_eq_false_iff_ne.mpr (Ne.symm hh)]
theorem in_S {z : Str} {l : List Str} {μ : Sto} {X : DK} (h : X (.bl (l.contains z)) μ) : oIn false (.str z) (.lst (l.map .str)) μ X :=
  ⟨_, .lst _, rfl, by rw [List.all_map]; exact List.all_eq_true.mpr fun _ _ => rfl, by rw [if_neg Bool.false_ne_true, inD_S]; exact h⟩
theorem lcNum {Ψ : XP} {Φ : DK} {n : Nat} {φ : DE} {δw : DEnv} {μ1 : Sto} {m lim : Nat} {st : Addr} {ns : List Int} {c : List D} (hm : m ≤ 1000) (hst : μ1 st = some (.lst c)) (h0 : StC ns c)
    (hs : ∀ (i : Nat) (μ2 : Sto) (X : DK) (c : List D), μ2 st = some (.lst c) → StC ns c → (∀ (y : Int) c', StC ns c' → 0 ≤ y → y < (lim : Int) → X (.int y) (sset μ2 st (.lst c'))) → φ Ψ (δw.set n (some (.int (i : Int)))) μ2 X)
    (hd : ∀ l c, NumOk m lim l → StC ns c → Φ (.lst (l.map .int)) (sset μ1 st (.lst c))) : LcG (eName n) dYes φ δw Ψ (rngD 0 m) μ1 Φ := by
  refine lcG_drawN (StC ns) (fun i acc => ∃ l : List Int, acc = l.map .int ∧ NumOk i lim l) (by rw [rngD_len]; omega) hst h0 ⟨[], rfl, rfl, by simp⟩ (fun i d μ2 X acc c2 hi hs2 sc ⟨l, e, hl⟩ hla hx => ?_) (fun acc c2 ⟨l, e, hl⟩ hla sc => ?_)
  · obtain ⟨hj, rfl⟩ := rngD_get hi
    rw [Int.zero_add]
    refine hs i μ2 X c2 hs2 sc fun y c' sc' y0 y1 => hx _ c' sc' ⟨l ++ [y], by rw [e, List.map_append]; rfl, by rw [List.length_append, hl.1]; rfl, fun z hz => ?_⟩
    rcases List.mem_append.mp hz with q | q
    · exact hl.2 z q
    · rw [List.mem_singleton.mp q]; exact ⟨y0, y1⟩
  · rw [rngD_len] at hl
    rw [e]
    exact hd l c2 hl sc
def c__law_any_size : Con := fun ds μ Φ _ => ∃ (st : Addr) (ns : List Int) (c : List D), ds = [.hd (.ref st)] ∧ μ st = some (.lst c) ∧ StC ns c ∧ ∀ (n k : Nat) c', SzOk n k → StC ns c' → Φ (.tup [.int n, .int k]) (sset μ st (.lst c'))
theorem len__law_any_size {ds μ Φ Ψ} (h : c__law_any_size ds μ Φ Ψ) : ds.length = 1 := by obtain ⟨_, _, _, rfl, _⟩ := h; rfl
theorem ok__law_any_size (T : Txt P w K mg) : FnOk P w K mg base (L2N.CX P w) 2 T.f__law_any_size T.d__law_any_size ["_law_state"] (spOf K c__law_any_size) := by
  refine def_okC T.F__law_any_size sc__law_any_size _ (fun ds μ Φ Ψ h => len__law_any_size h) (fun cdv A outer s H E B hW hr =>
    have tk : L2N.Takes (cxOf (L2N.CX P w) P w K mg base N__law_any_size "_law_any_size" (defScope s__law_any_size) T.f__law_any_size cdv A outer s H E) (fun cls d _ H => E cls d H) := L2N.takes_of rfl rfl rfl rfl
    ⟨_, (pss_cons (ps_set (i := 1) sc__law_any_size.nd rfl (Or.inl rfl) (pe_op op_add pe_int (pe_call (ok__law_pick T) hr rfl T.g__law_pick T.F__law_pick.kp T.b__law_pick .nil passN (pa_cons (pv 0) (pa_cons pe_int pa_nil)))))
      (pss_cons (ps_set (i := 2) sc__law_any_size.nd rfl (Or.inl rfl) (pe_call (ok__law_pick T) hr rfl T.g__law_pick T.F__law_pick.kp T.b__law_pick .nil passN (pa_cons (pv 0) (pa_cons pe_int pa_nil))))
      (pss_cons (ps_if (pt_cmpR op_eq (pv 2) pe_int (nomark _)) (pss_one (ps_ret (pe_tupN (pa_cons (pe_op op_add pe_int (pe_call (ok__law_pick T) hr rfl T.g__law_pick T.F__law_pick.kp T.b__law_pick .nil passN (pa_cons (pv 0) (pa_cons pe_int pa_nil)))) (pa_cons (pv 1) pa_nil))))) pss_nil)
      (pss_cons (ps_if (pt_cmpR op_eq (pv 2) pe_int (nomark _)) (pss_one (ps_ret (pe_tupN (pa_cons (pe_op op_add (pe_ix ix_list (pe_lst (pa_cons pe_int (pa_cons pe_int (pa_cons pe_int (pa_cons pe_int pa_nil))))) (pe_op op_sub (pv 1) pe_int) (fun _ _ => rfl)) (pe_call (ok__law_pick T) hr rfl T.g__law_pick T.F__law_pick.kp T.b__law_pick .nil passN (pa_cons (pv 0) (pa_cons pe_int pa_nil)))) (pa_cons (pv 1) pa_nil))))) pss_nil)
      (pss_one (ps_ret (pe_tupN (pa_cons (pe_op op_add pe_int (pe_call (ok__law_pick T) hr rfl T.g__law_pick T.F__law_pick.kp T.b__law_pick .nil passN (pa_cons (pv 0) (pa_cons (pe_ix ix_list (pe_lst (pa_cons pe_int (pa_cons pe_int (pa_cons pe_int (pa_cons pe_int pa_nil))))) (pe_op op_sub (pv 1) pe_int) (fun _ _ => rfl)) pa_nil)))) (pa_cons (pv 1) pa_nil))))))))),
      (sSeq (sAsg (sOp roInt0 sInt (sCall (sCons sVar (sCons sInt sNil)))) sName)
      (sSeq (sAsg (sCall (sCons sVar (sCons sInt sNil))) sName)
      (sSeq (sIfS (sTest (sOp roEq sVar sInt)) (sRet (sTup (sCons (sOp roInt0 sInt (sCall (sCons sVar (sCons sInt sNil)))) (sCons sVar sNil)))) sNext)
      (sSeq (sIfS (sTest (sOp roEq sVar sInt)) (sRet (sTup (sCons (sOp roInt0 (sOp roIxL (sLst (sCons sInt (sCons sInt (sCons sInt (sCons sInt sNil))))) (sOp roInt0 sVar sInt)) (sCall (sCons sVar (sCons sInt sNil)))) (sCons sVar sNil)))) sNext)
      (sRet (sTup (sCons (sOp roInt0 sInt (sCall (sCons sVar (sCons (sOp roIxL (sLst (sCons sInt (sCons sInt (sCons sInt (sCons sInt sNil))))) (sOp roInt0 sVar sInt)) sNil)))) (sCons sVar sNil))))))))⟩) (fun ds μ Φ Ψ h => ?hv)
  case hv =>
    obtain ⟨st, ns, c, rfl, hst, hc, h⟩ := h
    walk_at "wps"
    refine ⟨st, ns, c, 4, rfl, hst, hc, by decide, by decide, fun r c1 r0 r1 sc => ?_⟩
    obtain ⟨k, rfl⟩ : ∃ k : Nat, r = (k : Int) := ⟨r.toNat, by omega⟩
    have ek : 1 + (k : Int) = ((k + 1 : Nat) : Int) := by omega
    walk_at "wps"
    refine ⟨st, ns, c1, 4, rfl, sset_same, sc, by decide, by decide, fun u c2 u0 u1 sc => ?_⟩
    rw [sset_sset]
    walk_at "wps"
    have fin : ∀ (a lim off : Int), 0 < lim → lim ≤ 64 → 1 ≤ off → off + lim ≤ 65 → ∀ c, StC ns c → c__law_pick [D.hd (V.ref st), D.int lim] (sset μ st (Cell.lst c)) (fun y μ2 => oI0 (fun i j => D.int (i + j)) (D.int off) y μ2 fun x μ1 => 2 ≤ 100000 ∧ ∃ μ2, DW.Sub μ2 μ1 ∧ Φ (D.tup [x, D.int (1 + (k : Int))]) μ2) fun x x_2 => False := fun _ lim off l0 l1 o1 o2 c sc => by
      refine ⟨st, ns, c, lim, rfl, sset_same, sc, l0, by have := Nat.log2_le_self lim.natAbs; omega, fun v c3 v0 v1 sc3 => ?_⟩
      rw [sset_sset]
      walk_at "wps"
      have e1 : off + v = (((off + v).toNat : Nat) : Int) := by omega
      rw [e1, ek]
      exact ⟨by decide, ret_same (h _ _ c3 ⟨by omega, by omega, by omega, by omega⟩ sc3)⟩
    refine ⟨fun e0 => ?_, fun e0 => ⟨fun e1 => ?_, fun e1 => ?_⟩⟩
    · exact fin 0 64 1 (by decide) (by decide) (by decide) (by decide) _ sc
    · rw [show 1 + (k : Int) - 1 = (k : Int) by omega]
      refine ⟨by decide, ?_⟩
      rcases (show k = 0 ∨ k = 1 ∨ k = 2 ∨ k = 3 by omega) with rfl | rfl | rfl | rfl
      · exact ⟨_, rfl, fin 0 2 8 (by decide) (by decide) (by decide) (by decide) _ sc⟩
      · exact ⟨_, rfl, fin 0 2 8 (by decide) (by decide) (by decide) (by decide) _ sc⟩
      · exact ⟨_, rfl, fin 0 2 5 (by decide) (by decide) (by decide) (by decide) _ sc⟩
      · exact ⟨_, rfl, fin 0 2 4 (by decide) (by decide) (by decide) (by decide) _ sc⟩
    · rw [show 1 + (k : Int) - 1 = (k : Int) by omega]
      refine ⟨by decide, ?_⟩
      rcases (show k = 0 ∨ k = 1 ∨ k = 2 ∨ k = 3 by omega) with rfl | rfl | rfl | rfl
      · exact ⟨_, rfl, fin 0 4 1 (by decide) (by decide) (by decide) (by decide) _ sc⟩
      · exact ⟨_, rfl, fin 0 4 1 (by decide) (by decide) (by decide) (by decide) _ sc⟩
      · exact ⟨_, rfl, fin 0 3 1 (by decide) (by decide) (by decide) (by decide) _ sc⟩
      · exact ⟨_, rfl, fin 0 2 1 (by decide) (by decide) (by decide) (by decide) _ sc⟩
def sgl (d : D) : Prop := ∃ w its, d = .tup (.str w :: its) ∧ (w = "table" → ∃ rows, its = [.tup rows])
def W12 : List Str := ["any", "best", "second", "most", "fewest", "fixed", "like", "unlike", "among", "only", "table", "best"]
theorem trm_1 {L j : Nat} {a : D} (hL : 1 ≤ L) (ha : trm L j a) : trm L (j + 1) (.tup [a]) := ⟨by simp; omega, fun d hd => by simp at hd; rw [hd]; exact ha⟩
theorem trm_2 {L j : Nat} {a b : D} (hL : 2 ≤ L) (ha : trm L j a) (hb : trm L j b) : trm L (j + 1) (.tup [a, b]) := ⟨by simp; omega, fun d hd => by simp at hd; rcases hd with rfl | rfl <;> assumption⟩
theorem trm_3 {L j : Nat} {a b c : D} (hL : 3 ≤ L) (ha : trm L j a) (hb : trm L j b) (hc : trm L j c) : trm L (j + 1) (.tup [a, b, c]) := ⟨by simp; omega, fun d hd => by simp at hd; rcases hd with rfl | rfl | rfl <;> assumption⟩
theorem asc_len {n : Nat} : ∀ {l : List Int} {lo : Int}, Asc n lo l → 0 ≤ lo → lo + l.length ≤ n ∨ l = []
  | [], _, _, _ => .inr rfl
  | x :: r, lo, h, h0 => .inl (by
    obtain ⟨h1, h2, h3⟩ := h
    rw [List.length_cons]
    rcases asc_len h3 (by omega) with q | rfl
    · omega
    · simp; omega)
theorem asc_len' {n : Nat} {l : List Int} (h : Asc n 0 l) : l.length ≤ n := by
  rcases asc_len h (by omega) with q | rfl
  · omega
  · simp
def c__law_single : Con := fun ds μ Φ _ => ∃ (st : Addr) (ns : List Int) (c : List D) (n k : Nat), ds = [.hd (.ref st), .int n, .int k] ∧ μ st = some (.lst c) ∧ StC ns c ∧ SzOk n k ∧ ∀ d c', trm 256 3 d → sgl d → StC ns c' → Φ d (sset μ st (.lst c'))
theorem len__law_single {ds μ Φ Ψ} (h : c__law_single ds μ Φ Ψ) : ds.length = 3 := by obtain ⟨_, _, _, _, _, rfl, _⟩ := h; rfl
theorem ok__law_single (T : Txt P w K mg) : FnOk P w K mg base (L2N.CX P w) 3 T.f__law_single T.d__law_single ["_law_state", "_law_n", "_law_k"] (spOf K c__law_single) := by
  refine def_okC T.F__law_single sc__law_single _ (fun ds μ Φ Ψ h => len__law_single h) (fun cdv A outer s H E B hW hr =>
    have tk : L2N.Takes (cxOf (L2N.CX P w) P w K mg base N__law_single "_law_single" (defScope s__law_single) T.f__law_single cdv A outer s H E) (fun cls d _ H => E cls d H) := L2N.takes_of rfl rfl rfl rfl
    ⟨_, (pss_cons (ps_set (i := 3) sc__law_single.nd rfl (Or.inl rfl) (pe_lst (pa_cons pe_str (pa_cons pe_str (pa_cons pe_str (pa_cons pe_str (pa_cons pe_str (pa_cons pe_str (pa_cons pe_str (pa_cons pe_str (pa_cons pe_str (pa_cons pe_str (pa_cons pe_str (pa_cons pe_str pa_nil))))))))))))))
      (pss_cons (ps_set (i := 4) sc__law_single.nd rfl (Or.inl rfl) (pe_ix ix_list (pv 3) (pe_call (ok__law_pick T) (hr.mono (by decide)) rfl T.g__law_pick T.F__law_pick.kp T.b__law_pick .nil passN (pa_cons (pv 0) (pa_cons pe_int pa_nil))) (fun _ _ => rfl)))
      (pss_cons (ps_if (pt_cmpR op_in_seq (pv 4) (pe_lst (pa_cons pe_str (pa_cons pe_str pa_nil))) (by with_unfolding_all rfl)) (pss_one (ps_ret (pe_tupN (pa_cons (pv 4) (pa_cons (pe_callTy call_tupleN (by rfl) T.z_tuple (by decide +kernel) (pa_cons (pe_lc (own := [("_law_r", 5)]) rfl sc__law_single.nd (pi_range1 rfl T.z_range (pa_cons (pv 2) pa_nil)) (blkOk_by (N := N__law_single) (sc := defScope s__law_single) (by decide +kernel)) (fun _ _ _ _ _ => (pg_name (i := 5) sc__law_single.nd rfl (Or.inl rfl))) (fun _ _ _ _ _ => pts_nil) (fun _ _ _ _ _ => (pe_call (ok__law_pick T) (hr.mono (by decide)) rfl T.g__law_pick T.F__law_pick.kp T.b__law_pick .nil passN (pa_cons (pv 0) (pa_cons pe_int pa_nil))))) pa_nil)) pa_nil))))) pss_nil)
      (pss_cons (ps_if (pt_cmpR op_in_seq (pv 4) (pe_lst (pa_cons pe_str (pa_cons pe_str pa_nil))) (by with_unfolding_all rfl)) (pss_one (ps_ret (pe_tupN (pa_cons (pv 4) (pa_cons (pe_call (ok__law_pick T) (hr.mono (by decide)) rfl T.g__law_pick T.F__law_pick.kp T.b__law_pick .nil passN (pa_cons (pv 0) (pa_cons (pv 1) pa_nil))) pa_nil))))) pss_nil)
      (pss_cons (ps_if (pt_cmpR op_eq (pv 4) pe_str (nomark _)) (pss_one (ps_ret (pe_tupN (pa_cons (pv 4) (pa_cons (pe_call (ok__law_some T) hr rfl T.g__law_some T.F__law_some.kp T.b__law_some .nil passN (pa_cons (pv 0) (pa_cons (pv 2) pa_nil))) pa_nil))))) pss_nil)
      (pss_cons (ps_if (pt_cmpR op_eq (pv 4) pe_str (nomark _)) (pss_one (ps_ret (pe_tupN (pa_cons (pv 4) (pa_cons (pe_call (ok__law_some T) hr rfl T.g__law_some T.F__law_some.kp T.b__law_some .nil passN (pa_cons (pv 0) (pa_cons (pv 1) pa_nil))) pa_nil))))) pss_nil)
      (pss_cons (ps_if (PW.pt (pw_and (pt_cmpR op_eq (pv 4) pe_str (nomark _)) (pw_and1 (pt_cmpR op_gt (pe_call (ok__law_contexts T) (hr.mono (by decide)) rfl T.g__law_contexts T.F__law_contexts.kp T.b__law_contexts .nil passN (pa_cons (pv 1) (pa_cons (pv 2) pa_nil))) pe_int (nomark _))))) (pss_one (ps_ret (pe_tupN (pa_cons (pv 4) (pa_cons (pe_tupN pa_nil) pa_nil))))) pss_nil)
      (pss_cons (ps_if (pt_cmpR op_eq (pv 4) pe_str (nomark _)) (pss_one (ps_ret (pe_tupN (pa_cons (pv 4) (pa_cons (pe_callTy call_tupleN (by rfl) T.z_tuple (by decide +kernel) (pa_cons (pe_lc (own := [("_law_p", 6)]) rfl sc__law_single.nd (pi_range1 rfl T.z_range (pa_cons (pe_call (ok__law_contexts T) (hr.mono (by decide)) rfl T.g__law_contexts T.F__law_contexts.kp T.b__law_contexts .nil passN (pa_cons (pv 1) (pa_cons (pv 2) pa_nil))) pa_nil)) (blkOk_by (N := N__law_single) (sc := defScope s__law_single) (by decide +kernel)) (fun _ _ _ _ _ => (pg_name (i := 6) sc__law_single.nd rfl (Or.inl rfl))) (fun _ _ _ _ _ => pts_nil) (fun _ _ _ _ _ => (pe_call (ok__law_some T) hr rfl T.g__law_some T.F__law_some.kp T.b__law_some .nil passN (pa_cons (pv 0) (pa_cons (pv 1) pa_nil))))) pa_nil)) pa_nil))))) pss_nil)
      (pss_one (ps_ret (pe_tupN (pa_cons (pv 4) pa_nil)))))))))))),
      (sSeq (sAsg (sLst (sCons sStr (sCons sStr (sCons sStr (sCons sStr (sCons sStr (sCons sStr (sCons sStr (sCons sStr (sCons sStr (sCons sStr (sCons sStr (sCons sStr sNil))))))))))))) sName)
      (sSeq (sAsg (sOp roIxL sVar (sCall (sCons sVar (sCons sInt sNil)))) sName)
      (sSeq (sIfS (sTest (sOp (roIn (neg := false)) sVar (sLst (sCons sStr (sCons sStr sNil))))) (sRet (sTup (sCons sVar (sCons (sCB rcTuple (sCons (sLc (siR1 sVar) (gwName List.mem_cons_self) (fun _ _ _ => sName) (fun _ _ _ => sYes) (fun _ _ _ => (sCall (sCons sVar (sCons sInt sNil))))) sNil)) sNil)))) sNext)
      (sSeq (sIfS (sTest (sOp (roIn (neg := false)) sVar (sLst (sCons sStr (sCons sStr sNil))))) (sRet (sTup (sCons sVar (sCons (sCall (sCons sVar (sCons sVar sNil))) sNil)))) sNext)
      (sSeq (sIfS (sTest (sOp roEq sVar sStr)) (sRet (sTup (sCons sVar (sCons (sCall (sCons sVar (sCons sVar sNil))) sNil)))) sNext)
      (sSeq (sIfS (sTest (sOp roEq sVar sStr)) (sRet (sTup (sCons sVar (sCons (sCall (sCons sVar (sCons sVar sNil))) sNil)))) sNext)
      (sSeq (sIfS (sAnd (sTest (sOp roEq sVar sStr)) (sTest (sOp roBl0 (sCall (sCons sVar (sCons sVar sNil))) sInt))) (sRet (sTup (sCons sVar (sCons (sTup sNil) sNil)))) sNext)
      (sSeq (sIfS (sTest (sOp roEq sVar sStr)) (sRet (sTup (sCons sVar (sCons (sCB rcTuple (sCons (sLc (siR1 (sCall (sCons sVar (sCons sVar sNil)))) (gwName List.mem_cons_self) (fun _ _ _ => sName) (fun _ _ _ => sYes) (fun _ _ _ => (sCall (sCons sVar (sCons sVar sNil))))) sNil)) sNil)))) sNext)
      (sRet (sTup (sCons sVar sNil)))))))))))⟩) (fun ds μ Φ Ψ h => ?hv)
  case hv =>
    obtain ⟨st, ns, c, n, k, rfl, hst, hc, hs, h⟩ := h
    have k1 := hs.k1
    have k4 := hs.k4
    have n1 := hs.n1
    have n64 := hs.n64
    refine seq_cut fun M hM => ?_
    walk_at "wp"
    refine ⟨by omega, ?_⟩
    rw [hM]; clear hM M
    refine seq_cut fun M hM => ?_
    walk_at "wp"
    refine ⟨st, ns, c, 12, rfl, hst, hc, by decide, by decide, fun r c2 r0 r1 sc => ?_⟩
    have hr : r.toNat < W12.length := by show r.toNat < 12; omega
    refine ⟨W12.map .str, r, .str W12[r.toNat], .lst _, rfl, rfl, atI_map r0 hr, ?_⟩
    generalize W12[r.toNat] = w'
    clear hr r0 r1
    rw [hM]; clear hM M
    have hst2 : sset μ st (.lst c2) st = some (.lst c2) := sset_same
    refine seq_cut fun M hM => ?_
    walk_at "wp"
    refine ⟨by decide, in_S (l := ["best", "second"]) ?_⟩
    refine ⟨_, rfl, fun hb => ?_, fun hb => ?_⟩
    · refine ⟨by omega, by omega, lcNum (lim := 10) (ns := ns) (by omega) sset_same sc (fun i μ2 X c4 hs4 sc4 hx => ?_) (fun l c4 hl sc4 => ?_)⟩
      · walk_at "wps"
        exact ⟨st, ns, c4, 10, rfl, hs4, sc4, by decide, by decide, fun y c5 y0 y1 sc5 => hx y c5 sc5 y0 y1⟩
      · refine ⟨_, .lst _, by decide, ret_same ?_⟩
        rw [sset_sset]
        refine h _ c4 (trm_2 (by decide) trm_str (trm_I (by rw [hl.1]; omega))) ⟨_, _, rfl, fun e => ?_⟩ sc4
        rw [e] at hb
        exact absurd hb (by decide)
    · rw [hM]; clear hM M
      refine seq_cut fun M hM => ?_
      walk_at "wp"
      refine ⟨by decide, in_S (l := ["like", "unlike"]) ?_⟩
      refine ⟨_, rfl, fun hl => ?_, fun hl => ?_⟩
      · refine ⟨st, ns, c2, n, rfl, hst2, sc, by omega, by rw [Int.natAbs_natCast]; have := Nat.log2_le_self n; omega, fun r c3 r0 r1 sc3 => ⟨by decide, ret_same ?_⟩⟩
        rw [sset_sset]
        refine h _ c3 (trm_2 (by decide) trm_str trm_int) ⟨_, _, rfl, fun e => ?_⟩ sc3
        rw [e] at hl
        exact absurd hl (by decide)
      · rw [hM]; clear hM M
        walk_at "wps"
        refine ⟨fun e => ⟨st, ns, c2, k, rfl, hst2, sc, by omega, fun l c3 as sc3 => ⟨by decide, ret_same ?_⟩⟩, fun e1 => ⟨fun e => ⟨st, ns, c2, n, rfl, hst2, sc, by omega, fun l c3 as sc3 => ⟨by decide, ret_same ?_⟩⟩, fun e2 => ?_⟩⟩
        · rw [sset_sset]
          exact h _ c3 (trm_2 (by decide) trm_str (trm_I (by have := asc_len' as; omega))) ⟨_, _, rfl, fun z => absurd (e.symm.trans z) (by decide)⟩ sc3
        · rw [sset_sset]
          exact h _ c3 (trm_2 (by decide) trm_str (trm_I (by have := asc_len' as; omega))) ⟨_, _, rfl, fun z => absurd (e.symm.trans z) (by decide)⟩ sc3
        · have htup0 : trm 256 2 (.tup []) := ⟨by decide, by simp⟩
          refine ⟨fun e => ⟨n, k, rfl, n64, k4, k1, ?_⟩, fun e => ⟨fun z => absurd z e, fun _ => ⟨by decide, ret_same (h _ c2 (trm_1 (by decide) trm_str) ⟨_, _, rfl, fun z => absurd z e⟩ sc)⟩⟩⟩
          obtain ⟨m, hm⟩ : ∃ m, m = k ^ n := ⟨_, rfl⟩
          rw [← hm]
          walk_at "wps"
          refine ⟨fun q => ⟨by decide, by decide, ret_same (h _ c2 (trm_2 (by decide) trm_str htup0) ⟨_, _, rfl, fun _ => ⟨[], rfl⟩⟩ sc)⟩, fun q => ?_⟩
          have hm256 : m ≤ 256 := by omega
          refine ⟨fun _ => ⟨n, k, rfl, n64, k4, k1, _, rfl, by omega, by omega, ?_⟩, fun z => absurd e z⟩
          rw [Int.toNat_natCast, ← hm]
          refine lcG_drawN (StC ns) (fun i acc => acc.length = i ∧ ∀ d ∈ acc, trm 256 1 d) (by rw [rngD_len]; omega) hst2 sc ⟨rfl, by simp⟩ (fun i d μ2 X acc c3 hi hs2 sc3 ⟨rl, ra⟩ hla hx => ?_) (fun acc c3 ⟨rl, ra⟩ hla sc3 => ?_)
          · walk_at "wps"
            refine ⟨st, ns, c3, n, rfl, hs2, sc3, by omega, fun l c4 as sc4 => hx _ c4 sc4 ⟨by rw [List.length_append, rl]; rfl, fun d' hd' => ?_⟩⟩
            rcases List.mem_append.mp hd' with q | q
            · exact ra d' q
            · rw [List.mem_singleton.mp q]; exact trm_I (by have := asc_len' as; omega)
          · rw [rngD_len] at rl
            refine ⟨_, .lst _, by decide, ret_same ?_⟩
            rw [sset_sset]
            exact h _ c3 (trm_2 (by decide) trm_str (trm_tup (by omega) ra)) ⟨_, _, rfl, fun _ => ⟨_, rfl⟩⟩ sc3
end
section
variable {P : Program} {w : World} {K : Fg} {mg : Str → Option Value} {base : Heap}
def c__law_wrapped : Con := fun ds μ Φ _ => ∃ (st : Addr) (ns : List Int) (c : List D) (n k j : Nat) (t : D), ds = [.hd (.ref st), t, .int n, .int k] ∧ μ st = some (.lst c) ∧ StC ns c ∧ SzOk n k ∧ trm 256 j t ∧ 4 ≤ j ∧ ∀ d c', trm 256 (j + 1) d → StC ns c' → Φ d (sset μ st (.lst c'))
theorem len__law_wrapped {ds μ Φ Ψ} (h : c__law_wrapped ds μ Φ Ψ) : ds.length = 4 := by obtain ⟨_, _, _, _, _, _, _, rfl, _⟩ := h; rfl
def W7 : List Str := ["either", "both", "else", "not", "first", "recode", "reorder"]
theorem ok__law_wrapped (T : Txt P w K mg) : FnOk P w K mg base (L2N.CX P w) 4 T.f__law_wrapped T.d__law_wrapped ["_law_state", "_law_term", "_law_n", "_law_k"] (spOf K c__law_wrapped) := by
  refine def_okC T.F__law_wrapped sc__law_wrapped _ (fun ds μ Φ Ψ h => len__law_wrapped h) (fun cdv A outer s H E B hW hr =>
    have tk : L2N.Takes (cxOf (L2N.CX P w) P w K mg base N__law_wrapped "_law_wrapped" (defScope s__law_wrapped) T.f__law_wrapped cdv A outer s H E) (fun cls d _ H => E cls d H) := L2N.takes_of rfl rfl rfl rfl
    ⟨_, (pss_cons (ps_set (i := 4) sc__law_wrapped.nd rfl (Or.inl rfl) (pe_ix ix_list (pe_lst (pa_cons pe_str (pa_cons pe_str (pa_cons pe_str (pa_cons pe_str (pa_cons pe_str (pa_cons pe_str (pa_cons pe_str pa_nil)))))))) (pe_call (ok__law_pick T) (hr.mono (by decide)) rfl T.g__law_pick T.F__law_pick.kp T.b__law_pick .nil passN (pa_cons (pv 0) (pa_cons pe_int pa_nil))) (fun _ _ => rfl)))
      (pss_cons (ps_if (pt_cmpR op_in_seq (pv 4) (pe_lst (pa_cons pe_str (pa_cons pe_str pa_nil))) (by with_unfolding_all rfl)) (pss_one (ps_ret (pe_tupN (pa_cons (pv 4) (pa_cons (pv 1) pa_nil))))) pss_nil)
      (pss_cons (ps_if (pt_cmpR op_eq (pv 4) pe_str (nomark _)) (pss_one (ps_ret (pe_tupN (pa_cons (pv 4) (pa_cons (pe_callTy call_tupleN (by rfl) T.z_tuple (by decide +kernel) (pa_cons (pe_lc (own := [("_law_r", 6)]) rfl sc__law_wrapped.nd (pi_range1 rfl T.z_range (pa_cons (pv 3) pa_nil)) (blkOk_by (N := N__law_wrapped) (sc := defScope s__law_wrapped) (by decide +kernel)) (fun _ _ _ _ _ => (pg_name (i := 6) sc__law_wrapped.nd rfl (Or.inl rfl))) (fun _ _ _ _ _ => pts_nil) (fun _ _ _ _ _ => (pe_call (ok__law_pick T) (hr.mono (by decide)) rfl T.g__law_pick T.F__law_pick.kp T.b__law_pick .nil passN (pa_cons (pv 0) (pa_cons (pv 3) pa_nil))))) pa_nil)) (pa_cons (pv 1) pa_nil)))))) pss_nil)
      (pss_cons (ps_if (pt_cmpR op_eq (pv 4) pe_str (nomark _)) (pss_one (ps_ret (pe_tupN (pa_cons (pv 4) (pa_cons (pe_call (ok__law_places T) (hr.mono (by decide)) rfl T.g__law_places T.F__law_places.kp T.b__law_places .nil passN (pa_cons (pv 0) (pa_cons (pv 2) pa_nil))) (pa_cons (pv 1) pa_nil)))))) pss_nil)
      (pss_cons (ps_set (i := 5) sc__law_wrapped.nd rfl (Or.inl rfl) (pe_call (ok__law_single T) hr rfl T.g__law_single T.F__law_single.kp T.b__law_single .nil passN (pa_cons (pv 0) (pa_cons (pv 2) (pa_cons (pv 3) pa_nil)))))
      (pss_cons (ps_if (PW.pt (pw_and (pt_cmpR op_eq (pe_ix ix_tup (pv 5) pe_int (fun _ _ => rfl)) pe_str (nomark _)) (pw_and1 (pt_cmpR op_gt (pe_callB call_len_seq (by rfl) T.z_len PySem.boot_len (pa_cons (pe_ix ix_tup (pv 5) pe_int (fun _ _ => rfl)) pa_nil)) pe_int (nomark _))))) (pss_one (ps_set (i := 5) sc__law_wrapped.nd rfl (Or.inl rfl) (pe_tupN (pa_cons pe_str pa_nil)))) pss_nil)
      (pss_cons (ps_if (pt_cmpR op_eq (pe_call (ok__law_pick T) (hr.mono (by decide)) rfl T.g__law_pick T.F__law_pick.kp T.b__law_pick .nil passN (pa_cons (pv 0) (pa_cons pe_int pa_nil))) pe_int (nomark _)) (pss_one (ps_set (i := 5) sc__law_wrapped.nd rfl (Or.inl rfl) (pe_tupN (pa_cons pe_str (pa_cons (pv 5) pa_nil))))) pss_nil)
      (pss_cons (ps_if (pt_cmpR op_eq (pe_call (ok__law_pick T) (hr.mono (by decide)) rfl T.g__law_pick T.F__law_pick.kp T.b__law_pick .nil passN (pa_cons (pv 0) (pa_cons pe_int pa_nil))) pe_int (nomark _)) (pss_one (ps_ret (pe_tupN (pa_cons (pv 4) (pa_cons (pv 5) (pa_cons (pv 1) pa_nil)))))) pss_nil)
      (pss_one (ps_ret (pe_tupN (pa_cons (pv 4) (pa_cons (pv 1) (pa_cons (pv 5) pa_nil)))))))))))))),
      (sSeq (sAsg (sOp roIxL (sLst (sCons sStr (sCons sStr (sCons sStr (sCons sStr (sCons sStr (sCons sStr (sCons sStr sNil)))))))) (sCall (sCons sVar (sCons sInt sNil)))) sName)
      (sSeq (sIfS (sTest (sOp (roIn (neg := false)) sVar (sLst (sCons sStr (sCons sStr sNil))))) (sRet (sTup (sCons sVar (sCons sVar sNil)))) sNext)
      (sSeq (sIfS (sTest (sOp roEq sVar sStr)) (sRet (sTup (sCons sVar (sCons (sCB rcTuple (sCons (sLc (siR1 sVar) (gwName List.mem_cons_self) (fun _ _ _ => sName) (fun _ _ _ => sYes) (fun _ _ _ => (sCall (sCons sVar (sCons sVar sNil))))) sNil)) (sCons sVar sNil))))) sNext)
      (sSeq (sIfS (sTest (sOp roEq sVar sStr)) (sRet (sTup (sCons sVar (sCons (sCall (sCons sVar (sCons sVar sNil))) (sCons sVar sNil))))) sNext)
      (sSeq (sAsg (sCall (sCons sVar (sCons sVar (sCons sVar sNil)))) sName)
      (sSeq (sIfS (sAnd (sTest (sOp roEq (sOp roIxT sVar sInt) sStr)) (sTest (sOp roBl0 (sCB rcLen (sCons (sOp roIxT sVar sInt) sNil)) sInt))) (sAsg (sTup (sCons sStr sNil)) sName) sNext)
      (sSeq (sIfS (sTest (sOp roEq (sCall (sCons sVar (sCons sInt sNil))) sInt)) (sAsg (sTup (sCons sStr (sCons sVar sNil))) sName) sNext)
      (sSeq (sIfS (sTest (sOp roEq (sCall (sCons sVar (sCons sInt sNil))) sInt)) (sRet (sTup (sCons sVar (sCons sVar (sCons sVar sNil))))) sNext)
      (sRet (sTup (sCons sVar (sCons sVar (sCons sVar sNil)))))))))))))⟩) (fun ds μ Φ Ψ h => ?hv)
  case hv =>
    obtain ⟨st, ns, c, n, k, j, t, rfl, hst, hc, hs, ht, hj, h⟩ := h
    have k1 := hs.k1
    have k4 := hs.k4
    have n1 := hs.n1
    have n64 := hs.n64
    obtain ⟨j, rfl⟩ : ∃ i, j = i + 1 := ⟨j - 1, by omega⟩
    refine seq_cut fun M hM => ?_
    walk_at "wp"
    refine ⟨by omega, ?_⟩
    refine ⟨st, ns, c, 7, rfl, hst, hc, by decide, by decide, fun r c2 r0 r1 sc => ?_⟩
    have hr : r.toNat < W7.length := by show r.toNat < 7; omega
    refine ⟨W7.map .str, r, .str W7[r.toNat], .lst _, rfl, rfl, atI_map r0 hr, ?_⟩
    generalize W7[r.toNat] = w'
    clear hr r0 r1
    rw [hM]; clear hM M
    have hst2 : sset μ st (.lst c2) st = some (.lst c2) := sset_same
    refine seq_cut fun M hM => ?_
    walk_at "wp"
    refine ⟨by decide, in_S (l := ["not", "first"]) ?_⟩
    refine ⟨_, rfl, fun hb => ⟨by decide, ret_same (h _ c2 (trm_2 (by decide) trm_str ht) sc)⟩, fun hb => ?_⟩
    rw [hM]; clear hM M
    refine seq_cut fun M hM => ?_
    walk_at "wp"
    refine ⟨fun e => ?_, fun e1 => ?_⟩
    · refine ⟨by omega, by omega, lcNum (lim := k) (ns := ns) (by omega) sset_same sc (fun i μ2 X c4 hs4 sc4 hx => ?_) (fun l c4 hl sc4 => ?_)⟩
      · walk_at "wps"
        exact ⟨st, ns, c4, k, rfl, hs4, sc4, by omega, by rw [Int.natAbs_natCast]; have := Nat.log2_le_self k; omega, fun y c5 y0 y1 sc5 => hx y c5 sc5 y0 y1⟩
      · refine ⟨_, .lst _, by decide, ret_same ?_⟩
        rw [sset_sset]
        exact h _ c4 (trm_3 (by decide) trm_str (trm_I (by rw [hl.1]; omega)) ht) sc4
    · rw [hM]; clear hM M
      refine seq_cut fun M hM => ?_
      walk_at "wp"
      refine ⟨fun e => ?_, fun e2 => ?_⟩
      · refine ⟨st, ns, c2, n, rfl, hst2, sc, by omega, fun l c3 hl _ sc3 => ⟨by decide, ret_same ?_⟩⟩
        rw [sset_sset]
        exact h _ c3 (trm_3 (by decide) trm_str (trm_I (by rw [hl.1]; omega)) ht) sc3
      · rw [hM]; clear hM M
        refine seq_cut fun M hM => ?_
        walk_at "wp"
        refine ⟨st, ns, c2, n, k, rfl, hst2, sc, hs, fun d c3 hd hsg sc3 => ?_⟩
        rw [sset_sset]
        rw [hM]; clear hM M
        refine seq_cut fun M hM => ?_
        have rest : ∀ d, trm 256 3 d → M [some (.hd (.ref st)), some t, some (.int n), some (.int k), some (.str w'), some d, none] (sset μ st (.lst c3)) := by
          intro d hd
          rw [hM]; clear hM M
          refine seq_cut fun M hM => ?_
          have rest : ∀ d c, trm 256 4 d → StC ns c → M [some (.hd (.ref st)), some t, some (.int n), some (.int k), some (.str w'), some d, none] (sset μ st (.lst c)) := by
            intro d c hd sc
            rw [hM]; clear hM M
            walk_at "wps"
            refine ⟨st, ns, c, 2, rfl, sset_same, sc, by decide, by decide, fun r c4 r0 r1 sc4 => ?_⟩
            rw [sset_sset]
            walk_at "wps"
            have hd2 : trm 256 (j + 1) d := trm_mono (by omega) (by omega) hd
            exact ⟨fun _ => ⟨by decide, ret_same (h _ c4 (trm_3 (by decide) trm_str hd2 ht) sc4)⟩, fun _ => ⟨by decide, ret_same (h _ c4 (trm_3 (by decide) trm_str ht hd2) sc4)⟩⟩
          walk_at "wp"
          refine ⟨st, ns, c3, 2, rfl, sset_same, sc3, by decide, by decide, fun r c4 r0 r1 sc4 => ?_⟩
          rw [sset_sset]
          walk_at "wp"
          exact ⟨fun _ => ⟨by decide, rest _ _ (trm_2 (by decide) trm_str hd) sc4⟩, fun _ => rest _ _ (trm_mono (by omega) (by omega) hd) sc4⟩
        obtain ⟨w2, its, rfl, htab⟩ := hsg
        walk_at "wp"
        refine ⟨fun e => ?_, fun _ => rest _ hd⟩
        obtain ⟨rows, rfl⟩ := htab e
        refine ⟨.tup rows, rfl, rows, .tup _, fun _ => ⟨by decide, rest _ (trm_1 (by decide) trm_str)⟩, fun _ => rest _ hd⟩
end
section
variable {P : Program} {w : World} {K : Fg} {mg : Str → Option Value} {base : Heap}
theorem cut_sub {ds : List D} {lo hi : Option Int} : (∀ d ∈ DW.cutD ds lo hi, d ∈ ds) ∧ (DW.cutD ds lo hi).length ≤ ds.length := by
  unfold DW.cutD
  refine ⟨fun d hd => List.mem_of_mem_drop (List.mem_of_mem_take hd), ?_⟩
  rw [List.length_take, List.length_drop]
  omega
theorem trm_cut {L j : Nat} {ds : List D} {lo hi : Option Int} (hl : ds.length ≤ L) (h : ∀ d ∈ ds, trm L j d) : trm L (j + 1) (.tup (DW.cutD ds lo hi)) := ⟨Nat.le_trans cut_sub.2 hl, fun d hd => h d (cut_sub.1 d hd)⟩
def c__law_bent : Con := fun ds μ Φ _ => ∃ (st : Addr) (ns : List Int) (c : List D) (n k L j : Nat) (t : D), ds = [.hd (.ref st), t, .int n, .int k] ∧ μ st = some (.lst c) ∧ StC ns c ∧ trm L j t ∧ L ≤ 10000 ∧ ∀ d c', trm (2 * L + 2) (j + 1) d → StC ns c' → Φ d (sset μ st (.lst c'))
theorem len__law_bent {ds μ Φ Ψ} (h : c__law_bent ds μ Φ Ψ) : ds.length = 4 := by obtain ⟨_, _, _, _, _, _, _, _, rfl, _⟩ := h; rfl
theorem at_all {ds : List D} {P : D → Prop} {r : Int} (h0 : 0 ≤ r) (h1 : r < ds.length) (h : ∀ d ∈ ds, P d) : ∃ d, atI ds r = some d ∧ P d := by
  obtain ⟨j, rfl⟩ : ∃ j : Nat, r = (j : Int) := ⟨r.toNat, by omega⟩
  have hj : j < ds.length := by omega
  exact ⟨ds[j], atI_nat (List.getElem?_eq_getElem hj), h _ (List.getElem_mem hj)⟩
def WB22 : List Str := ["any", "best", "second", "most", "fewest", "fixed", "like", "unlike", "among", "only", "table", "either", "both", "else", "not", "first", "recode", "reorder", "worst", "tell", "anys", "bes"]
theorem ok__law_bent (T : Txt P w K mg) : FnOk P w K mg base (L2N.CX P w) 2 T.f__law_bent T.d__law_bent ["_law_state", "_law_part", "_law_n", "_law_k"] (spOf K c__law_bent) := by
  refine def_okC T.F__law_bent sc__law_bent _ (fun ds μ Φ Ψ h => len__law_bent h) (fun cdv A outer s H E B hW hr =>
    have tk : L2N.Takes (cxOf (L2N.CX P w) P w K mg base N__law_bent "_law_bent" (defScope s__law_bent) T.f__law_bent cdv A outer s H E) (fun cls d _ H => E cls d H) := L2N.takes_of rfl rfl rfl rfl
    ⟨_, (pss_cons (ps_set (i := 4) sc__law_bent.nd rfl (Or.inl rfl) (pe_call (ok__law_pick T) hr rfl T.g__law_pick T.F__law_pick.kp T.b__law_pick .nil passN (pa_cons (pv 0) (pa_cons pe_int pa_nil))))
      (pss_cons (ps_if (pt_val (pe_callB call_isi (by rfl) T.z_isinstance (by decide +kernel) (pa_cons (pv 1) (pa_cons (pe_bltn (v := .ty "str") rfl T.z_str (by decide +kernel) rfl) pa_nil)))) (pss_cons (ps_set (i := 6) sc__law_bent.nd rfl (Or.inl rfl) (pe_lst (pa_cons pe_str (pa_cons pe_str (pa_cons pe_str (pa_cons pe_str (pa_cons pe_str (pa_cons pe_str (pa_cons pe_str (pa_cons pe_str (pa_cons pe_str (pa_cons pe_str (pa_cons pe_str pa_nil)))))))))))))
      (pss_cons (ps_set (i := 6) sc__law_bent.nd rfl (Or.inl rfl) (pe_op op_cat (pv 6) (pe_lst (pa_cons pe_str (pa_cons pe_str (pa_cons pe_str (pa_cons pe_str (pa_cons pe_str (pa_cons pe_str (pa_cons pe_str (pa_cons pe_str (pa_cons pe_str (pa_cons pe_str (pa_cons pe_str pa_nil))))))))))))))
      (pss_one (ps_ret (pe_ifExp (pt_cmpR op_lt (pv 4) pe_int (nomark _)) (pe_ix ix_list (pe_lst (pa_cons pe_int (pa_cons (pe_tupN pa_nil) (pa_cons (pe_tupN (pa_cons (pv 1) pa_nil)) pa_nil)))) (pv 4) (fun _ _ => rfl)) (pe_ix ix_list (pv 6) (pe_call (ok__law_pick T) hr rfl T.g__law_pick T.F__law_pick.kp T.b__law_pick .nil passN (pa_cons (pv 0) (pa_cons (pe_callB call_len_seq (by rfl) T.z_len PySem.boot_len (pa_cons (pv 6) pa_nil)) pa_nil))) (fun _ _ => rfl))))))) pss_nil)
      (pss_cons (ps_if (pt_val (pe_callB call_isi (by rfl) T.z_isinstance (by decide +kernel) (pa_cons (pv 1) (pa_cons (pe_bltn (v := .ty "int") rfl T.z_int (by decide +kernel) rfl) pa_nil)))) (pss_one (ps_ret (pe_ix ix_list (pe_lst (pa_cons (pe_un un_neg pe_int) (pa_cons pe_int (pa_cons (pv 2) (pa_cons (pv 3) (pa_cons (pe_op op_add (pv 1) pe_int) (pa_cons pe_int (pa_cons (pv 1) (pa_cons (pe_tupN (pa_cons (pv 1) pa_nil)) (pa_cons pe_str (pa_cons (pe_tupN pa_nil) pa_nil))))))))))) (pv 4) (fun _ _ => rfl)))) pss_nil)
      (pss_cons (ps_set (i := 5) sc__law_bent.nd rfl (Or.inl rfl) (pe_lst (pa_cons (pe_op op_catN (pv 1) (pe_tupN (pa_cons pe_int pa_nil))) (pa_cons (pe_slice sl_tupN (pv 1) (po_some pe_int) po_none) (pa_cons (pe_slice sl_tupN (pv 1) po_none (po_some (pe_un un_neg pe_int))) (pa_cons (pe_revT (pv 1)) (pa_cons (pe_op op_catN (pv 1) (pe_slice sl_tupN (pv 1) (po_some (pe_un un_neg pe_int)) po_none)) (pa_cons (pe_tupN (pa_cons (pv 1) pa_nil)) (pa_cons (pe_tupN (pa_cons pe_str (pa_cons (pv 1) pa_nil))) pa_nil)))))))))
      (pss_cons (ps_if (pt_cmpR op_lt (pv 4) pe_int (nomark _)) (pss_one (ps_ret (pe_ix ix_list (pv 5) (pv 4) (fun _ _ => rfl)))) pss_nil)
      (pss_one (ps_ret (pe_ix ix_list (pe_lst (pa_cons (pe_tupN pa_nil) (pa_cons (pv 2) (pa_cons pe_str pa_nil)))) (pe_op op_sub (pv 4) pe_int) (fun _ _ => rfl))))))))),
      (sSeq (sAsg (sCall (sCons sVar (sCons sInt sNil))) sName)
      (sSeq (sIfS (sB (sCB (rcIsi (T := "str")) (sCons sVar (sCons sHd sNil)))) (sSeq (sAsg (sLst (sCons sStr (sCons sStr (sCons sStr (sCons sStr (sCons sStr (sCons sStr (sCons sStr (sCons sStr (sCons sStr (sCons sStr (sCons sStr sNil)))))))))))) sName)
      (sSeq (sAsg (sOp roCatL sVar (sLst (sCons sStr (sCons sStr (sCons sStr (sCons sStr (sCons sStr (sCons sStr (sCons sStr (sCons sStr (sCons sStr (sCons sStr (sCons sStr sNil))))))))))))) sName)
      (sRet (sIf (sTest (sOp roBl0 sVar sInt)) (sOp roIxL (sLst (sCons sInt (sCons (sTup sNil) (sCons (sTup (sCons sVar sNil)) sNil)))) sVar) (sOp roIxL sVar (sCall (sCons sVar (sCons (sCB rcLen (sCons sVar sNil)) sNil)))))))) sNext)
      (sSeq (sIfS (sB (sCB (rcIsi (T := "int")) (sCons sVar (sCons sHd sNil)))) (sRet (sOp roIxL (sLst (sCons (sUn ruInt sInt) (sCons sInt (sCons sVar (sCons sVar (sCons (sOp roInt0 sVar sInt) (sCons sInt (sCons sVar (sCons (sTup (sCons sVar sNil)) (sCons sStr (sCons (sTup sNil) sNil))))))))))) sVar)) sNext)
      (sSeq (sAsg (sLst (sCons (sOp roCatT sVar (sTup (sCons sInt sNil))) (sCons (sSlT sVar (sPart sInt) sNoPart) (sCons (sSlT sVar sNoPart (sPart (sUn ruInt sInt))) (sCons (sRevT sVar) (sCons (sOp roCatT sVar (sSlT sVar (sPart (sUn ruInt sInt)) sNoPart)) (sCons (sTup (sCons sVar sNil)) (sCons (sTup (sCons sStr (sCons sVar sNil))) sNil)))))))) sName)
      (sSeq (sIfS (sTest (sOp roBl0 sVar sInt)) (sRet (sOp roIxL sVar sVar)) sNext)
      (sRet (sOp roIxL (sLst (sCons (sTup sNil) (sCons sVar (sCons sStr sNil)))) (sOp roInt0 sVar sInt))))))))⟩) (fun ds μ Φ Ψ h => ?hv)
  case hv =>
    obtain ⟨st, ns, c, n, k, L, j, t, rfl, hst, hc, ht, hL, h⟩ := h
    refine seq_cut fun M hM => ?_
    walk_at "wp"
    refine ⟨st, ns, c, 10, rfl, hst, hc, by decide, by decide, fun r c2 r0 r1 sc => ?_⟩
    have hst2 : sset μ st (.lst c2) st = some (.lst c2) := sset_same
    have ht2 : trm (2 * L + 2) j t := trm_mono (by omega) (Nat.le_refl _) ht
    have ht3 : trm (2 * L + 2) (j + 1) t := trm_mono (by omega) (by omega) ht
    have t1 : trm (2 * L + 2) (j + 1) (.tup [t]) := trm_1 (by omega) ht2
    have t0 : trm (2 * L + 2) (j + 1) (.tup []) := ⟨by simp, by simp⟩
    rw [hM]; clear hM M
    rcases trm_cases ht with ⟨i, rfl⟩ | ⟨s, rfl⟩ | ⟨es, j, rfl, rfl, hl, hx⟩
    · refine seq_cut fun M hM => ?_
      walk_at "wp"
      rw [hM]; clear hM M
      refine seq_cut fun M hM => ?_
      walk_at "wp"
      obtain ⟨d, hd, hp⟩ := at_all (P := fun d => trm (2 * L + 2) (j + 1) d) (ds := [D.int (-1), D.int 10, .int n, .int k, .int (i + 1), .int 9, .int i, .tup [.int i], .str "any", .tup []]) r0 (by simp only [List.length_cons, List.length_nil]; omega) (fun d hd => by
        simp only [List.mem_cons, List.not_mem_nil, or_false] at hd
        rcases hd with rfl | rfl | rfl | rfl | rfl | rfl | rfl | rfl | rfl | rfl <;> first | exact trm_int | exact trm_str | exact t1 | exact t0)
      exact ⟨by decide, by decide, by decide, d, hd, ret_same (h d c2 hp sc)⟩
    · refine seq_cut fun M hM => ?_
      walk_at "wp"
      refine seq_cut fun M2 hM2 => ?_
      walk_at "wp"
      refine ⟨by decide, ?_⟩
      rw [hM2]; clear hM2 M2
      refine seq_cut fun M2 hM2 => ?_
      walk_at "wp"
      refine ⟨by decide, by decide, ?_⟩
      change M2 [some (.hd (.ref st)), some (.str s), some (.int n), some (.int k), some (.int r), none, some (.lst (WB22.map .str))] (sset μ st (.lst c2))
      obtain ⟨ws, hws⟩ : ∃ ws, ws = WB22.map D.str := ⟨_, rfl⟩
      have hwl : ws.length = 22 := by rw [hws]; rfl
      have hwa : ∀ d ∈ ws, trm (2 * L + 2) (j + 1) d := fun d hd => by
        rw [hws] at hd
        obtain ⟨z, _, rfl⟩ := List.mem_map.mp hd
        exact trm_str
      rw [← hws]
      clear hws
      rw [hM2]; clear hM2 M2 hM
      walk_at "wps"
      refine ⟨fun q => ?_, fun q => ?_⟩
      · obtain ⟨d, hd, hp⟩ := at_all (P := fun d => trm (2 * L + 2) (j + 1) d) (ds := [D.int 0, .tup [], .tup [.str s]]) r0 (by simp only [List.length_cons, List.length_nil]; omega) (fun d hd => by
          simp only [List.mem_cons, List.not_mem_nil, or_false] at hd
          rcases hd with rfl | rfl | rfl <;> first | exact trm_int | exact t0 | exact t1)
        exact ⟨by decide, by decide, by decide, d, hd, ret_same (h d c2 hp sc)⟩
      · rw [hwl]
        refine ⟨st, ns, c2, 22, rfl, hst2, sc, by decide, by decide, fun u c3 u0 u1 sc3 => ?_⟩
        rw [sset_sset]
        obtain ⟨d, hd, hp⟩ := at_all (P := fun d => trm (2 * L + 2) (j + 1) d) (ds := ws) u0 (by rw [hwl]; exact u1) hwa
        refine ⟨ws, u, d, .lst _, rfl, rfl, hd, ret_same (h d c3 hp sc3)⟩
    · refine seq_cut fun M hM => ?_
      walk_at "wp"
      rw [hM]; clear hM M
      refine seq_cut fun M hM => ?_
      walk_at "wp"
      rw [hM]; clear hM M
      refine seq_cut fun M hM => ?_
      walk_at "wp"
      have cl : (DW.cutD es (some (-1)) none).length ≤ es.length := cut_sub.2
      refine ⟨by decide, by omega, by omega, by decide, by decide, by decide, ?_⟩
      rw [hM]; clear hM M
      walk_at "wps"
      have hx2 : ∀ d ∈ es, trm (2 * L + 2) j d := fun d hd => trm_mono (by omega) (Nat.le_refl _) (hx d hd)
      have up : ∀ {d : D}, trm (2 * L + 2) (j + 1) d → trm (2 * L + 2) (j + 1 + 1) d := fun h => trm_mono (Nat.le_refl _) (by omega) h
      refine ⟨fun q => ?_, fun q => ?_⟩
      · obtain ⟨d, hd, hp⟩ := at_all (P := fun d => trm (2 * L + 2) (j + 1 + 1) d) (ds := [D.tup (es ++ [D.int 0]), D.tup (DW.cutD es (some 1) none), D.tup (DW.cutD es none (some (-1))), D.tup es.reverse, D.tup (es ++ DW.cutD es (some (-1)) none), D.tup [D.tup es], D.tup [D.str "not", D.tup es]]) r0 (by simp only [List.length_cons, List.length_nil]; omega) (fun d hd => by
          simp only [List.mem_cons, List.not_mem_nil, or_false] at hd
          rcases hd with rfl | rfl | rfl | rfl | rfl | rfl | rfl
          · refine up ⟨by rw [List.length_append, List.length_singleton]; omega, fun d hd => ?_⟩
            rcases List.mem_append.mp hd with z | z
            · exact hx2 d z
            · rw [List.mem_singleton.mp z]; exact trm_int
          · exact up (trm_cut (by omega) hx2)
          · exact up (trm_cut (by omega) hx2)
          · exact up ⟨by rw [List.length_reverse]; omega, fun d hd => hx2 d (List.mem_reverse.mp hd)⟩
          · refine up ⟨by rw [List.length_append]; omega, fun d hd => ?_⟩
            rcases List.mem_append.mp hd with z | z
            · exact hx2 d z
            · exact hx2 d (cut_sub.1 d z)
          · exact t1
          · exact trm_2 (by omega) trm_str ht2)
        exact ⟨d, hd, ret_same (h d c2 hp sc)⟩
      · obtain ⟨d, hd, hp⟩ := at_all (P := fun d => trm (2 * L + 2) (j + 1 + 1) d) (ds := [D.tup [], D.int n, .str "most"]) (r := r - 7) (by omega) (by simp only [List.length_cons, List.length_nil]; omega) (fun d hd => by
          simp only [List.mem_cons, List.not_mem_nil, or_false] at hd
          rcases hd with rfl | rfl | rfl <;> first | exact trm_int | exact t0 | exact trm_str)
        exact ⟨by decide, by decide, d, hd, ret_same (h d c2 hp sc)⟩
end
section
variable {P : Program} {w : World} {K : Fg} {mg : Str → Option Value} {base : Heap}
def subAt : D → List Nat → D → Prop
  | d, [], e => d = e
  | d, i :: p, e => ∃ ds x, d = .tup ds ∧ ds[i]? = some x ∧ subAt x p e
theorem subAt_snoc : ∀ {p : List Nat} {d x : D} {es : List D} {i : Nat}, subAt d p (.tup es) → es[i]? = some x → subAt d (p ++ [i]) x
  | [], d, x, es, i, h, hi => ⟨es, x, h, hi, rfl⟩
  | a :: p, d, x, es, i, ⟨ds, y, e, hy, h⟩, hi => ⟨ds, y, e, hy, subAt_snoc h hi⟩
theorem subAt_trm {L : Nat} : ∀ {p : List Nat} {d e : D} {j : Nat}, trm L j d → subAt d p e → ∃ i, j = i + p.length ∧ trm L i e
  | [], d, e, j, h, hs => ⟨j, rfl, by rw [← (show d = e from hs)]; exact h⟩
  | a :: p, d, e, j, h, ⟨ds, y, ed, hy, hs⟩ => by
    subst ed
    cases j with
    | zero => simp [trm] at h
    | succ j =>
      obtain ⟨i, hi, he⟩ := subAt_trm (h.2 y (List.mem_of_getElem? hy)) hs
      exact ⟨i, by rw [List.length_cons]; omega, he⟩
def natT (p : List Nat) : D := .tup (p.map fun (n : Nat) => D.int (n : Int))
theorem cut1 {d : D} {ds : List D} : DW.cutD (d :: ds) (some 1) none = ds := cut_from 1
def c__law_replaced : Nat → Con := fun m ds μ Φ _ => ∃ (L j M i J : Nat) (t : D) (p : List Nat) (e x : D), ds = [t, natT p, x] ∧ subAt t p e ∧ p.length + 1 ≤ m ∧ trm L j t ∧ L ≤ M ∧ M ≤ 40000 ∧ trm M i x ∧ j ≤ J ∧ i + p.length ≤ J ∧ ∀ d, trm M J d → Φ d μ
theorem len__law_replaced {m ds μ Φ Ψ} (h : c__law_replaced m ds μ Φ Ψ) : ds.length = 3 := by obtain ⟨_, _, _, _, _, _, _, _, _, rfl, _⟩ := h; rfl
theorem step__law_replaced (T : Txt P w K mg) {k : Nat} (hk : 0 ≤ k) (n : Nat) (ih__law_replaced : FnOk P w K mg base (L2N.CX P w) k T.f__law_replaced T.d__law_replaced ["_law_term", "_law_path", "_law_part"] (spOf K (c__law_replaced n))) : FnOk P w K mg base (L2N.CX P w) (k + 1) T.f__law_replaced T.d__law_replaced ["_law_term", "_law_path", "_law_part"] (spOf K (c__law_replaced (n + 1))) := by
  refine def_okC T.F__law_replaced sc__law_replaced _ (fun ds μ Φ Ψ h => len__law_replaced h) (fun cdv A outer s H E B hW hr =>
    have tk : L2N.Takes (cxOf (L2N.CX P w) P w K mg base N__law_replaced "_law_replaced" (defScope s__law_replaced) T.f__law_replaced cdv A outer s H E) (fun cls d _ H => E cls d H) := L2N.takes_of rfl rfl rfl rfl
    ⟨_, (pss_cons (ps_if (pt_cmpR op_eq (pe_callB call_len_seq (by rfl) T.z_len PySem.boot_len (pa_cons (pv 1) pa_nil)) pe_int (nomark _)) (pss_one (ps_ret (pv 2))) pss_nil)
      (pss_cons (ps_set (i := 3) sc__law_replaced.nd rfl (Or.inl rfl) (pe_ix ix_tup (pv 1) pe_int (fun _ _ => rfl)))
      (pss_one (ps_ret (pe_op op_catN (pe_op op_catN (pe_slice sl_tupN (pv 0) po_none (po_some (pv 3))) (pe_tupN (pa_cons (pe_call ih__law_replaced hr rfl T.g__law_replaced T.F__law_replaced.kp T.b__law_replaced .nil passN (pa_cons (pe_ix ix_tup (pv 0) (pv 3) (fun _ _ => rfl)) (pa_cons (pe_slice sl_tupN (pv 1) (po_some pe_int) po_none) (pa_cons (pv 2) pa_nil)))) pa_nil))) (pe_slice sl_tupN (pv 0) (po_some (pe_op op_add (pv 3) pe_int)) po_none)))))),
      (sSeq (sIfS (sTest (sOp roEq (sCB rcLen (sCons sVar sNil)) sInt)) (sRet sVar) sNext)
      (sSeq (sAsg (sOp roIxT sVar sInt) sName)
      (sRet (sOp roCatT (sOp roCatT (sSlT sVar sNoPart (sPart sVar)) (sTup (sCons (sCall (sCons (sOp roIxT sVar sVar) (sCons (sSlT sVar (sPart sInt) sNoPart) (sCons sVar sNil)))) sNil))) (sSlT sVar (sPart (sOp roInt0 sVar sInt)) sNoPart)))))⟩) (fun ds μ Φ Ψ h => ?hv)
  case hv =>
    obtain ⟨L, j, M, i, J, t, p, e, x, rfl, hsub, hm, ht, hLM, hM, hx, hJ, hiJ, h⟩ := h
    unfold natT
    cases p with
    | nil =>
      walk_at "wps"
      exact ⟨fun _ => ret_same (h _ (trm_mono (Nat.le_refl _) hiJ hx)), fun z => absurd rfl z⟩
    | cons a p =>
      obtain ⟨ds, y, rfl, hy, hsub⟩ := hsub
      obtain ⟨j, rfl⟩ : ∃ i, j = i + 1 := by cases j with
        | zero => simp [trm] at ht
        | succ i => exact ⟨i, rfl⟩
      rw [List.length_cons] at hm hiJ
      obtain ⟨J, rfl⟩ : ∃ i, J = i + 1 := ⟨J - 1, by omega⟩
      walk_at "wps"
      refine ⟨fun z => by omega, fun _ => ?_⟩
      refine ⟨y, atI_nat hy, ?_⟩
      rw [cut1]
      refine ⟨L, j, M, i, J, y, p, e, x, rfl, hsub, by omega, ht.2 y (List.mem_of_getElem? hy), hLM, hM, hx, by omega, by omega, fun d hd => ?_⟩
      walk_at "wps"
      have hal := (List.getElem?_eq_some_iff.mp hy).1
      have hl := ht.1
      have hlt : (ds.take a).length = a := by rw [List.length_take]; omega
      have hld : (ds.drop (a + 1)).length = ds.length - (a + 1) := List.length_drop
      refine ⟨by decide, by omega, by rw [List.length_append, List.length_singleton]; omega, ret_same (h _ ⟨?_, fun d' hd' => ?_⟩)⟩
      · simp only [List.length_append, List.length_singleton]; omega
      · have up : ∀ z ∈ ds, trm M J z := fun z hz => trm_mono hLM (by omega) (ht.2 z hz)
        rcases List.mem_append.mp hd' with q | q
        · rcases List.mem_append.mp q with q | q
          · exact up _ (List.mem_of_mem_take q)
          · rw [List.mem_singleton.mp q]; exact hd
        · exact up _ (List.mem_of_mem_drop q)
end
section
variable {P : Program} {w : World} {K : Fg} {mg : Str → Option Value} {base : Heap}
section
variable {P : Program} {w : World} {K : Fg} {mg : Str → Option Value} {base : Heap}
theorem okN__law_replaced (T : Txt P w K mg) : ∀ n, FnOk P w K mg base (L2N.CX P w) n T.f__law_replaced T.d__law_replaced ["_law_term", "_law_path", "_law_part"] (spOf K (c__law_replaced n))
  | 0 => fn_never fun ds μ Φ Ψ ⟨_, _, _, _, _, _, _, _, _, _, _, h, _⟩ => by omega
  | n + 1 => step__law_replaced T (Nat.zero_le _) n (okN__law_replaced T n)
theorem ok__law_replaced (T : Txt P w K mg) : FnOk P w K mg base (L2N.CX P w) 30 T.f__law_replaced T.d__law_replaced ["_law_term", "_law_path", "_law_part"] (spOf K (c__law_replaced 30)) := okN__law_replaced T 30
end
theorem natT_snoc {p : List Nat} {a : Nat} : p.map (fun (n : Nat) => D.int (n : Int)) ++ [D.int (a : Int)] = (p ++ [a]).map fun (n : Nat) => D.int (n : Int) := by rw [List.map_append]; rfl
def c__law_bent_term : Con := fun ds μ Φ _ => ∃ (st : Addr) (ns : List Int) (c : List D) (n k L j : Nat) (t : D), ds = [.hd (.ref st), t, .int n, .int k] ∧ μ st = some (.lst c) ∧ StC ns c ∧ trm L j t ∧ L ≤ 8000 ∧ ∀ d c', trm (2 * L + 2) (j + 1) d → StC ns c' → Φ d (sset μ st (.lst c'))
theorem len__law_bent_term {ds μ Φ Ψ} (h : c__law_bent_term ds μ Φ Ψ) : ds.length = 4 := by obtain ⟨_, _, _, _, _, _, _, _, rfl, _⟩ := h; rfl
theorem ok__law_bent_term (T : Txt P w K mg) : FnOk P w K mg base (L2N.CX P w) 31 T.f__law_bent_term T.d__law_bent_term ["_law_state", "_law_term", "_law_n", "_law_k"] (spOf K c__law_bent_term) := by
  refine def_okC T.F__law_bent_term sc__law_bent_term _ (fun ds μ Φ Ψ h => len__law_bent_term h) (fun cdv A outer s H E B hW hr =>
    have tk : L2N.Takes (cxOf (L2N.CX P w) P w K mg base N__law_bent_term "_law_bent_term" (defScope s__law_bent_term) T.f__law_bent_term cdv A outer s H E) (fun cls d _ H => E cls d H) := L2N.takes_of rfl rfl rfl rfl
    ⟨_, (pss_cons (ps_set (i := 4) sc__law_bent_term.nd rfl (Or.inl rfl) (pe_tupN pa_nil))
      (pss_cons (ps_set (i := 5) sc__law_bent_term.nd rfl (Or.inl rfl) (pv 1))
      (pss_cons (ps_for (passes_of rfl) rfl (pi_range1 rfl T.z_range (pa_cons pe_int pa_nil)) (pg_name (i := 6) sc__law_bent_term.nd rfl (Or.inl rfl)) (pss_cons (ps_if (PW.pt (pw_or (pt_not (pt_val (pe_callB call_isi (by rfl) T.z_isinstance (by decide +kernel) (pa_cons (pv 5) (pa_cons (pe_bltn (v := .ty "tuple") rfl T.z_tuple (by decide +kernel) rfl) pa_nil))))) (pw_or (pt_cmpR op_eq (pe_callB call_len_seq (by rfl) T.z_len PySem.boot_len (pa_cons (pv 5) pa_nil)) pe_int (nomark _)) (pw_or1 (pt_cmpR op_eq (pe_call (ok__law_pick T) (hr.mono (by decide)) rfl T.g__law_pick T.F__law_pick.kp T.b__law_pick .nil passN (pa_cons (pv 0) (pa_cons (pe_op op_sub pe_int (pe_op op_mulX pe_int (pe_callB (call_min2 rfl) (by rfl) T.z_min (by decide +kernel) (pa_cons (pv 6) (pa_cons pe_int pa_nil))))) pa_nil))) pe_int (nomark _)))))) (pss_one ps_break) pss_nil)
      (pss_cons (ps_set (i := 7) sc__law_bent_term.nd rfl (Or.inl rfl) (pe_call (ok__law_pick T) (hr.mono (by decide)) rfl T.g__law_pick T.F__law_pick.kp T.b__law_pick .nil passN (pa_cons (pv 0) (pa_cons (pe_callB call_len_seq (by rfl) T.z_len PySem.boot_len (pa_cons (pv 5) pa_nil)) pa_nil))))
      (pss_cons (ps_if (PW.pt (pw_and (pt_cmpR op_eq (pv 7) pe_int (nomark _)) (pw_and1 (pt_val (pe_callB call_isi (by rfl) T.z_isinstance (by decide +kernel) (pa_cons (pe_ix ix_tup (pv 5) pe_int (fun _ _ => rfl)) (pa_cons (pe_bltn (v := .ty "str") rfl T.z_str (by decide +kernel) rfl) pa_nil))))))) (pss_one (ps_set (i := 7) sc__law_bent_term.nd rfl (Or.inl rfl) (pe_call (ok__law_pick T) (hr.mono (by decide)) rfl T.g__law_pick T.F__law_pick.kp T.b__law_pick .nil passN (pa_cons (pv 0) (pa_cons (pe_callB call_len_seq (by rfl) T.z_len PySem.boot_len (pa_cons (pv 5) pa_nil)) pa_nil))))) pss_nil)
      (pss_cons (ps_set (i := 4) sc__law_bent_term.nd rfl (Or.inl rfl) (pe_op op_catN (pv 4) (pe_tupN (pa_cons (pv 7) pa_nil))))
      (pss_one (ps_set (i := 5) sc__law_bent_term.nd rfl (Or.inl rfl) (pe_ix ix_tup (pv 5) (pv 7) (fun _ _ => rfl)))))))))
      (pss_one (ps_ret (pe_call (ok__law_replaced T) hr rfl T.g__law_replaced T.F__law_replaced.kp T.b__law_replaced .nil passN (pa_cons (pv 1) (pa_cons (pv 4) (pa_cons (pe_call (ok__law_bent T) (hr.mono (by decide)) rfl T.g__law_bent T.F__law_bent.kp T.b__law_bent .nil passN (pa_cons (pv 0) (pa_cons (pv 5) (pa_cons (pv 2) (pa_cons (pv 3) pa_nil))))) pa_nil))))))))),
      (sSeq (sAsg (sTup sNil) sName)
      (sSeq (sAsg sVar sName)
      (sSeq (sFor (siR1 sInt) (fun _ _ _ => sName) (fun _ _ _ => (sSeq (sIfS (sOr (sNot (sB (sCB (rcIsi (T := "tuple")) (sCons sVar (sCons sHd sNil))))) (sOr (sTest (sOp roEq (sCB rcLen (sCons sVar sNil)) sInt)) (sTest (sOp roEq (sCall (sCons sVar (sCons (sOp roInt0 sInt (sOp roInt sInt (sCB rcMin2 (sCons sVar (sCons sInt sNil))))) sNil))) sInt)))) sBreak sNext)
      (sSeq (sAsg (sCall (sCons sVar (sCons (sCB rcLen (sCons sVar sNil)) sNil))) sName)
      (sSeq (sIfS (sAnd (sTest (sOp roEq sVar sInt)) (sB (sCB (rcIsi (T := "str")) (sCons (sOp roIxT sVar sInt) (sCons sHd sNil))))) (sAsg (sCall (sCons sVar (sCons (sCB rcLen (sCons sVar sNil)) sNil))) sName) sNext)
      (sSeq (sAsg (sOp roCatT sVar (sTup (sCons sVar sNil))) sName)
      (sAsg (sOp roIxT sVar sVar) sName)))))))
      (sRet (sCall (sCons sVar (sCons sVar (sCons (sCall (sCons sVar (sCons sVar (sCons sVar (sCons sVar sNil))))) sNil))))))))⟩) (fun ds μ Φ Ψ h => ?hv)
  case hv =>
    obtain ⟨st, ns, c, n, k, L, j, t, rfl, hst, hc, ht, hL, h⟩ := h
    refine seq_cut fun M hM => ?_
    walk_at "wp"
    refine ⟨by decide, ?_⟩
    rw [hM]; clear hM M
    refine seq_cut fun M hM => ?_
    walk_at "wp"
    rw [hM]; clear hM M
    refine seq_cut fun M hM => ?_
    have fin : ∀ (p : List Nat) (e : D) (μ' : Sto) (c2 : List D) (x6 x7 : Option D), μ' st = some (.lst c2) → StC ns c2 → (∀ c, sset μ' st (.lst c) = sset μ st (.lst c)) → subAt t p e → p.length ≤ 12 → M [some (.hd (.ref st)), some t, some (.int n), some (.int k), some (natT p), some e, x6, x7] μ' := by
      intro p e μ' c2 x6 x7 hs2 sc2 hss hsub hp
      obtain ⟨i, hi, he⟩ := subAt_trm ht hsub
      rw [hM]; clear hM M
      walk_at "wps"
      refine ⟨st, ns, c2, n, k, L, i, e, rfl, hs2, sc2, he, by omega, fun d c3 hd sc3 => ?_⟩
      refine ⟨L, j, 2 * L + 2, i + 1, j + 1, t, p, e, d, rfl, hsub, by omega, ht, by omega, by omega, hd, by omega, by omega, fun d2 hd2 => ret_same ?_⟩
      rw [hss]
      exact h d2 c3 hd2 sc3
    clear hM
    walk_at "wp"
    refine ⟨by decide, by decide, fun i δ' μ' => ∃ (p : List Nat) (e : D) (c2 : List D) (x6 x7 : Option D), δ' = [some (.hd (.ref st)), some t, some (.int n), some (.int k), some (natT p), some e, x6, x7] ∧ μ' st = some (.lst c2) ∧ StC ns c2 ∧ (∀ c, sset μ' st (.lst c) = sset μ st (.lst c)) ∧ subAt t p e ∧ p.length = i, ⟨[], t, c, none, none, rfl, hst, hc, fun _ => rfl, rfl, rfl⟩, ?_, ?_⟩
    · rintro i d δ' μ' hi ⟨p, e, c2, x6, x7, rfl, hs2, sc2, hss, hsub, hp⟩
      obtain ⟨hi12, rfl⟩ := rngD_get hi
      have hi12 : i < 12 := hi12
      obtain ⟨i2, hi2, he⟩ := subAt_trm ht hsub
      have fin2 : ∀ (μ2 : Sto) (c3 : List D) (x6 x7 : Option D), μ2 st = some (.lst c3) → StC ns c3 → (∀ c, sset μ2 st (.lst c) = sset μ st (.lst c)) → M [some (.hd (.ref st)), some t, some (.int n), some (.int k), some (natT p), some e, x6, x7] μ2 := fun μ2 c3 x6 x7 a b d => fin p e μ2 c3 x6 x7 a b d hsub (by omega)
      refine seq_cut fun M2 hM2 => ?_
      rcases trm_cases he with ⟨z, rfl⟩ | ⟨s, rfl⟩ | ⟨es, i3, rfl, rfl, hl, hx⟩
      · walk_at "wp"
        exact fin2 _ _ _ _ hs2 sc2 hss
      · walk_at "wp"
        exact fin2 _ _ _ _ hs2 sc2 hss
      walk_at "wp"
      refine ⟨fun _ => fin2 _ _ _ _ hs2 sc2 hss, fun q0 => ?_⟩
      have le : 0 < es.length := by omega
      have hmin : (if (3 : Int) < (i : Int) then 3 else (i : Int)).natAbs < 2 ^ 5 ∧ 0 ≤ (if (3 : Int) < (i : Int) then 3 else (i : Int)) ∧ (if (3 : Int) < (i : Int) then 3 else (i : Int)) ≤ 3 := by split <;> omega
      obtain ⟨mn, hmn⟩ : ∃ mn : Int, (if (3 : Int) < (i : Int) then 3 else (i : Int)) = mn := ⟨_, rfl⟩
      rw [hmn] at hmin
      rw [hmn]
      refine ⟨mulx 3 5 (by decide) hmin.1 (by decide), st, ns, c2, 12 - 2 * mn, rfl, hs2, sc2, by omega, by have := Nat.log2_le_self (12 - 2 * mn).natAbs; omega, fun r c3 r0 r1 sc3 => ?_⟩
      walk_at "wp"
      have hs3 : sset μ' st (.lst c3) st = some (.lst c3) := sset_same
      have hss3 : ∀ c, sset (sset μ' st (.lst c3)) st (.lst c) = sset μ st (.lst c) := fun c => by rw [sset_sset]; exact hss c
      refine ⟨fun _ => fin2 _ _ _ _ hs3 sc3 hss3, fun _ => ?_⟩
      rw [hM2]; clear hM2 M2
      refine seq_cut fun M2 hM2 => ?_
      walk_at "wp"
      have hlog : (es.length : Int).natAbs.log2 < 9000 := by rw [Int.natAbs_natCast]; have := Nat.log2_le_self es.length; omega
      refine ⟨st, ns, c3, es.length, rfl, hs3, sc3, by omega, hlog, fun a c4 a0 a1 sc4 => ?_⟩
      rw [sset_sset]
      obtain ⟨a, rfl⟩ : ∃ b : Nat, a = (b : Int) := ⟨a.toNat, by omega⟩
      rw [hM2]; clear hM2 M2
      refine seq_cut fun M2 hM2 => ?_
      have rest : ∀ (a : Nat) (c4 : List D), a < es.length → StC ns c4 → M2 [some (.hd (.ref st)), some t, some (.int n), some (.int k), some (natT p), some (.tup es), some (.int i), some (.int a)] (sset μ' st (.lst c4)) := by
        intro a c4 ha sc4
        rw [hM2]; clear hM2 M2
        unfold natT
        walk_at "wps"
        have ea := List.getElem?_eq_getElem ha
        rw [natT_snoc]
        refine ⟨by decide, by omega, es[a], atI_nat ea, p ++ [a], es[a], c4, _, _, rfl, rfl, sc4, hss, subAt_snoc hsub ea, by rw [List.length_append, hp]; rfl⟩
      walk_at "wp"
      refine ⟨fun _ => ?_, fun _ => rest a c4 (by omega) sc4⟩
      have hk := hx es[0] (List.getElem_mem le)
      have e0 : atI es 0 = some es[0] := atI_nat (j := 0) (List.getElem?_eq_getElem le)
      refine ⟨es[0], e0, ?_⟩
      generalize es[0] = y at hk
      have again : c__law_pick [D.hd (V.ref st), D.int (es.length : Int)] (sset μ' st (Cell.lst c4)) (fun x μ1 => M2 [some (.hd (.ref st)), some t, some (.int n), some (.int k), some (natT p), some (.tup es), some (.int i), some x] μ1) fun x x_1 => False := by
        refine ⟨st, ns, c4, es.length, rfl, sset_same, sc4, by omega, hlog, fun b c5 b0 b1 sc5 => ?_⟩
        rw [sset_sset]
        obtain ⟨b, rfl⟩ : ∃ b' : Nat, b = (b' : Int) := ⟨b.toNat, by omega⟩
        exact rest b c5 (by omega) sc5
      rcases trm_cases hk with ⟨z, rfl⟩ | ⟨s, rfl⟩ | ⟨es', i4, rfl, _⟩
      · exact ⟨false, rfl, nofun, fun _ => rest a c4 (by omega) sc4⟩
      · exact ⟨true, rfl, fun _ => again, nofun⟩
      · exact ⟨false, rfl, nofun, fun _ => rest a c4 (by omega) sc4⟩
    · rintro δ' μ' ⟨p, e, c2, x6, x7, rfl, hs2, sc2, hss, hsub, hp⟩
      exact fin p e μ' c2 x6 x7 hs2 sc2 hss hsub (by rw [hp]; decide)
end
section
variable {P : Program} {w : World} {K : Fg} {mg : Str → Option Value} {base : Heap}
def c__law_near : Con := fun ds μ Φ _ => ∃ (st : Addr) (ns : List Int) (c : List D) (n k : Nat), ds = [.hd (.ref st), .int n, .int k] ∧ μ st = some (.lst c) ∧ StC ns c ∧ SzOk n k ∧ ∀ l c', (∀ d ∈ l, trm 1000 4 d) → StC ns c' → Φ (.lst l) (sset μ st (.lst c'))
theorem len__law_near {ds μ Φ Ψ} (h : c__law_near ds μ Φ Ψ) : ds.length = 3 := by obtain ⟨_, _, _, _, _, rfl, _⟩ := h; rfl
/-- parts of a term: so many, plain -/
structure Pt (l : List D) (m j : Nat) : Prop where
  ln : l.length ≤ m
  el : ∀ d ∈ l, trm 1000 j d
theorem Pt.ints {l : List Int} {m j : Nat} (h : l.length ≤ m) : Pt (l.map .int) m j := ⟨by rw [List.length_map]; exact h, fun d hd => by obtain ⟨i, _, rfl⟩ := List.mem_map.mp hd; exact trm_int⟩
theorem Pt.app {a b : List D} {m n j : Nat} (h : Pt a m j) (g : Pt b n j) : Pt (a ++ b) (m + n) j := ⟨by rw [List.length_append]; have := h.ln; have := g.ln; omega, fun d hd => by
  rcases List.mem_append.mp hd with q | q
  · exact h.el d q
  · exact g.el d q⟩
theorem Pt.one {d : D} {j : Nat} (h : trm 1000 j d) : Pt [d] 1 j := ⟨by simp, fun x hx => by rw [List.mem_singleton.mp hx]; exact h⟩
theorem Pt.take {l : List D} {m j a : Nat} (h : Pt l m j) : Pt (l.take a) m j := ⟨by rw [List.length_take]; have := h.ln; omega, fun d hd => h.el d (List.mem_of_mem_take hd)⟩
theorem Pt.drop {l : List D} {m j a : Nat} (h : Pt l m j) : Pt (l.drop a) m j := ⟨by rw [List.length_drop]; have := h.ln; omega, fun d hd => h.el d (List.mem_of_mem_drop hd)⟩
theorem Pt.rev {l : List D} {m j : Nat} (h : Pt l m j) : Pt l.reverse m j := ⟨by rw [List.length_reverse]; exact h.ln, fun d hd => h.el d (List.mem_reverse.mp hd)⟩
theorem Pt.cut {l : List D} {m j : Nat} {lo hi : Option Int} (h : Pt l m j) : Pt (DW.cutD l lo hi) m j := ⟨Nat.le_trans cut_sub.2 h.ln, fun d hd => h.el d (cut_sub.1 d hd)⟩
theorem Pt.t {l : List D} {m j : Nat} (h : Pt l m j) (hm : m ≤ 1000) : trm 1000 (j + 1) (.tup l) := ⟨Nat.le_trans h.ln hm, h.el⟩
theorem ok__law_near (T : Txt P w K mg) : FnOk P w K mg base (L2N.CX P w) 3 T.f__law_near T.d__law_near ["_law_state", "_law_n", "_law_k"] (spOf K c__law_near) := by
  refine def_okC T.F__law_near sc__law_near _ (fun ds μ Φ Ψ h => len__law_near h) (fun cdv A outer s H E B hW hr =>
    have tk : L2N.Takes (cxOf (L2N.CX P w) P w K mg base N__law_near "_law_near" (defScope s__law_near) T.f__law_near cdv A outer s H E) (fun cls d _ H => E cls d H) := L2N.takes_of rfl rfl rfl rfl
    ⟨_, (pss_cons (ps_set (i := 3) sc__law_near.nd rfl (Or.inl rfl) (pe_call (ok__law_some T) hr rfl T.g__law_some T.F__law_some.kp T.b__law_some .nil passN (pa_cons (pv 0) (pa_cons (pv 1) pa_nil))))
      (pss_cons (ps_set (i := 4) sc__law_near.nd rfl (Or.inl rfl) (pe_call (ok__law_places T) hr rfl T.g__law_places T.F__law_places.kp T.b__law_places .nil passN (pa_cons (pv 0) (pa_cons (pv 1) pa_nil))))
      (pss_cons (ps_set (i := 5) sc__law_near.nd rfl (Or.inl rfl) (pe_callTy call_tupleN (by rfl) T.z_tuple (by decide +kernel) (pa_cons (pe_lc (own := [("_law_r", 7)]) rfl sc__law_near.nd (pi_range1 rfl T.z_range (pa_cons (pv 2) pa_nil)) (blkOk_by (N := N__law_near) (sc := defScope s__law_near) (by decide +kernel)) (fun _ _ _ _ _ => (pg_name (i := 7) sc__law_near.nd rfl (Or.inl rfl))) (fun _ _ _ _ _ => pts_nil) (fun _ _ _ _ _ => (pe_call (ok__law_pick T) (hr.mono (by decide)) rfl T.g__law_pick T.F__law_pick.kp T.b__law_pick .nil passN (pa_cons (pv 0) (pa_cons pe_int pa_nil))))) pa_nil)))
      (pss_cons (ps_set (i := 6) sc__law_near.nd rfl (Or.inl rfl) (pe_call (ok__law_pick T) (hr.mono (by decide)) rfl T.g__law_pick T.F__law_pick.kp T.b__law_pick .nil passN (pa_cons (pv 0) (pa_cons (pv 1) pa_nil))))
      (pss_cons (ps_set (i := 7) sc__law_near.nd rfl (Or.inl rfl) (pe_call (ok__law_pick T) (hr.mono (by decide)) rfl T.g__law_pick T.F__law_pick.kp T.b__law_pick .nil passN (pa_cons (pv 0) (pa_cons (pv 2) pa_nil))))
      (pss_cons (ps_set (i := 8) sc__law_near.nd rfl (Or.inl rfl) (pe_op op_catN (pe_op op_catN (pe_slice sl_tupN (pv 4) po_none (po_some (pv 6))) (pe_tupN (pa_cons (pe_ix ix_tup (pv 4) (pe_op op_mod (pe_callTy call_int1 (by rfl) T.z_int (by decide +kernel) (pa_cons (pe_op op_add (pv 6) pe_int) pa_nil)) (pv 1)) (fun _ _ => rfl)) pa_nil))) (pe_slice sl_tupN (pv 4) (po_some (pe_op op_add (pv 6) pe_int)) po_none)))
      (pss_cons (ps_set (i := 9) sc__law_near.nd rfl (Or.inl rfl) (pe_op op_catN (pe_op op_catN (pe_slice sl_tupN (pv 5) po_none (po_some (pv 7))) (pe_tupN (pa_cons (pe_op op_add pe_int (pe_call (ok__law_pick T) (hr.mono (by decide)) rfl T.g__law_pick T.F__law_pick.kp T.b__law_pick .nil passN (pa_cons (pv 0) (pa_cons pe_int pa_nil)))) pa_nil))) (pe_slice sl_tupN (pv 5) (po_some (pe_op op_add (pv 7) pe_int)) po_none)))
      (pss_cons (ps_set (i := 10) sc__law_near.nd rfl (Or.inl rfl) (pe_lst (pa_cons (pe_tupN (pa_cons pe_str (pa_cons (pe_op op_catN (pv 3) (pe_slice sl_tupN (pv 3) (po_some (pe_un un_neg pe_int)) po_none)) pa_nil))) (pa_cons (pe_tupN (pa_cons pe_str (pa_cons (pe_revT (pv 3)) pa_nil))) (pa_cons (pe_tupN (pa_cons pe_str (pa_cons (pv 3) pa_nil))) (pa_cons (pe_tupN (pa_cons pe_str (pa_cons (pe_op op_catN (pe_call (ok__law_some T) hr rfl T.g__law_some T.F__law_some.kp T.b__law_some .nil passN (pa_cons (pv 0) (pa_cons (pv 2) pa_nil))) (pe_tupN (pa_cons (pv 7) pa_nil))) pa_nil))) pa_nil))))))
      (pss_cons (ps_set (i := 10) sc__law_near.nd rfl (Or.inl rfl) (pe_op op_cat (pv 10) (pe_lst (pa_cons (pe_tupN (pa_cons pe_str (pa_cons (pv 8) (pa_cons (pe_tupN (pa_cons pe_str pa_nil)) pa_nil)))) (pa_cons (pe_tupN (pa_cons pe_str (pa_cons (pv 5) (pa_cons (pe_tupN (pa_cons pe_str pa_nil)) pa_nil)))) (pa_cons (pe_tupN (pa_cons pe_str (pa_cons (pv 9) pa_nil))) (pa_cons (pe_tupN (pa_cons pe_str (pa_cons (pe_op op_catN (pv 5) (pe_tupN (pa_cons pe_int pa_nil))) pa_nil))) pa_nil)))))))
      (pss_cons (ps_set (i := 10) sc__law_near.nd rfl (Or.inl rfl) (pe_op op_cat (pv 10) (pe_lst (pa_cons (pe_tupN (pa_cons pe_str (pa_cons (pe_op op_add (pe_op op_sub (pv 1) pe_int) (pe_call (ok__law_pick T) (hr.mono (by decide)) rfl T.g__law_pick T.F__law_pick.kp T.b__law_pick .nil passN (pa_cons (pv 0) (pa_cons pe_int pa_nil)))) pa_nil))) (pa_cons (pe_tupN (pa_cons pe_str (pa_cons (pe_op op_sub (pv 6) pe_int) pa_nil))) pa_nil)))))
      (pss_cons (ps_set (i := 11) sc__law_near.nd rfl (Or.inl rfl) (pe_call (ok__law_contexts T) (hr.mono (by decide)) rfl T.g__law_contexts T.F__law_contexts.kp T.b__law_contexts .nil passN (pa_cons (pv 1) (pa_cons (pv 2) pa_nil))))
      (pss_cons (ps_if (pt_cmpR op_le (pv 11) pe_int (nomark _)) (pss_cons (ps_set (i := 12) sc__law_near.nd rfl (Or.inl rfl) (pe_callTy call_tupleN (by rfl) T.z_tuple (by decide +kernel) (pa_cons (pe_lc (own := [("_law_p", 13)]) rfl sc__law_near.nd (pi_range1 rfl T.z_range (pa_cons (pv 11) pa_nil)) (blkOk_by (N := N__law_near) (sc := defScope s__law_near) (by decide +kernel)) (fun _ _ _ _ _ => (pg_name (i := 13) sc__law_near.nd rfl (Or.inl rfl))) (fun _ _ _ _ _ => pts_nil) (fun _ _ _ _ _ => (pe_call (ok__law_some T) hr rfl T.g__law_some T.F__law_some.kp T.b__law_some .nil passN (pa_cons (pv 0) (pa_cons (pv 1) pa_nil))))) pa_nil)))
      (pss_cons (ps_set (i := 13) sc__law_near.nd rfl (Or.inl rfl) (pe_call (ok__law_pick T) (hr.mono (by decide)) rfl T.g__law_pick T.F__law_pick.kp T.b__law_pick .nil passN (pa_cons (pv 0) (pa_cons (pv 11) pa_nil))))
      (pss_cons (ps_set (i := 14) sc__law_near.nd rfl (Or.inl rfl) (pe_ix ix_list (pe_lst (pa_cons (pe_tupN (pa_cons (pv 6) pa_nil)) (pa_cons (pe_tupN (pa_cons (pv 6) (pa_cons (pv 6) pa_nil))) (pa_cons (pe_tupN (pa_cons (pv 1) pa_nil)) (pa_cons (pe_tupN (pa_cons (pv 6) (pa_cons pe_int pa_nil))) (pa_cons (pv 6) (pa_cons (pe_tupN (pa_cons pe_int (pa_cons (pv 6) (pa_cons (pe_op op_sub (pv 6) pe_int) pa_nil)))) pa_nil))))))) (pe_call (ok__law_pick T) (hr.mono (by decide)) rfl T.g__law_pick T.F__law_pick.kp T.b__law_pick .nil passN (pa_cons (pv 0) (pa_cons pe_int pa_nil))) (fun _ _ => rfl)))
      (pss_one (ps_set (i := 10) sc__law_near.nd rfl (Or.inl rfl) (pe_op op_cat (pv 10) (pe_lst (pa_cons (pe_tupN (pa_cons pe_str (pa_cons (pe_slice sl_tupN (pv 12) (po_some pe_int) po_none) pa_nil))) (pa_cons (pe_tupN (pa_cons pe_str (pa_cons (pe_op op_catN (pv 12) (pe_tupN (pa_cons (pe_tupN pa_nil) pa_nil))) pa_nil))) (pa_cons (pe_tupN (pa_cons pe_str (pa_cons (pe_op op_catN (pe_op op_catN (pe_slice sl_tupN (pv 12) po_none (po_some (pv 13))) (pe_tupN (pa_cons (pv 14) pa_nil))) (pe_slice sl_tupN (pv 12) (po_some (pe_op op_add (pv 13) pe_int)) po_none)) pa_nil))) pa_nil)))))))))) pss_nil)
      (pss_one (ps_ret (pv 10))))))))))))))),
      (sSeq (sAsg (sCall (sCons sVar (sCons sVar sNil))) sName)
      (sSeq (sAsg (sCall (sCons sVar (sCons sVar sNil))) sName)
      (sSeq (sAsg (sCB rcTuple (sCons (sLc (siR1 sVar) (gwName List.mem_cons_self) (fun _ _ _ => sName) (fun _ _ _ => sYes) (fun _ _ _ => (sCall (sCons sVar (sCons sInt sNil))))) sNil)) sName)
      (sSeq (sAsg (sCall (sCons sVar (sCons sVar sNil))) sName)
      (sSeq (sAsg (sCall (sCons sVar (sCons sVar sNil))) sName)
      (sSeq (sAsg (sOp roCatT (sOp roCatT (sSlT sVar sNoPart (sPart sVar)) (sTup (sCons (sOp roIxT sVar (sOp roInt (sCB rcInt (sCons (sOp roInt0 sVar sInt) sNil)) sVar)) sNil))) (sSlT sVar (sPart (sOp roInt0 sVar sInt)) sNoPart)) sName)
      (sSeq (sAsg (sOp roCatT (sOp roCatT (sSlT sVar sNoPart (sPart sVar)) (sTup (sCons (sOp roInt0 sInt (sCall (sCons sVar (sCons sInt sNil)))) sNil))) (sSlT sVar (sPart (sOp roInt0 sVar sInt)) sNoPart)) sName)
      (sSeq (sAsg (sLst (sCons (sTup (sCons sStr (sCons (sOp roCatT sVar (sSlT sVar (sPart (sUn ruInt sInt)) sNoPart)) sNil))) (sCons (sTup (sCons sStr (sCons (sRevT sVar) sNil))) (sCons (sTup (sCons sStr (sCons sVar sNil))) (sCons (sTup (sCons sStr (sCons (sOp roCatT (sCall (sCons sVar (sCons sVar sNil))) (sTup (sCons sVar sNil))) sNil))) sNil))))) sName)
      (sSeq (sAsg (sOp roCatL sVar (sLst (sCons (sTup (sCons sStr (sCons sVar (sCons (sTup (sCons sStr sNil)) sNil)))) (sCons (sTup (sCons sStr (sCons sVar (sCons (sTup (sCons sStr sNil)) sNil)))) (sCons (sTup (sCons sStr (sCons sVar sNil))) (sCons (sTup (sCons sStr (sCons (sOp roCatT sVar (sTup (sCons sInt sNil))) sNil))) sNil)))))) sName)
      (sSeq (sAsg (sOp roCatL sVar (sLst (sCons (sTup (sCons sStr (sCons (sOp roInt0 (sOp roInt0 sVar sInt) (sCall (sCons sVar (sCons sInt sNil)))) sNil))) (sCons (sTup (sCons sStr (sCons (sOp roInt0 sVar sInt) sNil))) sNil)))) sName)
      (sSeq (sAsg (sCall (sCons sVar (sCons sVar sNil))) sName)
      (sSeq (sIfS (sTest (sOp roBl0 sVar sInt)) (sSeq (sAsg (sCB rcTuple (sCons (sLc (siR1 sVar) (gwName List.mem_cons_self) (fun _ _ _ => sName) (fun _ _ _ => sYes) (fun _ _ _ => (sCall (sCons sVar (sCons sVar sNil))))) sNil)) sName)
      (sSeq (sAsg (sCall (sCons sVar (sCons sVar sNil))) sName)
      (sSeq (sAsg (sOp roIxL (sLst (sCons (sTup (sCons sVar sNil)) (sCons (sTup (sCons sVar (sCons sVar sNil))) (sCons (sTup (sCons sVar sNil)) (sCons (sTup (sCons sVar (sCons sInt sNil))) (sCons sVar (sCons (sTup (sCons sInt (sCons sVar (sCons (sOp roInt0 sVar sInt) sNil)))) sNil))))))) (sCall (sCons sVar (sCons sInt sNil)))) sName)
      (sAsg (sOp roCatL sVar (sLst (sCons (sTup (sCons sStr (sCons (sSlT sVar (sPart sInt) sNoPart) sNil))) (sCons (sTup (sCons sStr (sCons (sOp roCatT sVar (sTup (sCons (sTup sNil) sNil))) sNil))) (sCons (sTup (sCons sStr (sCons (sOp roCatT (sOp roCatT (sSlT sVar sNoPart (sPart sVar)) (sTup (sCons sVar sNil))) (sSlT sVar (sPart (sOp roInt0 sVar sInt)) sNoPart)) sNil))) sNil))))) sName)))) sNext)
      (sRet sVar)))))))))))))⟩) (fun ds μ Φ Ψ h => ?hv)
  case hv =>
    obtain ⟨st, ns, c, n, k, rfl, hst, hc, hs, h⟩ := h
    have k1 := hs.k1
    have k4 := hs.k4
    have n1 := hs.n1
    have n64 := hs.n64
    have ln : (n : Int).natAbs.log2 < 9000 := by rw [Int.natAbs_natCast]; have := Nat.log2_le_self n; omega
    have lk : (k : Int).natAbs.log2 < 9000 := by rw [Int.natAbs_natCast]; have := Nat.log2_le_self k; omega
    refine seq_cut fun M hM => ?_
    walk_at "wp"
    refine ⟨st, ns, c, n, rfl, hst, hc, by omega, fun so c1 hso sc => ?_⟩
    rw [hM]; clear hM M
    refine seq_cut fun M hM => ?_
    walk_at "wp"
    refine ⟨st, ns, c1, n, rfl, sset_same, sc, by omega, fun pl c2 hpl _ sc => ?_⟩
    rw [sset_sset]
    rw [hM]; clear hM M
    refine seq_cut fun M hM => ?_
    walk_at "wp"
    refine ⟨by omega, by omega, lcNum (lim := 10) (ns := ns) (by omega) sset_same sc (fun i μ2 X c4 hs4 sc4 hx => ?_) (fun ra c3 hra sc => ?_)⟩
    · walk_at "wp"
      exact ⟨st, ns, c4, 10, rfl, hs4, sc4, by decide, by decide, fun y c5 y0 y1 sc5 => hx y c5 sc5 y0 y1⟩
    refine ⟨_, .lst _, ?_⟩
    rw [sset_sset]
    rw [hM]; clear hM M
    refine seq_cut fun M hM => ?_
    walk_at "wp"
    refine ⟨st, ns, c3, n, rfl, sset_same, sc, by omega, ln, fun at' c4 a0 a1 sc => ?_⟩
    rw [sset_sset]
    obtain ⟨a, rfl⟩ : ∃ b : Nat, at' = (b : Int) := ⟨at'.toNat, by omega⟩
    rw [hM]; clear hM M
    refine seq_cut fun M hM => ?_
    walk_at "wp"
    refine ⟨st, ns, c4, k, rfl, sset_same, sc, by omega, lk, fun r' c5 r0 r1 sc => ?_⟩
    rw [sset_sset]
    obtain ⟨r, rfl⟩ : ∃ b : Nat, r' = (b : Int) := ⟨r'.toNat, by omega⟩
    rw [hM]; clear hM M
    refine seq_cut fun M hM => ?_
    obtain ⟨S, hS⟩ : ∃ S, so.map D.int = S := ⟨_, rfl⟩
    have Sp : Pt S 64 2 := by rw [← hS]; exact .ints (by have := asc_len' hso; omega)
    obtain ⟨PL, hP⟩ : ∃ S, pl.map D.int = S := ⟨_, rfl⟩
    have Pp : Pt PL 64 2 := by rw [← hP]; exact .ints (by have := hpl.1; omega)
    have Pl : PL.length = n := by rw [← hP, List.length_map]; exact hpl.1
    obtain ⟨RA, hR⟩ : ∃ S, ra.map D.int = S := ⟨_, rfl⟩
    have Rp : Pt RA 64 2 := by rw [← hR]; exact .ints (by have := hra.1; omega)
    rw [hS, hP, hR]
    clear hS hP hR hso hpl hra
    obtain ⟨q, hq⟩ : ∃ q : Nat, ((a : Int) + 1) % (n : Int) = (q : Int) := ⟨(((a : Int) + 1) % (n : Int)).toNat, by have := Int.emod_nonneg ((a : Int) + 1) (show (n : Int) ≠ 0 by omega); omega⟩
    have hqn : q < n := by have := Int.emod_lt_of_pos ((a : Int) + 1) (show (0 : Int) < n by omega); omega
    have Sl := Sp.ln
    have Rl := Rp.ln
    have tkl : ∀ (l : List D) (i : Nat), (l.take i).length ≤ l.length := fun l i => by rw [List.length_take]; omega
    have drl : ∀ (l : List D) (i : Nat), (l.drop i).length ≤ l.length := fun l i => by rw [List.length_drop]; omega
    walk_at "wp"
    rw [hq]
    have e1 := tkl PL a
    have e2 := drl PL (a + 1)
    refine ⟨by omega, PL[q], atI_nat (List.getElem?_eq_getElem (by omega)), by decide, by omega, by rw [List.length_append, List.length_singleton]; omega, ?_⟩
    obtain ⟨DB, hDB⟩ : ∃ l, PL.take a ++ [PL[q]] ++ PL.drop (a + 1) = l := ⟨_, rfl⟩
    have Dp : Pt DB 200 2 := by
      rw [← hDB]
      have := ((Pp.take (a := a)).app (.one (Pp.el PL[q] (List.getElem_mem _)))).app (Pp.drop (a := a + 1))
      exact ⟨Nat.le_trans this.ln (by decide), this.el⟩
    rw [hDB]
    clear hDB
    rw [hM]; clear hM M
    refine seq_cut fun M hM => ?_
    walk_at "wp"
    refine ⟨st, ns, c5, 2, rfl, sset_same, sc, by decide, by decide, fun u c6 u0 u1 sc => ?_⟩
    rw [sset_sset]
    walk_at "wp"
    have e1 := tkl RA r
    have e2 := drl RA (r + 1)
    refine ⟨by decide, by omega, by rw [List.length_append, List.length_singleton]; omega, ?_⟩
    obtain ⟨ED, hED⟩ : ∃ l, RA.take r ++ [D.int (9 + u)] ++ RA.drop (r + 1) = l := ⟨_, rfl⟩
    have Ep : Pt ED 200 2 := by
      rw [← hED]
      have := ((Rp.take (a := r)).app (Pt.one (d := D.int (9 + u)) (j := 2) trm_int)).app (Rp.drop (a := r + 1))
      exact ⟨Nat.le_trans this.ln (by decide), this.el⟩
    rw [hED]
    clear hED
    rw [hM]; clear hM M
    refine seq_cut fun M hM => ?_
    have rest1 : ∀ (l : List D) (c7 : List D), StC ns c7 → (∀ d ∈ l, trm 1000 4 d) → l.length ≤ 10 → M [some (.hd (.ref st)), some (.int n), some (.int k), some (.tup S), some (.tup PL), some (.tup RA), some (.int a), some (.int r), some (.tup DB), some (.tup ED), some (.lst l), none, none, none, none] (sset μ st (.lst c7)) := by
      intro l c7 sc hl hll
      rw [hM]; clear hM M
      refine seq_cut fun M hM => ?_
      have rest2 : ∀ (l : List D), (∀ d ∈ l, trm 1000 4 d) → l.length ≤ 20 → M [some (.hd (.ref st)), some (.int n), some (.int k), some (.tup S), some (.tup PL), some (.tup RA), some (.int a), some (.int r), some (.tup DB), some (.tup ED), some (.lst l), none, none, none, none] (sset μ st (.lst c7)) := by
        clear hl hll
        clear l
        intro l hl hll
        rw [hM]; clear hM M
        refine seq_cut fun M hM => ?_
        have rest3 : ∀ (l : List D) (c7 : List D), StC ns c7 → (∀ d ∈ l, trm 1000 4 d) → l.length ≤ 30 → M [some (.hd (.ref st)), some (.int n), some (.int k), some (.tup S), some (.tup PL), some (.tup RA), some (.int a), some (.int r), some (.tup DB), some (.tup ED), some (.lst l), none, none, none, none] (sset μ st (.lst c7)) := by
          clear hl hll
          clear l sc
          clear c7
          intro l c7 sc hl hll
          rw [hM]; clear hM M
          walk_at "wps"
          refine ⟨n, k, rfl, n64, k4, k1, ?_⟩
          obtain ⟨m, hm⟩ : ∃ m : Nat, m = k ^ n := ⟨_, rfl⟩
          have hm1 : 0 < m := by rw [hm]; exact Nat.pow_pos k1
          rw [← hm]
          walk_at "wps"
          refine ⟨fun q => ?_, fun q => ret_same (h l c7 hl sc)⟩
          have m27 : m ≤ 27 := by omega
          refine ⟨by omega, by omega, lcG_drawN (StC ns) (fun i acc => acc.length = i ∧ ∀ d ∈ acc, trm 1000 2 d) (by rw [rngD_len]; omega) sset_same sc ⟨rfl, by simp⟩ (fun i d μ2 X acc c3 hi hs2 sc3 ⟨rl, ra⟩ hla hx => ?_) (fun acc c8 ⟨rl, ra⟩ hla sc => ?_)⟩
          · walk_at "wps"
            refine ⟨st, ns, c3, n, rfl, hs2, sc3, by omega, fun l c4 as sc4 => hx _ c4 sc4 ⟨by rw [List.length_append, rl]; rfl, fun d' hd' => ?_⟩⟩
            rcases List.mem_append.mp hd' with q | q
            · exact ra d' q
            · rw [List.mem_singleton.mp q]; exact trm_I (by have := asc_len' as; omega)
          rw [rngD_len] at rl
          refine ⟨_, .lst _, ?_⟩
          rw [sset_sset]
          refine ⟨st, ns, c8, m, rfl, sset_same, sc, by omega, by rw [Int.natAbs_natCast]; have := Nat.log2_le_self m; omega, fun p c9 p0 p1 sc => ?_⟩
          rw [sset_sset]
          obtain ⟨p, rfl⟩ : ∃ b : Nat, p = (b : Int) := ⟨p.toNat, by omega⟩
          refine ⟨by decide, by decide, by decide, by decide, by decide, by decide, st, ns, c9, 6, rfl, sset_same, sc, by decide, by decide, fun v c10 v0 v1 sc => ?_⟩
          rw [sset_sset]
          obtain ⟨d, hd, hp⟩ := at_all (P := fun d => trm 1000 2 d) (ds := [D.tup [D.int a], D.tup [D.int a, D.int a], D.tup [D.int n], D.tup [D.int a, D.int 0], D.int a, D.tup [D.int 0, D.int a, D.int ((a : Int) - 1)]]) v0 (by simp only [List.length_cons, List.length_nil]; omega) (fun d hd => by
            simp only [List.mem_cons, List.not_mem_nil, or_false] at hd
            rcases hd with rfl | rfl | rfl | rfl | rfl | rfl <;> first | exact trm_int | exact trm_1 (by decide) trm_int | exact trm_2 (by decide) trm_int trm_int | exact trm_3 (by decide) trm_int trm_int trm_int)
          walk_at "wps"
          refine ⟨d, hd, ?_⟩
          have Rw : Pt acc 27 2 := ⟨by omega, ra⟩
          have tka := tkl acc p
          have dra := drl acc (p + 1)
          refine ⟨by decide, by decide, by decide, by omega, by decide, by decide, by omega, by rw [List.length_append, List.length_singleton]; omega, by decide, by decide, by omega, ret_same (h _ c10 (fun x hx => ?_) sc)⟩
          rcases List.mem_append.mp hx with hx | hx
          · exact hl x hx
          simp only [List.mem_cons, List.not_mem_nil, or_false] at hx
          rcases hx with rfl | rfl | rfl
          · exact trm_2 (by decide) trm_str (Rw.cut.t (by decide))
          · exact trm_2 (by decide) trm_str ((Rw.app (Pt.one (d := .tup []) (j := 2) ⟨by decide, by simp⟩)).t (by decide))
          · exact trm_2 (by decide) trm_str (((Rw.take.app (Pt.one hp)).app Rw.drop).t (by decide))
        walk_at "wp"
        refine ⟨st, ns, c7, 2, rfl, sset_same, sc, by decide, by decide, fun v c8 v0 v1 sc => ?_⟩
        rw [sset_sset]
        walk_at "wp"
        refine ⟨by decide, by decide, by decide, by omega, rest3 _ c8 sc (fun d hd => ?_) (by rw [List.length_append]; simp; omega)⟩
        rcases List.mem_append.mp hd with hd | hd
        · exact hl d hd
        simp only [List.mem_cons, List.not_mem_nil, or_false] at hd
        rcases hd with rfl | rfl
        · exact trm_2 (by decide) trm_str trm_int
        · exact trm_2 (by decide) trm_str trm_int
      walk_at "wp"
      refine ⟨by decide, by decide, by decide, by decide, by decide, by decide, by omega, by decide, by decide, by omega, rest2 _ (fun d hd => ?_) (by rw [List.length_append]; simp; omega)⟩
      have tany : trm 1000 2 (.tup [.str "any"]) := trm_1 (by decide) trm_str
      rcases List.mem_append.mp hd with hd | hd
      · exact hl d hd
      simp only [List.mem_cons, List.not_mem_nil, or_false] at hd
      rcases hd with rfl | rfl | rfl | rfl
      · exact trm_3 (by decide) trm_str (Dp.t (by decide)) (trm_mono (Nat.le_refl _) (by decide) tany)
      · exact trm_3 (by decide) trm_str (Rp.t (by decide)) (trm_mono (Nat.le_refl _) (by decide) tany)
      · exact trm_2 (by decide) trm_str (Ep.t (by decide))
      · exact trm_2 (by decide) trm_str ((Rp.app (Pt.one (d := D.int 0) (j := 2) trm_int)).t (by decide))
    walk_at "wp"
    have cl : (DW.cutD S (some (-1)) none).length ≤ S.length := cut_sub.2
    refine ⟨by omega, by decide, by decide, by decide, st, ns, c6, k, rfl, sset_same, sc, by omega, fun am c7 ham sc => ?_⟩
    rw [sset_sset]
    have aml := asc_len' ham
    walk_at "wp"
    refine ⟨by decide, by omega, by decide, by decide, ?_⟩
    refine rest1 _ c7 sc (fun d hd => ?_) (by simp)
    simp only [List.mem_cons, List.not_mem_nil, or_false] at hd
    rcases hd with rfl | rfl | rfl | rfl
    · exact trm_2 (by decide) trm_str ((Sp.app Sp.cut).t (by decide))
    · exact trm_2 (by decide) trm_str (Sp.rev.t (by decide))
    · exact trm_2 (by decide) trm_str (Sp.t (by decide))
    · exact trm_2 (by decide) trm_str (((Pt.ints (l := am) (m := 64) (by omega)).app (Pt.one (d := D.int r) (j := 2) trm_int)).t (by decide))
end
section
variable {P : Program} {w : World} {K : Fg} {mg : Str → Option Value} {base : Heap}
def L1 : List Str := ["any", "most", "fewest", "fixed"]
def L2w : List Str := ["best", "second", "like", "unlike", "among", "only", "table", "not", "first"]
def L3 : List Str := ["either", "both", "else", "recode", "reorder"]
def lenW : D → Int
  | .str w => match sh w with
    | some ks => (ks.length : Int) + 1
    | none => 0
  | _ => 0
theorem len1 : ∀ w ∈ L1, lenW (.str w) = 1 := by decide
theorem len2 : ∀ w ∈ L2w, lenW (.str w) = 2 := by decide
theorem len3 : ∀ w ∈ L3, lenW (.str w) = 3 := by decide
theorem keys123 : ∀ p ∈ tblK, p.1 ∈ L1 ∨ p.1 ∈ L2w ∨ p.1 ∈ L3 := by decide
theorem len0 {w : Str} (h1 : w ∉ L1) (h2 : w ∉ L2w) (h3 : w ∉ L3) : lenW (.str w) = 0 := by
  unfold lenW
  cases hk : sh w with
  | none => simp only [hk]
  | some ks => exact absurd (keys123 _ (lookup_mem hk)) (by rintro (q | q | q) <;> contradiction)
def c__law_length : Con := fun ds μ Φ _ => ∃ d, ds = [d] ∧ leaf3 d ∧ Φ (.int (lenW d)) μ
theorem len__law_length {ds μ Φ Ψ} (h : c__law_length ds μ Φ Ψ) : ds.length = 1 := by obtain ⟨_, rfl, _⟩ := h; rfl
theorem ok__law_length {cx : CXT} (T : Txt P w K mg) : FnOk P w K mg base cx 1 T.f__law_length T.d__law_length ["_law_word"] (spOf K c__law_length) := by
  refine def_okC T.F__law_length sc__law_length _ (fun ds μ Φ Ψ h => len__law_length h) (fun cdv A outer s H E B hW hr =>
    ⟨_, (pss_cons (ps_if (pt_not (pt_val (pe_callB call_isi (by rfl) T.z_isinstance (by decide +kernel) (pa_cons (pv 0) (pa_cons (pe_bltn (v := .ty "str") rfl T.z_str (by decide +kernel) rfl) pa_nil))))) (pss_one (ps_ret pe_int)) pss_nil)
      (pss_cons (ps_if (pt_cmpR op_in_seq (pv 0) (pe_lst (pa_cons pe_str (pa_cons pe_str (pa_cons pe_str (pa_cons pe_str pa_nil))))) (by with_unfolding_all rfl)) (pss_one (ps_ret pe_int)) pss_nil)
      (pss_cons (ps_if (pt_cmpR op_in_seq (pv 0) (pe_lst (pa_cons pe_str (pa_cons pe_str (pa_cons pe_str (pa_cons pe_str (pa_cons pe_str (pa_cons pe_str (pa_cons pe_str (pa_cons pe_str (pa_cons pe_str pa_nil)))))))))) (by with_unfolding_all rfl)) (pss_one (ps_ret pe_int)) pss_nil)
      (pss_cons (ps_if (pt_cmpR op_in_seq (pv 0) (pe_lst (pa_cons pe_str (pa_cons pe_str (pa_cons pe_str (pa_cons pe_str (pa_cons pe_str pa_nil)))))) (by with_unfolding_all rfl)) (pss_one (ps_ret pe_int)) pss_nil)
      (pss_one (ps_ret pe_int)))))),
      (sSeq (sIfS (sNot (sB (sCB (rcIsi (T := "str")) (sCons sVar (sCons sHd sNil))))) (sRet sInt) sNext)
      (sSeq (sIfS (sTest (sOp (roIn (neg := false)) sVar (sLst (sCons sStr (sCons sStr (sCons sStr (sCons sStr sNil))))))) (sRet sInt) sNext)
      (sSeq (sIfS (sTest (sOp (roIn (neg := false)) sVar (sLst (sCons sStr (sCons sStr (sCons sStr (sCons sStr (sCons sStr (sCons sStr (sCons sStr (sCons sStr (sCons sStr sNil)))))))))))) (sRet sInt) sNext)
      (sSeq (sIfS (sTest (sOp (roIn (neg := false)) sVar (sLst (sCons sStr (sCons sStr (sCons sStr (sCons sStr (sCons sStr sNil)))))))) (sRet sInt) sNext)
      (sRet sInt)))))⟩) (fun ds μ Φ Ψ h => ?hv)
  case hv =>
    obtain ⟨d, rfl, hd, h⟩ := h
    rcases hd with ⟨i, rfl⟩ | ⟨w', rfl⟩ | ⟨es, rfl⟩
    · walk_at "wps"
      exact ret_same h
    · refine seq_cut fun M hM => ?_
      walk_at "wp"
      rw [hM]; clear hM M
      refine seq_cut fun M hM => ?_
      walk_at "wp"
      refine ⟨by decide, in_S (l := ["any", "most", "fewest", "fixed"]) ⟨_, rfl, fun q => ret_same ?_, fun q1 => ?_⟩⟩
      · rw [len1 w' (List.contains_iff_mem.mp q)] at h; exact h
      rw [hM]; clear hM M
      refine seq_cut fun M hM => ?_
      walk_at "wp"
      refine ⟨by decide, in_S (l := ["best", "second", "like", "unlike", "among", "only", "table", "not", "first"]) ⟨_, rfl, fun q => ret_same ?_, fun q2 => ?_⟩⟩
      · rw [len2 w' (List.contains_iff_mem.mp q)] at h; exact h
      rw [hM]; clear hM M
      walk_at "wps"
      refine ⟨by decide, in_S (l := ["either", "both", "else", "recode", "reorder"]) ⟨_, rfl, fun q => ret_same ?_, fun q3 => ret_same ?_⟩⟩
      · rw [len3 w' (List.contains_iff_mem.mp q)] at h; exact h
      · have no : ∀ {l : List Str}, l.contains w' = false → w' ∉ l := fun q m => by rw [List.contains_iff_mem.mpr m] at q; cases q
        rw [len0 (no q1) (no q2) (no q3)] at h
        exact h
    · walk_at "wps"
      exact ret_same h
def undr (a : Nat) (o : Option (List Int)) : Option (List Int) := o.map fun (p : List Int) => (a : Int) :: p
def c__law_under : Con := fun ds μ Φ _ => ∃ (a : Nat) (o : Option (List Int)), ds = [.int a, pd o] ∧ (∀ p, o = some p → p.length ≤ 1000) ∧ Φ (pd (undr a o)) μ
theorem len__law_under {ds μ Φ Ψ} (h : c__law_under ds μ Φ Ψ) : ds.length = 2 := by obtain ⟨_, _, rfl, _⟩ := h; rfl
theorem ok__law_under (T : Txt P w K mg) : FnOk P w K mg base (L2N.CX P w) 1 T.f__law_under T.d__law_under ["_law_at", "_law_fault_here"] (spOf K c__law_under) := by
  refine def_okC T.F__law_under sc__law_under _ (fun ds μ Φ Ψ h => len__law_under h) (fun cdv A outer s H E B hW hr =>
    have tk : L2N.Takes (cxOf (L2N.CX P w) P w K mg base N__law_under "_law_under" (defScope s__law_under) T.f__law_under cdv A outer s H E) (fun cls d _ H => E cls d H) := L2N.takes_of rfl rfl rfl rfl
    ⟨_, (pss_cons (ps_if (pt_cmpR op_isN (pv 1) pe_non (nomark _)) (pss_one (ps_ret pe_non)) pss_nil)
      (pss_one (ps_ret (pe_op op_catN (pe_tupN (pa_cons (pv 0) pa_nil)) (pv 1))))),
      (sSeq (sIfS (sTest (sOp roIsN sVar sNon)) (sRet sNon) sNext)
      (sRet (sOp roCatT (sTup (sCons sVar sNil)) sVar)))⟩) (fun ds μ Φ Ψ h => ?hv)
  case hv =>
    obtain ⟨a, o, rfl, hl, h⟩ := h
    cases o with
    | none =>
      simp only [pd]
      walk_at "wps"
      exact ret_same h
    | some p =>
      have := hl p rfl
      simp only [pd]
      walk_at "wps"
      exact ⟨by decide, by omega, ret_same h⟩
end
section
variable {P : Program} {w : World} {K : Fg} {mg : Str → Option Value} {base : Heap}
def howS : How → Str
  | .any => "any"
  | .rise => "rising"
  | .once => "once"
def lnO : Option Nat → Int
  | none => -1
  | some n => n
def c__law_entries_fault : Con := fun ds μ Φ _ => ∃ (L j : Nat) (hw : How) (o : Option Nat) (lim : Int) (d : D), ds = [d, .int (lnO o), .int lim, .str (howS hw)] ∧ trm L j d ∧ L ≤ 100000 ∧ Φ (pd (entF hw o lim d)) μ
theorem len__law_entries_fault {ds μ Φ Ψ} (h : c__law_entries_fault ds μ Φ Ψ) : ds.length = 4 := by obtain ⟨_, _, _, _, _, _, rfl, _⟩ := h; rfl
theorem ok__law_entries_fault (T : Txt P w K mg) : FnOk P w K mg base (L2N.CX P w) 1 T.f__law_entries_fault T.d__law_entries_fault ["_law_item", "_law_length_here", "_law_limit", "_law_how"] (spOf K c__law_entries_fault) := by
  refine def_okC T.F__law_entries_fault sc__law_entries_fault _ (fun ds μ Φ Ψ h => len__law_entries_fault h) (fun cdv A outer s H E B hW hr =>
    have tk : L2N.Takes (cxOf (L2N.CX P w) P w K mg base N__law_entries_fault "_law_entries_fault" (defScope s__law_entries_fault) T.f__law_entries_fault cdv A outer s H E) (fun cls d _ H => E cls d H) := L2N.takes_of rfl rfl rfl rfl
    ⟨_, (pss_cons (ps_if (PW.pt (pw_or (pt_not (pt_val (pe_callB call_isi (by rfl) T.z_isinstance (by decide +kernel) (pa_cons (pv 0) (pa_cons (pe_bltn (v := .ty "tuple") rfl T.z_tuple (by decide +kernel) rfl) pa_nil))))) (pw_or1 (PW.pt (pw_and (pt_cmpR op_ge (pv 1) pe_int (nomark _)) (pw_and1 (pt_cmpR op_ne (pe_callB call_len_seq (by rfl) T.z_len PySem.boot_len (pa_cons (pv 0) pa_nil)) (pv 1) (nomark _)))))))) (pss_one (ps_ret (pe_tupN pa_nil))) pss_nil)
      (pss_cons (ps_for (passes_of rfl) rfl (pi_range1 rfl T.z_range (pa_cons (pe_callB call_len_seq (by rfl) T.z_len PySem.boot_len (pa_cons (pv 0) pa_nil)) pa_nil)) (pg_name (i := 4) sc__law_entries_fault.nd rfl (Or.inl rfl)) (pss_cons (ps_if (PW.pt (pw_or (pt_not (pt_val (pe_callB call_isi (by rfl) T.z_isinstance (by decide +kernel) (pa_cons (pe_ix ix_tup (pv 0) (pv 4) (fun _ _ => rfl)) (pa_cons (pe_bltn (v := .ty "int") rfl T.z_int (by decide +kernel) rfl) pa_nil))))) (pw_or (pt_cmpR op_lt (pe_ix ix_tup (pv 0) (pv 4) (fun _ _ => rfl)) pe_int (nomark _)) (pw_or1 (pt_cmpR op_ge (pe_ix ix_tup (pv 0) (pv 4) (fun _ _ => rfl)) (pv 2) (nomark _)))))) (pss_one (ps_ret (pe_tupN (pa_cons (pv 4) pa_nil)))) pss_nil)
      (pss_one (ps_if (PW.pt (pw_or (PW.pt (pw_and (pt_cmpR op_eq (pv 3) pe_str (nomark _)) (pw_and (pt_cmpR op_gt (pv 4) pe_int (nomark _)) (pw_and1 (pt_cmpR op_le (pe_ix ix_tup (pv 0) (pv 4) (fun _ _ => rfl)) (pe_ix ix_tup (pv 0) (pe_op op_sub (pv 4) pe_int) (fun _ _ => rfl)) (nomark _)))))) (pw_or1 (PW.pt (pw_and (pt_cmpR op_eq (pv 3) pe_str (nomark _)) (pw_and1 (pt_cmpR op_in_seq (pe_ix ix_tup (pv 0) (pv 4) (fun _ _ => rfl)) (pe_slice sl_tupN (pv 0) po_none (po_some (pv 4))) (by with_unfolding_all rfl)))))))) (pss_one (ps_ret (pe_tupN (pa_cons (pv 4) pa_nil)))) pss_nil))))
      (pss_one (ps_ret pe_non)))),
      (sSeq (sIfS (sOr (sNot (sB (sCB (rcIsi (T := "tuple")) (sCons sVar (sCons sHd sNil))))) (sAnd (sTest (sOp roBl0 sVar sInt)) (sTest (sOp roNe (sCB rcLen (sCons sVar sNil)) sVar)))) (sRet (sTup sNil)) sNext)
      (sSeq (sFor (siR1 (sCB rcLen (sCons sVar sNil))) (fun _ _ _ => sName) (fun _ _ _ => (sSeq (sIfS (sOr (sNot (sB (sCB (rcIsi (T := "int")) (sCons (sOp roIxT sVar sVar) (sCons sHd sNil))))) (sOr (sTest (sOp roBl0 (sOp roIxT sVar sVar) sInt)) (sTest (sOp roBl0 (sOp roIxT sVar sVar) sVar)))) (sRet (sTup (sCons sVar sNil))) sNext)
      (sIfS (sOr (sAnd (sTest (sOp roEq sVar sStr)) (sAnd (sTest (sOp roBl0 sVar sInt)) (sTest (sOp roBl0 (sOp roIxT sVar sVar) (sOp roIxT sVar (sOp roInt0 sVar sInt)))))) (sAnd (sTest (sOp roEq sVar sStr)) (sTest (sOp (roIn (neg := false)) (sOp roIxT sVar sVar) (sSlT sVar sNoPart (sPart sVar)))))) (sRet (sTup (sCons sVar sNil))) sNext))))
      (sRet sNon)))⟩) (fun ds μ Φ Ψ h => ?hv)
  case hv =>
    obtain ⟨L, j, hw, o, lim, d, rfl, hd, hL, h⟩ := h
    rcases trm_cases hd with ⟨i, rfl⟩ | ⟨s, rfl⟩ | ⟨es, j, rfl, rfl, hl, hx⟩
    · walk_at "wps"
      exact ⟨by decide, ret_same h⟩
    · walk_at "wps"
      exact ⟨by decide, ret_same h⟩
    refine seq_cut fun M hM => ?_
    have rest : (∀ m, o = some m → es.length = m) → M [some (.tup es), some (.int (lnO o)), some (.int lim), some (.str (howS hw)), none] μ := by
      intro hok
      rw [entF_tup hok] at h
      rw [hM]; clear hM M
      refine seq_cut fun M hM => ?_
      walk_at "wp"
      refine ⟨by omega, by omega, fun i δ' μ' => μ' = μ ∧ ∃ x l, δ' = [some (.tup es), some (.int (lnO o)), some (.int lim), some (.str (howS hw)), x] ∧ EfAt hw lim es i l, ⟨rfl, _, _, rfl, .zero⟩, ?_, ?_⟩
      · rintro i d δ' μ' hi ⟨rfl, x, l, rfl, s⟩
        obtain ⟨hj, rfl⟩ := rngD_get hi
        have hz : es[i]? = some es[i] := List.getElem?_eq_getElem hj
        have hzl := hx es[i] (List.getElem_mem hj)
        generalize es[i] = z at hz hzl
        have hat : atI es (i : Int) = some z := atI_nat hz
        refine seq_cut fun M2 hM2 => ?_
        walk_at "wp"
        refine ⟨z, hat, ?_⟩
        rcases trm_cases hzl with ⟨u, rfl⟩ | ⟨s', rfl⟩ | ⟨es', j', rfl, _⟩
        · refine ⟨true, rfl, nofun, fun _ => ⟨_, hat, ?_⟩⟩
          walk_at "wp"
          have good : (0 ≤ u ∧ u < lim) → M2 [some (.tup es), some (.int (lnO o)), some (.int lim), some (.str (howS hw)), some (.int i)] μ' := by
            intro hu
            rw [hM2]; clear hM2 M2
            have hb : okH hw l u = false → LW.ef hw lim [] es = some i := fun q => by
              rcases s.step hz with ⟨u', e, h1, h2, h3⟩ | ⟨h1, h2⟩
              · cases e; rw [h2] at q; cases q
              · exact h2
            have hg : okH hw l u = true → EfAt hw lim es (i + 1) (l ++ [u]) := fun q => by
              rcases s.step hz with ⟨u', e, h1, h2, h3⟩ | ⟨h1, h2⟩
              · cases e; exact h3
              · exact absurd ⟨hu, q⟩ (h1 u rfl)
            cases hw with
            | any =>
              simp only [howS]
              walk_at "wps"
              refine ⟨fun z => absurd z (by decide), fun _ => ⟨fun z => absurd z (by decide), fun _ => ?_⟩⟩
              first | exact ⟨_, _, rfl, hg rfl⟩ | exact ⟨rfl, _, _, rfl, hg rfl⟩
            | rise =>
              simp only [howS]
              walk_at "wps"
              refine ⟨⟨fun c => ?_, fun c => ⟨fun z => absurd z (by decide), fun _ => ?_⟩⟩, fun z => absurd trivial z⟩
              · obtain ⟨i', rfl⟩ : ∃ i', i = i' + 1 := ⟨i - 1, by omega⟩
                have hl' : i' < l.length := by have := s.ln; omega
                have hlast : l.getLast? = some l[i'] := by rw [List.getLast?_eq_getElem?, s.ln]; exact List.getElem?_eq_getElem hl'
                have hq : atI es (((i' + 1 : Nat) : Int) - 1) = some (.int l[i']) := by
                  rw [show ((i' + 1 : Nat) : Int) - 1 = (i' : Int) by omega]
                  refine atI_nat ?_
                  have e1 := congrArg (fun x => x[i']?) s.tk
                  simp only [List.getElem?_take, List.getElem?_map] at e1
                  rw [if_pos (Nat.lt_succ_self i'), List.getElem?_eq_getElem hl'] at e1
                  exact e1
                refine ⟨_, hat, _, hq, ?_⟩
                walk_at "wps"
                refine ⟨fun c2 => ?_, fun c2 => ⟨fun z => absurd z (by decide), fun _ => ?_⟩⟩
                · rw [hb (by simp only [okH, hlast]; exact decide_eq_false (by omega))] at h
                  exact ⟨by decide, ret_same h⟩
                · first | exact ⟨_, _, rfl, hg (by simp only [okH, hlast]; exact decide_eq_true (by omega))⟩ | exact ⟨rfl, _, _, rfl, hg (by simp only [okH, hlast]; exact decide_eq_true (by omega))⟩
              · have l0 : l = [] := List.eq_nil_of_length_eq_zero (by have := s.ln; omega)
                first | exact ⟨_, _, rfl, hg (by rw [l0]; rfl)⟩ | exact ⟨rfl, _, _, rfl, hg (by rw [l0]; rfl)⟩
            | once =>
              simp only [howS]
              walk_at "wps"
              refine ⟨fun z => absurd z (by decide), fun _ => ⟨⟨_, hat, ?_⟩, fun z => absurd trivial z⟩⟩
              rw [s.tk]
              refine in_I ⟨_, rfl, fun q => ?_, fun q => ?_⟩
              · rw [hb (by simp only [okH, q]; rfl)] at h
                exact ⟨by decide, ret_same h⟩
              · first | exact ⟨_, _, rfl, hg (by simp only [okH, q]; rfl)⟩ | exact ⟨rfl, _, _, rfl, hg (by simp only [okH, q]; rfl)⟩
          have bad : ¬ (0 ≤ u ∧ u < lim) → 1 ≤ 100000 ∧ ∃ μ2, DW.Sub μ2 μ' ∧ Φ (D.tup [D.int ↑i]) μ2 := fun hu => by
            rcases s.step hz with ⟨u', e, h1, h2, h3⟩ | ⟨h1, h2⟩
            · cases e; exact absurd h1 hu
            · rw [h2] at h; exact ⟨by decide, ret_same h⟩
          refine ⟨fun q => bad (by omega), fun q => ⟨_, hat, ?_⟩⟩
          walk_at "wp"
          exact ⟨fun q2 => bad (by omega), fun q2 => good (by omega)⟩
        · rcases s.step hz with ⟨u, e, _⟩ | ⟨h1, h2⟩
          · cases e
          rw [h2] at h
          exact ⟨false, rfl, fun _ => ⟨by decide, ret_same h⟩, nofun⟩
        · rcases s.step hz with ⟨u, e, _⟩ | ⟨h1, h2⟩
          · cases e
          rw [h2] at h
          exact ⟨false, rfl, fun _ => ⟨by decide, ret_same h⟩, nofun⟩
      · rintro δ' μ' ⟨rfl, x, l, rfl, s⟩
        rw [s.none] at h
        rw [hM]
        exact ret_same h
    cases o with
    | none =>
      walk_at "wp"
      exact ⟨fun z => absurd z (by decide), fun _ => rest nofun⟩
    | some n =>
      walk_at "wp"
      refine ⟨fun _ => ⟨fun z => ⟨by decide, ret_same ?_⟩, fun z => rest fun m hm => ?_⟩, fun z => absurd (Int.natCast_nonneg n) z⟩
      · have : ¬ (∀ m, some n = some m → es.length = m) := fun q => by
          have z2 : ¬ (es.length : Int) = lnO (some n) := by simpa using z
          exact z2 (congrArg Int.ofNat (q n rfl))
        simp only [entF] at h
        rw [if_neg this] at h
        exact h
      · cases hm
        have z2 : (es.length : Int) = lnO (some n) := by simpa using z
        exact Int.ofNat.inj z2
end
section
variable {P : Program} {w : World} {K : Fg} {mg : Str → Option Value} {base : Heap}
def tabO (n k : Nat) (d : D) : Option (List Int) := if sml n k then undr 1 (rowsF n k d) else some []
def c__law_table_fault : Con := fun ds μ Φ _ => ∃ (L j n k : Nat) (d : D), ds = [d, .int n, .int k] ∧ SzOk n k ∧ trm L j d ∧ L ≤ 100000 ∧ Φ (pd (tabO n k d)) μ
theorem len__law_table_fault {ds μ Φ Ψ} (h : c__law_table_fault ds μ Φ Ψ) : ds.length = 3 := by obtain ⟨_, _, _, _, _, rfl, _⟩ := h; rfl
theorem ok__law_table_fault (T : Txt P w K mg) : FnOk P w K mg base (L2N.CX P w) 2 T.f__law_table_fault T.d__law_table_fault ["_law_rows", "_law_n", "_law_k"] (spOf K c__law_table_fault) := by
  refine def_okC T.F__law_table_fault sc__law_table_fault _ (fun ds μ Φ Ψ h => len__law_table_fault h) (fun cdv A outer s H E B hW hr =>
    have tk : L2N.Takes (cxOf (L2N.CX P w) P w K mg base N__law_table_fault "_law_table_fault" (defScope s__law_table_fault) T.f__law_table_fault cdv A outer s H E) (fun cls d _ H => E cls d H) := L2N.takes_of rfl rfl rfl rfl
    ⟨_, (pss_cons (ps_set (i := 3) sc__law_table_fault.nd rfl (Or.inl rfl) (pe_call (ok__law_contexts T) hr rfl T.g__law_contexts T.F__law_contexts.kp T.b__law_contexts .nil passN (pa_cons (pv 1) (pa_cons (pv 2) pa_nil))))
      (pss_cons (ps_if (PW.pt (pw_or (pt_cmpR op_gt (pv 1) pe_int (nomark _)) (pw_or1 (pt_cmpR op_gt (pv 3) pe_int (nomark _))))) (pss_one (ps_ret (pe_tupN pa_nil))) pss_nil)
      (pss_cons (ps_if (PW.pt (pw_or (pt_not (pt_val (pe_callB call_isi (by rfl) T.z_isinstance (by decide +kernel) (pa_cons (pv 0) (pa_cons (pe_bltn (v := .ty "tuple") rfl T.z_tuple (by decide +kernel) rfl) pa_nil))))) (pw_or1 (pt_cmpR op_ne (pe_callB call_len_seq (by rfl) T.z_len PySem.boot_len (pa_cons (pv 0) pa_nil)) (pv 3) (nomark _))))) (pss_one (ps_ret (pe_tupN (pa_cons pe_int pa_nil)))) pss_nil)
      (pss_cons (ps_for (passes_of rfl) rfl (pi_range1 rfl T.z_range (pa_cons (pv 3) pa_nil)) (pg_name (i := 4) sc__law_table_fault.nd rfl (Or.inl rfl)) (pss_cons (ps_set (i := 5) sc__law_table_fault.nd rfl (Or.inl rfl) (pe_call (ok__law_entries_fault T) hr rfl T.g__law_entries_fault T.F__law_entries_fault.kp T.b__law_entries_fault .nil passN (pa_cons (pe_ix ix_tup (pv 0) (pv 4) (fun _ _ => rfl)) (pa_cons (pe_un un_neg pe_int) (pa_cons (pv 1) (pa_cons pe_str pa_nil))))))
      (pss_one (ps_if (pt_cmpR op_notN (pv 5) pe_non (nomark _)) (pss_one (ps_ret (pe_op op_catN (pe_tupN (pa_cons pe_int (pa_cons (pv 4) pa_nil))) (pv 5)))) pss_nil))))
      (pss_one (ps_ret pe_non)))))),
      (sSeq (sAsg (sCall (sCons sVar (sCons sVar sNil))) sName)
      (sSeq (sIfS (sOr (sTest (sOp roBl0 sVar sInt)) (sTest (sOp roBl0 sVar sInt))) (sRet (sTup sNil)) sNext)
      (sSeq (sIfS (sOr (sNot (sB (sCB (rcIsi (T := "tuple")) (sCons sVar (sCons sHd sNil))))) (sTest (sOp roNe (sCB rcLen (sCons sVar sNil)) sVar))) (sRet (sTup (sCons sInt sNil))) sNext)
      (sSeq (sFor (siR1 sVar) (fun _ _ _ => sName) (fun _ _ _ => (sSeq (sAsg (sCall (sCons (sOp roIxT sVar sVar) (sCons (sUn ruInt sInt) (sCons sVar (sCons sStr sNil))))) sName)
      (sIfS (sTest (sOp roNotN sVar sNon)) (sRet (sOp roCatT (sTup (sCons sInt (sCons sVar sNil))) sVar)) sNext))))
      (sRet sNon)))))⟩) (fun ds μ Φ Ψ h => ?hv)
  case hv =>
    obtain ⟨L, j, n, k, d, rfl, hs, hd, hL, h⟩ := h
    have n64 := hs.n64
    have k1 := hs.k1
    have k4 := hs.k4
    unfold tabO at h
    refine seq_cut fun M hM => ?_
    walk_at "wp"
    refine ⟨n, k, rfl, n64, k4, k1, ?_⟩
    obtain ⟨m, hm⟩ : ∃ m : Nat, m = k ^ n := ⟨_, rfl⟩
    rw [← hm]
    rw [hM]; clear hM M
    refine seq_cut fun M hM => ?_
    walk_at "wp"
    have no : ¬ sml n k → 0 ≤ 100000 ∧ ∃ μ2, DW.Sub μ2 μ ∧ Φ (D.tup []) μ2 := fun q => by rw [if_neg q] at h; exact ⟨by decide, ret_same h⟩
    refine ⟨fun q => no fun z => by have := z.1; omega, fun q => ⟨fun q2 => no fun z => by have := z.2; omega, fun q2 => ?_⟩⟩
    have hsm : sml n k := ⟨by omega, by omega⟩
    rw [if_pos hsm] at h
    rw [hM]; clear hM M
    rcases trm_cases hd with ⟨i, rfl⟩ | ⟨s, rfl⟩ | ⟨rs, j, rfl, rfl, hl, hx⟩
    · walk_at "wps"
      exact ⟨by decide, ret_same h⟩
    · walk_at "wps"
      exact ⟨by decide, ret_same h⟩
    refine seq_cut fun M hM => ?_
    walk_at "wp"
    refine ⟨fun z => ⟨by decide, ret_same ?_⟩, fun z => ?_⟩
    · have : ¬ rs.length = k ^ n := fun q => by rw [q, ← hm] at z; simp at z
      simp only [rowsF] at h
      rw [if_neg this] at h
      exact h
    have hn : rs.length = k ^ n := Classical.byContradiction fun q => by
      have : decide (((rs.length : Nat) : Int) = (m : Int)) = false := decide_eq_false (fun e => q (by rw [← hm]; exact Int.ofNat.inj e))
      rw [this] at z; cases z
    have he : rowsF n k (.tup rs) = rowsE n 0 rs := by simp only [rowsF]; rw [if_pos hn]
    rw [he] at h
    rw [hM]; clear hM M
    refine seq_cut fun M hM => ?_
    walk_at "wp"
    refine ⟨by omega, by omega, fun i δ' μ' => μ' = μ ∧ ∃ x y, δ' = [some (.tup rs), some (.int n), some (.int k), some (.int m), x, y] ∧ rowsE n i (rs.drop i) = rowsE n 0 rs, ⟨rfl, _, _, rfl, by rw [List.drop_zero]⟩, ?_, ?_⟩
    · rintro i d δ' μ' hi ⟨rfl, x, y, rfl, s⟩
      obtain ⟨hj, rfl⟩ := rngD_get hi
      have hj2 : i < rs.length := by rw [hn, ← hm]; exact hj
      have hz : rs[i]? = some rs[i] := List.getElem?_eq_getElem hj2
      have hzl := hx rs[i] (List.getElem_mem hj2)
      generalize rs[i] = z at hz hzl
      walk_at "wps"
      refine ⟨z, atI_nat hz, L, j, .rise, none, n, z, rfl, hzl, hL, ?_⟩
      rcases rowsE_step hz s with ⟨p, h1, h2⟩ | ⟨h1, h2⟩
      · rw [h1]
        simp only [pd]
        walk_at "wps"
        have hp := (entF_ok hzl h1).1
        rw [h2] at h
        exact ⟨by decide, by omega, ret_same h⟩
      · rw [h1]
        simp only [pd]
        walk_at "wps"
        exact ⟨_, _, rfl, h2⟩
    · rintro δ' μ' ⟨rfl, x, y, rfl, s⟩
      rw [show rs.drop m = [] from List.drop_eq_nil_of_le (by rw [hn, ← hm]; exact Nat.le_refl _)] at s
      rw [← s] at h
      rw [hM]
      exact ret_same h
end
section
variable {P : Program} {w : World} {K : Fg} {mg : Str → Option Value} {base : Heap}
def c__law_fault : Nat → Con
  | 0 => fun _ _ _ _ => False
  | m + 1 => fun ds μ Φ _ => ∃ (L j n k r : Nat) (d : D), ds = [d, .int n, .int k, .int (7 - (r : Int))] ∧ SzOk n k ∧ trm L j d ∧ L ≤ 100000 ∧ r ≤ 6 ∧ r ≤ m ∧ Φ (pd (fa n k r d)) μ
theorem len__law_fault {m ds μ Φ Ψ} (h : c__law_fault m ds μ Φ Ψ) : ds.length = 4 := by
  cases m with
  | zero => exact h.elim
  | succ m => obtain ⟨_, _, _, _, _, _, rfl, _⟩ := h; rfl
def c__law_item_fault (m : Nat) : Con := fun ds μ Φ _ => ∃ (L j n k r : Nat) (w : Str) (a : D) (rest : List D) (kd : Str) (ks : List Str), ds = [.tup (.str w :: a :: rest), .int n, .int k, .int (6 - (r : Int))] ∧ SzOk n k ∧ sh w = some (kd :: ks) ∧ w ≠ "table" ∧ trm L j a ∧ L ≤ 100000 ∧ r ≤ 5 ∧ r + 1 ≤ m ∧ Φ (pd (wi (fa n k r) n k kd a)) μ
theorem len__law_item_fault {m ds μ Φ Ψ} (h : c__law_item_fault m ds μ Φ Ψ) : ds.length = 4 := by obtain ⟨_, _, _, _, _, _, _, _, _, _, rfl, _⟩ := h; rfl
theorem kd_best : ∀ p ∈ tblK, p.1 ∈ (["best", "second"] : List Str) → p.2.head? = some "ranks" := by decide
theorem kd_recode : ∀ p ∈ tblK, p.1 = "recode" → p.2.head? = some "codes" := by decide
theorem kd_reorder : ∀ p ∈ tblK, p.1 = "reorder" → p.2.head? = some "places" := by decide
theorem kd_among : ∀ p ∈ tblK, p.1 = "among" → p.2.head? = some "outcomes" := by decide
theorem kd_only : ∀ p ∈ tblK, p.1 = "only" → p.2.head? = some "options" := by decide
theorem kd_like : ∀ p ∈ tblK, p.1 ∈ (["like", "unlike"] : List Str) → p.2.head? = some "option" := by decide
theorem kd_rest : ∀ p ∈ tblK, p.1 ∉ (["best", "second", "recode", "reorder", "among", "only", "like", "unlike", "table"] : List Str) → p.2.head? = none ∨ p.2.head? = some "aim" := by decide
theorem step__law_item_fault (T : Txt P w K mg) {k : Nat} (hk : 4 ≤ k) (n : Nat) (ih__law_fault : FnOk P w K mg base (L2N.CX P w) k T.f__law_fault T.d__law_fault ["_law_term", "_law_n", "_law_k", "_law_level"] (spOf K (c__law_fault (n + 1)))) : FnOk P w K mg base (L2N.CX P w) (k + 1) T.f__law_item_fault T.d__law_item_fault ["_law_term", "_law_n", "_law_k", "_law_level"] (spOf K (c__law_item_fault (n + 1))) := by
  refine def_okC T.F__law_item_fault sc__law_item_fault _ (fun ds μ Φ Ψ h => len__law_item_fault h) (fun cdv A outer s H E B hW hr =>
    have tk : L2N.Takes (cxOf (L2N.CX P w) P w K mg base N__law_item_fault "_law_item_fault" (defScope s__law_item_fault) T.f__law_item_fault cdv A outer s H E) (fun cls d _ H => E cls d H) := L2N.takes_of rfl rfl rfl rfl
    ⟨_, (pss_cons (ps_set (i := 4) sc__law_item_fault.nd rfl (Or.inl rfl) (pe_ix ix_tup (pv 0) pe_int (fun _ _ => rfl)))
      (pss_cons (ps_if (pt_cmpR op_in_seq (pv 4) (pe_lst (pa_cons pe_str (pa_cons pe_str pa_nil))) (by with_unfolding_all rfl)) (pss_one (ps_ret (pe_call (ok__law_entries_fault T) (hr.mono (by omega)) rfl T.g__law_entries_fault T.F__law_entries_fault.kp T.b__law_entries_fault .nil passN (pa_cons (pe_ix ix_tup (pv 0) pe_int (fun _ _ => rfl)) (pa_cons (pv 2) (pa_cons pe_int (pa_cons pe_str pa_nil))))))) pss_nil)
      (pss_cons (ps_if (pt_cmpR op_eq (pv 4) pe_str (nomark _)) (pss_one (ps_ret (pe_call (ok__law_entries_fault T) (hr.mono (by omega)) rfl T.g__law_entries_fault T.F__law_entries_fault.kp T.b__law_entries_fault .nil passN (pa_cons (pe_ix ix_tup (pv 0) pe_int (fun _ _ => rfl)) (pa_cons (pv 2) (pa_cons (pv 2) (pa_cons pe_str pa_nil))))))) pss_nil)
      (pss_cons (ps_if (pt_cmpR op_eq (pv 4) pe_str (nomark _)) (pss_one (ps_ret (pe_call (ok__law_entries_fault T) (hr.mono (by omega)) rfl T.g__law_entries_fault T.F__law_entries_fault.kp T.b__law_entries_fault .nil passN (pa_cons (pe_ix ix_tup (pv 0) pe_int (fun _ _ => rfl)) (pa_cons (pv 1) (pa_cons (pv 1) (pa_cons pe_str pa_nil))))))) pss_nil)
      (pss_cons (ps_if (pt_cmpR op_eq (pv 4) pe_str (nomark _)) (pss_one (ps_ret (pe_call (ok__law_entries_fault T) (hr.mono (by omega)) rfl T.g__law_entries_fault T.F__law_entries_fault.kp T.b__law_entries_fault .nil passN (pa_cons (pe_ix ix_tup (pv 0) pe_int (fun _ _ => rfl)) (pa_cons (pe_un un_neg pe_int) (pa_cons (pv 2) (pa_cons pe_str pa_nil))))))) pss_nil)
      (pss_cons (ps_if (pt_cmpR op_eq (pv 4) pe_str (nomark _)) (pss_one (ps_ret (pe_call (ok__law_entries_fault T) (hr.mono (by omega)) rfl T.g__law_entries_fault T.F__law_entries_fault.kp T.b__law_entries_fault .nil passN (pa_cons (pe_ix ix_tup (pv 0) pe_int (fun _ _ => rfl)) (pa_cons (pe_un un_neg pe_int) (pa_cons (pv 1) (pa_cons pe_str pa_nil))))))) pss_nil)
      (pss_cons (ps_if (pt_cmpR op_in_seq (pv 4) (pe_lst (pa_cons pe_str (pa_cons pe_str pa_nil))) (by with_unfolding_all rfl)) (pss_cons (ps_if (PW.pt (pw_and (pt_val (pe_callB call_isi (by rfl) T.z_isinstance (by decide +kernel) (pa_cons (pe_ix ix_tup (pv 0) pe_int (fun _ _ => rfl)) (pa_cons (pe_bltn (v := .ty "int") rfl T.z_int (by decide +kernel) rfl) pa_nil)))) (pw_and1 (pt_chain op_le op_lt pe_int (pe_ix ix_tup (pv 0) pe_int (fun _ _ => rfl)) (pv 1))))) (pss_one (ps_ret pe_non)) pss_nil)
      (pss_one (ps_ret (pe_tupN pa_nil)))) pss_nil)
      (pss_one (ps_ret (pe_call ih__law_fault hr rfl T.g__law_fault T.F__law_fault.kp T.b__law_fault .nil passN (pa_cons (pe_ix ix_tup (pv 0) pe_int (fun _ _ => rfl)) (pa_cons (pv 1) (pa_cons (pv 2) (pa_cons (pe_op op_add (pv 3) pe_int) pa_nil)))))))))))))),
      (sSeq (sAsg (sOp roIxT sVar sInt) sName)
      (sSeq (sIfS (sTest (sOp (roIn (neg := false)) sVar (sLst (sCons sStr (sCons sStr sNil))))) (sRet (sCall (sCons (sOp roIxT sVar sInt) (sCons sVar (sCons sInt (sCons sStr sNil)))))) sNext)
      (sSeq (sIfS (sTest (sOp roEq sVar sStr)) (sRet (sCall (sCons (sOp roIxT sVar sInt) (sCons sVar (sCons sVar (sCons sStr sNil)))))) sNext)
      (sSeq (sIfS (sTest (sOp roEq sVar sStr)) (sRet (sCall (sCons (sOp roIxT sVar sInt) (sCons sVar (sCons sVar (sCons sStr sNil)))))) sNext)
      (sSeq (sIfS (sTest (sOp roEq sVar sStr)) (sRet (sCall (sCons (sOp roIxT sVar sInt) (sCons (sUn ruInt sInt) (sCons sVar (sCons sStr sNil)))))) sNext)
      (sSeq (sIfS (sTest (sOp roEq sVar sStr)) (sRet (sCall (sCons (sOp roIxT sVar sInt) (sCons (sUn ruInt sInt) (sCons sVar (sCons sStr sNil)))))) sNext)
      (sSeq (sIfS (sTest (sOp (roIn (neg := false)) sVar (sLst (sCons sStr (sCons sStr sNil))))) (sSeq (sIfS (sAnd (sB (sCB (rcIsi (T := "int")) (sCons (sOp roIxT sVar sInt) (sCons sHd sNil)))) (sTest (sChain roBl0 roBl0 sInt (sOp roIxT sVar sInt) sVar))) (sRet sNon) sNext)
      (sRet (sTup sNil))) sNext)
      (sRet (sCall (sCons (sOp roIxT sVar sInt) (sCons sVar (sCons sVar (sCons (sOp roInt0 sVar sInt) sNil)))))))))))))⟩) (fun ds μ Φ Ψ h => ?hv)
  case hv =>
    obtain ⟨L, j, nn, k, r, w', a, rest, kd, ks, rfl, hs, hsh, hnt, ha, hL, hr5, hr, h⟩ := h
    have hm := lookup_mem hsh
    have hd0 : ∀ {x : Str}, (kd :: ks).head? = some x → kd = x := fun e => by simpa using e
    refine seq_cut fun M hM => ?_
    walk_at "wp"
    rw [hM]; clear hM M
    refine seq_cut fun M hM => ?_
    walk_at "wp"
    refine ⟨by decide, in_S (l := ["best", "second"]) ⟨_, rfl, fun q => ?_, fun q1 => ?_⟩⟩
    · have e := hd0 (kd_best _ hm (List.contains_iff_mem.mp q))
      subst e
      rw [wi_ranks] at h
      exact ⟨L, j, .any, some k, 10, a, rfl, ha, hL, ret_same h⟩
    have no : ∀ {l : List Str}, l.contains w' = false → w' ∉ l := fun q m => by rw [List.contains_iff_mem.mpr m] at q; cases q
    rw [hM]; clear hM M
    refine seq_cut fun M hM => ?_
    walk_at "wp"
    refine ⟨fun q => ?_, fun q2 => ?_⟩
    · have e := hd0 (kd_recode _ hm q)
      subst e
      rw [wi_codes] at h
      exact ⟨L, j, .any, some k, k, a, rfl, ha, hL, ret_same h⟩
    rw [hM]; clear hM M
    refine seq_cut fun M hM => ?_
    walk_at "wp"
    refine ⟨fun q => ?_, fun q3 => ?_⟩
    · have e := hd0 (kd_reorder _ hm q)
      subst e
      rw [wi_places] at h
      exact ⟨L, j, .once, some nn, nn, a, rfl, ha, hL, ret_same h⟩
    rw [hM]; clear hM M
    refine seq_cut fun M hM => ?_
    walk_at "wp"
    refine ⟨fun q => ?_, fun q4 => ?_⟩
    · have e := hd0 (kd_among _ hm q)
      subst e
      rw [wi_outcomes] at h
      exact ⟨L, j, .rise, none, k, a, rfl, ha, hL, ret_same h⟩
    rw [hM]; clear hM M
    refine seq_cut fun M hM => ?_
    walk_at "wp"
    refine ⟨fun q => ?_, fun q5 => ?_⟩
    · have e := hd0 (kd_only _ hm q)
      subst e
      rw [wi_options] at h
      exact ⟨L, j, .rise, none, nn, a, rfl, ha, hL, ret_same h⟩
    rw [hM]; clear hM M
    refine seq_cut fun M hM => ?_
    walk_at "wps"
    refine ⟨by decide, in_S (l := ["like", "unlike"]) ⟨_, rfl, fun q => ?_, fun q6 => ?_⟩⟩
    · have e := hd0 (kd_like _ hm (List.contains_iff_mem.mp q))
      subst e
      rw [wi_option] at h
      rcases trm_cases ha with ⟨i, rfl⟩ | ⟨s, rfl⟩ | ⟨es, j, rfl, rfl, hl, hx⟩
      · refine ⟨true, rfl, fun _ => ?_, nofun⟩
        walk_at "wps"
        refine ⟨fun c1 => ⟨fun c2 => ret_same ?_, fun c2 => ⟨by decide, ret_same ?_⟩⟩, fun c1 => ⟨by decide, ret_same ?_⟩⟩
        · rw [if_pos (show blw nn (.int i) = true from decide_eq_true ⟨c1, c2⟩)] at h; exact h
        · rw [if_neg (show ¬ blw nn (.int i) = true from fun z => c2 (of_decide_eq_true z).2)] at h; exact h
        · rw [if_neg (show ¬ blw nn (.int i) = true from fun z => c1 (of_decide_eq_true z).1)] at h; exact h
      · exact ⟨false, rfl, nofun, fun _ => ⟨by decide, ret_same h⟩⟩
      · exact ⟨false, rfl, nofun, fun _ => ⟨by decide, ret_same h⟩⟩
    · rw [hM]; clear hM M
      have e : kd = "aim" := by
        have q1 := no q1
        have q6 := no q6
        have := kd_rest _ hm (by
          show w' ∉ _
          simp only [List.mem_cons, List.not_mem_nil, or_false, not_or] at q1 q6 ⊢
          exact ⟨q1.1, q1.2, q2, q3, q4, q5, q6.1, q6.2, hnt⟩)
        rcases this with z | z
        · cases z
        · exact hd0 z
      subst e
      rw [wi_aim] at h
      walk_at "wps"
      exact ⟨L, j, nn, k, r, a, by rw [show (6 : Int) - (r : Int) + 1 = 7 - (r : Int) by omega], hs, ha, hL, by omega, by omega, ret_same h⟩
end
section
variable {P : Program} {w : World} {K : Fg} {mg : Str → Option Value} {base : Heap}
theorem lenW_hs {x : D} {its : List D} : ((lenW x = ((its.length + 1 : Nat) : Int)) ↔ hsB (.tup (x :: its)) = true) := by
  cases x with
  | str w =>
    simp only [lenW, hsB]
    cases hk : sh w with
    | none => exact ⟨fun z => by simp only at z; omega, fun z => by cases z⟩
    | some ks => exact ⟨fun z => decide_eq_true (by simp only at z; omega), fun z => by have := of_decide_eq_true z; simp only; omega⟩
  | _ => exact ⟨fun z => by simp only [lenW] at z; omega, fun z => by cases z⟩
theorem ks_len : ∀ p ∈ tblK, p.2.length ≤ 2 ∧ (p.2.length = 2 → p.2.getLast? = some ("aim" : Str)) ∧ (p.1 = "table" → p.2 = (["rows"] : List Str)) := by decide
theorem step__law_fault (T : Txt P w K mg) {k : Nat} (hk : 4 ≤ k) (n : Nat) (ih__law_item_fault : FnOk P w K mg base (L2N.CX P w) k T.f__law_item_fault T.d__law_item_fault ["_law_term", "_law_n", "_law_k", "_law_level"] (spOf K (c__law_item_fault n))) (ih__law_fault : FnOk P w K mg base (L2N.CX P w) k T.f__law_fault T.d__law_fault ["_law_term", "_law_n", "_law_k", "_law_level"] (spOf K (c__law_fault n))) : FnOk P w K mg base (L2N.CX P w) (k + 1) T.f__law_fault T.d__law_fault ["_law_term", "_law_n", "_law_k", "_law_level"] (spOf K (c__law_fault (n + 1))) := by
  refine def_okC T.F__law_fault sc__law_fault _ (fun ds μ Φ Ψ h => len__law_fault h) (fun cdv A outer s H E B hW hr =>
    have tk : L2N.Takes (cxOf (L2N.CX P w) P w K mg base N__law_fault "_law_fault" (defScope s__law_fault) T.f__law_fault cdv A outer s H E) (fun cls d _ H => E cls d H) := L2N.takes_of rfl rfl rfl rfl
    ⟨_, (pss_cons (ps_if (PW.pt (pw_or (pt_not (pt_val (pe_callB call_isi (by rfl) T.z_isinstance (by decide +kernel) (pa_cons (pv 0) (pa_cons (pe_bltn (v := .ty "tuple") rfl T.z_tuple (by decide +kernel) rfl) pa_nil))))) (pw_or (pt_cmpR op_eq (pe_callB call_len_seq (by rfl) T.z_len PySem.boot_len (pa_cons (pv 0) pa_nil)) pe_int (nomark _)) (pw_or (pt_cmpR op_gt (pv 3) pe_int (nomark _)) (pw_or1 (pt_cmpR op_ne (pe_call (ok__law_length T) (hr.mono (by omega)) rfl T.g__law_length T.F__law_length.kp T.b__law_length .nil passN (pa_cons (pe_ix ix_tup (pv 0) pe_int (fun _ _ => rfl)) pa_nil)) (pe_callB call_len_seq (by rfl) T.z_len PySem.boot_len (pa_cons (pv 0) pa_nil)) (nomark _))))))) (pss_one (ps_ret (pe_tupN pa_nil))) pss_nil)
      (pss_cons (ps_if (pt_cmpR op_eq (pe_callB call_len_seq (by rfl) T.z_len PySem.boot_len (pa_cons (pv 0) pa_nil)) pe_int (nomark _)) (pss_one (ps_ret pe_non)) pss_nil)
      (pss_cons (ps_if (pt_cmpR op_eq (pe_ix ix_tup (pv 0) pe_int (fun _ _ => rfl)) pe_str (nomark _)) (pss_one (ps_ret (pe_call (ok__law_table_fault T) (hr.mono (by omega)) rfl T.g__law_table_fault T.F__law_table_fault.kp T.b__law_table_fault .nil passN (pa_cons (pe_ix ix_tup (pv 0) pe_int (fun _ _ => rfl)) (pa_cons (pv 1) (pa_cons (pv 2) pa_nil)))))) pss_nil)
      (pss_cons (ps_set (i := 4) sc__law_fault.nd rfl (Or.inl rfl) (pe_call (ok__law_under T) (hr.mono (by omega)) rfl T.g__law_under T.F__law_under.kp T.b__law_under .nil passN (pa_cons pe_int (pa_cons (pe_call ih__law_item_fault hr rfl T.g__law_item_fault T.F__law_item_fault.kp T.b__law_item_fault .nil passN (pa_cons (pv 0) (pa_cons (pv 1) (pa_cons (pv 2) (pa_cons (pv 3) pa_nil))))) pa_nil))))
      (pss_cons (ps_if (PW.pt (pw_or (pt_cmpR op_notN (pv 4) pe_non (nomark _)) (pw_or1 (pt_cmpR op_eq (pe_callB call_len_seq (by rfl) T.z_len PySem.boot_len (pa_cons (pv 0) pa_nil)) pe_int (nomark _))))) (pss_one (ps_ret (pv 4))) pss_nil)
      (pss_one (ps_ret (pe_call (ok__law_under T) (hr.mono (by omega)) rfl T.g__law_under T.F__law_under.kp T.b__law_under .nil passN (pa_cons pe_int (pa_cons (pe_call ih__law_fault hr rfl T.g__law_fault T.F__law_fault.kp T.b__law_fault .nil passN (pa_cons (pe_ix ix_tup (pv 0) pe_int (fun _ _ => rfl)) (pa_cons (pv 1) (pa_cons (pv 2) (pa_cons (pe_op op_add (pv 3) pe_int) pa_nil))))) pa_nil)))))))))),
      (sSeq (sIfS (sOr (sNot (sB (sCB (rcIsi (T := "tuple")) (sCons sVar (sCons sHd sNil))))) (sOr (sTest (sOp roEq (sCB rcLen (sCons sVar sNil)) sInt)) (sOr (sTest (sOp roBl0 sVar sInt)) (sTest (sOp roNe (sCall (sCons (sOp roIxT sVar sInt) sNil)) (sCB rcLen (sCons sVar sNil))))))) (sRet (sTup sNil)) sNext)
      (sSeq (sIfS (sTest (sOp roEq (sCB rcLen (sCons sVar sNil)) sInt)) (sRet sNon) sNext)
      (sSeq (sIfS (sTest (sOp roEq (sOp roIxT sVar sInt) sStr)) (sRet (sCall (sCons (sOp roIxT sVar sInt) (sCons sVar (sCons sVar sNil))))) sNext)
      (sSeq (sAsg (sCall (sCons sInt (sCons (sCall (sCons sVar (sCons sVar (sCons sVar (sCons sVar sNil))))) sNil))) sName)
      (sSeq (sIfS (sOr (sTest (sOp roNotN sVar sNon)) (sTest (sOp roEq (sCB rcLen (sCons sVar sNil)) sInt))) (sRet sVar) sNext)
      (sRet (sCall (sCons sInt (sCons (sCall (sCons (sOp roIxT sVar sInt) (sCons sVar (sCons sVar (sCons (sOp roInt0 sVar sInt) sNil))))) sNil)))))))))⟩) (fun ds μ Φ Ψ h => ?hv)
  case hv =>
    obtain ⟨L, j, nn, k, r, d, rfl, hs, hd, hL, hr6, hr, h⟩ := h
    refine seq_cut fun M hM => ?_
    have bad : hsB d = false → 0 ≤ 100000 ∧ ∃ μ2, DW.Sub μ2 μ ∧ Φ (D.tup []) μ2 := fun q => by rw [fa_bad q] at h; exact ⟨by decide, ret_same h⟩
    rcases trm_cases hd with ⟨i, rfl⟩ | ⟨s, rfl⟩ | ⟨es, j, rfl, rfl, hl, hx⟩
    · walk_at "wp"
      exact bad rfl
    · walk_at "wp"
      exact bad rfl
    cases es with
    | nil =>
      walk_at "wp"
      exact ⟨fun _ => bad rfl, fun z => absurd rfl z⟩
    | cons x its =>
      walk_at "wp"
      refine ⟨fun z => by omega, fun _ => ⟨fun q => ?_, fun q => ?_⟩⟩
      · have : r = 0 := by omega
        subst this
        exact ⟨by decide, ret_same h⟩
      refine ⟨x, rfl, trm_leaf (hx x List.mem_cons_self), ?_⟩
      walk_at "wp"
      cases hb : hsB (D.tup (x :: its)) with
      | false =>
        have hne : ¬ lenW x = ((its.length + 1 : Nat) : Int) := fun z => by rw [lenW_hs.mp z] at hb; cases hb
        exact ⟨fun _ => bad hb, fun z => absurd (by simpa using z) hne⟩
      | true =>
        have hlw := lenW_hs.mpr hb
        refine ⟨fun z => absurd hlw (by simpa using z), fun _ => ?_⟩
        obtain ⟨r, rfl⟩ : ∃ i, r = i + 1 := ⟨r - 1, by omega⟩
        obtain ⟨w', its', ks, e, hsh, hlen⟩ := hsB_true hb
        injection e with e
        injection e with e1 e2
        subst e1 e2
        clear bad hb hlw
        have hkl := ks_len _ (lookup_mem hsh)
        simp only at hkl
        rw [hM]; clear hM M
        refine seq_cut fun M hM => ?_
        walk_at "wp"
        refine ⟨fun z => ?_, fun z => ?_⟩
        · have i0 : its = [] := List.eq_nil_of_length_eq_zero (by omega)
          subst i0
          have k0 : ks = [] := List.eq_nil_of_length_eq_zero (by rw [← hlen]; rfl)
          subst k0
          have hnt : ¬ (w' = "table" ∧ ¬ sml nn k) := fun q => by have := hkl.2.2 q.1; cases this
          rw [fa_good hsh hlen hnt] at h
          exact ret_same h
        · obtain ⟨a, rest, rfl⟩ : ∃ a rest, its = a :: rest := by cases its with
            | nil => exact absurd rfl z
            | cons a r => exact ⟨a, r, rfl⟩
          obtain ⟨kd, ks, rfl⟩ : ∃ a rest, ks = a :: rest := by cases ks with
            | nil => cases hlen
            | cons a r => exact ⟨a, r, rfl⟩
          have hlen' : rest.length = ks.length := by simpa using hlen
          have ha := hx a (List.mem_cons_of_mem _ List.mem_cons_self)
          rw [hM]; clear hM M
          refine seq_cut fun M hM => ?_
          walk_at "wp"
          refine ⟨fun e => ?_, fun e => ?_⟩
          · have hk2 := hkl.2.2 e
            injection hk2 with e1 e2
            subst e1 e2
            have r0 : rest = [] := List.eq_nil_of_length_eq_zero (by rw [hlen']; rfl)
            subst r0
            refine ⟨L, j, nn, k, a, rfl, hs, ha, hL, ret_same ?_⟩
            by_cases hsm : sml nn k
            · rw [fa_good hsh hlen (fun q => q.2 hsm)] at h
              unfold tabO
              rw [if_pos hsm]
              simp only [wis, wi_rows] at h
              cases hr2 : rowsF nn k a with
              | none => rw [hr2] at h; exact h
              | some p => rw [hr2] at h; exact h
            · rw [fa_tab hsh ⟨e, hsm⟩] at h
              unfold tabO
              rw [if_neg hsm]
              exact h
          · have hnt : ¬ (w' = "table" ∧ ¬ sml nn k) := fun q => e q.1
            rw [fa_good hsh hlen hnt] at h
            rw [hM]; clear hM M
            refine seq_cut fun M hM => ?_
            walk_at "wp"
            refine ⟨L, j, nn, k, r, w', a, rest, kd, ks, by rw [show (7 : Int) - ((r + 1 : Nat) : Int) = 6 - (r : Int) by omega], hs, hsh, e, ha, hL, by omega, by omega, ?_⟩
            refine ⟨1, _, rfl, fun p hp => Nat.le_trans (wi_ok (m := r) ha (fun p hp => fa_ok ha hp) hp).1 (by omega), ?_⟩
            rw [hM]; clear hM M
            simp only [wis] at h
            cases hwi : wi (fa nn k r) nn k kd a with
            | some p =>
              rw [hwi] at h
              simp only [undr, Option.map_some, pd]
              walk_at "wps"
              exact ret_same h
            | none =>
              rw [hwi] at h
              simp only [undr, Option.map_none, pd]
              refine seq_cut fun M hM => ?_
              walk_at "wp"
              refine ⟨fun c => ?_, fun c => ?_⟩
              · have r0 : rest = [] := List.eq_nil_of_length_eq_zero (by omega)
                subst r0
                have k0 : ks = [] := List.eq_nil_of_length_eq_zero (by rw [← hlen']; rfl)
                subst k0
                exact ret_same h
              · obtain ⟨b, rest, rfl⟩ : ∃ a r2, rest = a :: r2 := by cases rest with
                  | nil => exact absurd rfl c
                  | cons a r => exact ⟨a, r, rfl⟩
                obtain ⟨kd2, ks, rfl⟩ : ∃ a r2, ks = a :: r2 := by cases ks with
                  | nil => cases hlen'
                  | cons a r => exact ⟨a, r, rfl⟩
                have hk1 := hkl.1
                simp only [List.length_cons] at hk1 hlen'
                have k0 : ks = [] := List.eq_nil_of_length_eq_zero (by omega)
                have r0 : rest = [] := List.eq_nil_of_length_eq_zero (by omega)
                subst k0 r0
                have ek : kd2 = "aim" := by
                  have := hkl.2.1 rfl
                  simp only [List.getLast?_cons_cons, List.getLast?_singleton] at this
                  exact Option.some.inj this
                subst ek
                have hb := hx b (List.mem_cons_of_mem _ (List.mem_cons_of_mem _ List.mem_cons_self))
                obtain ⟨n, rfl⟩ : ∃ i, n = i + 1 := ⟨n - 1, by omega⟩
                rw [hM]; clear hM M
                walk_at "wps"
                refine ⟨L, j, nn, k, r, b, by rw [show (7 : Int) - ((r + 1 : Nat) : Int) + 1 = 7 - (r : Int) by omega], hs, hb, hL, by omega, by omega, ?_⟩
                refine ⟨2, fa nn k r b, rfl, fun p hp => Nat.le_trans (fa_ok hb hp).1 (by omega), ret_same ?_⟩
                simp only [wis, wi_aim] at h
                cases hf : fa nn k r b with
                | none => rw [hf] at h; exact h
                | some p => rw [hf] at h; exact h
end
section
variable {P : Program} {w : World} {K : Fg} {mg : Str → Option Value} {base : Heap}
section
variable {P : Program} {w : World} {K : Fg} {mg : Str → Option Value} {base : Heap}
theorem okN__law_fault (T : Txt P w K mg) : ∀ n, FnOk P w K mg base (L2N.CX P w) (4 + 2 * n) T.f__law_fault T.d__law_fault ["_law_term", "_law_n", "_law_k", "_law_level"] (spOf K (c__law_fault n))
  | 0 => fn_never fun ds μ Φ Ψ h => h
  | n + 1 => by
    have ihf := okN__law_fault T n
    have ihi : FnOk P w K mg base (L2N.CX P w) (4 + 2 * n + 1) T.f__law_item_fault T.d__law_item_fault ["_law_term", "_law_n", "_law_k", "_law_level"] (spOf K (c__law_item_fault n)) := by
      cases n with
      | zero => exact fn_never fun ds μ Φ Ψ ⟨_, _, _, _, _, _, _, _, _, _, _, _, _, _, _, _, _, h, _⟩ => by omega
      | succ n => exact step__law_item_fault T (k := 4 + 2 * (n + 1)) (by omega) n ihf
    exact step__law_fault T (k := 4 + 2 * n + 1) (by omega) n ihi (ihf.mono (by omega))
theorem ok__law_fault (T : Txt P w K mg) : FnOk P w K mg base (L2N.CX P w) 30 T.f__law_fault T.d__law_fault ["_law_term", "_law_n", "_law_k", "_law_level"] (spOf K (c__law_fault 7)) := (okN__law_fault T 7).mono (by decide)
end
theorem w_intBl {b : Bool} {μ : Sto} {Φ : DK} (h : Φ (.int (if b then 1 else 0)) μ) : cInt [.bl b] μ Φ := ⟨0, .inr ⟨b, rfl, h⟩⟩
def madeD (n k : Int) (d : D) : D := .tup [.str "made", d, .int n, .int k]
def refD (c : Int) (p : List Int) : D := .tup [.str "refused", .int c, .tup (p.map .int)]
def c__law_made (C : Addr) : Con := fun ds μ Φ _ => ∃ (L j : Nat) (n k : Int) (d : D), ds = [d, .int n, .int k] ∧ trm L j d ∧ L ≤ 100000 ∧ (¬ szB n k → Φ (refD 2 []) μ) ∧ (szB n k → fa n.toNat k.toNat 6 d = none → Φ (madeD n k d) μ) ∧ (szB n k → ∀ p, fa n.toNat k.toNat 6 d = some p → Φ (refD 1 p) μ)
theorem len__law_made {C ds μ Φ Ψ} (h : c__law_made C ds μ Φ Ψ) : ds.length = 3 := by obtain ⟨_, _, _, _, _, rfl, _⟩ := h; rfl
theorem ok__law_made (T : Txt P w K mg) : FnOk P w K mg base (L2N.CX P w) 24 T.f__law_made T.d__law_made ["_law_term", "_law_n", "_law_k"] (spOf K (c__law_made T.c_Aim)) := by
  refine def_okC T.F__law_made sc__law_made _ (fun ds μ Φ Ψ h => len__law_made h) (fun cdv A outer s H E B hW hr =>
    have tk : L2N.Takes (cxOf (L2N.CX P w) P w K mg base N__law_made "_law_made" (defScope s__law_made) T.f__law_made cdv A outer s H E) (fun cls d _ H => E cls d H) := L2N.takes_of rfl rfl rfl rfl
    ⟨_, (pss_one (L2N.ps_try_as (i := 3) rfl rfl sc__law_made.nd rfl rfl ⟨rfl, by decide, .inl T.g_ChoosersError⟩ tk (fun W pn xe tk pown => (pss_cons (ps_set (i := 4) sc__law_made.nd rfl (Or.inl rfl) (pe_makeS T.mk_Aim (ok_Aim___init__ T) (hr.mono (by decide)) rfl T.g_Aim T.b_Aim___init__ (fun σ => L2N.passAt tk σ) (pa_cons (pv 0) (pa_cons (pv 1) (pa_cons (pv 2) pa_nil)))))
      (pss_one (ps_ret (pe_tupN (pa_cons pe_str (pa_cons (pe_fld (pv 4) rfl) (pa_cons (pe_fld (pv 4) rfl) (pa_cons (pe_fld (pv 4) rfl) pa_nil)))))))))
      (fun a oe cls d pn hz hf => (pss_cons (ps_set (i := 5) sc__law_made.nd rfl (Or.inl rfl) (pe_lst (pa_cons (pe_callB (call_isH hz hf) (by rfl) T.z_isinstance (by decide +kernel) (pa_cons (pv 3) (pa_cons (pe_glob (v := .ref T.c_InvalidGame) rfl T.g_InvalidGame rfl) pa_nil))) (pa_cons (pe_callB (call_isH hz hf) (by rfl) T.z_isinstance (by decide +kernel) (pa_cons (pv 3) (pa_cons (pe_glob (v := .ref T.c_InvalidQuery) rfl T.g_InvalidQuery rfl) pa_nil))) (pa_cons (pe_callB (call_isH hz hf) (by rfl) T.z_isinstance (by decide +kernel) (pa_cons (pv 3) (pa_cons (pe_glob (v := .ref T.c_InvalidContext) rfl T.g_InvalidContext rfl) pa_nil))) pa_nil)))))
      (pss_cons (ps_if (PW.pt (pw_or (pt_val (pe_callB (cr_anyH hz.2.2 hf) (by rfl) T.z_any (by decide +kernel) (pa_cons (pv 5) pa_nil))) (pw_or (pt_val (pe_callB (call_isH hz hf) (by rfl) T.z_isinstance (by decide +kernel) (pa_cons (pv 3) (pa_cons (pe_glob (v := .ref T.c_SizeMismatch) rfl T.g_SizeMismatch rfl) pa_nil)))) (pw_or (pt_val (pe_callB (call_isH hz hf) (by rfl) T.z_isinstance (by decide +kernel) (pa_cons (pv 3) (pa_cons (pe_glob (v := .ref T.c_TooLarge) rfl T.g_TooLarge rfl) pa_nil)))) (pw_or1 (pt_not (pt_val (pe_callB (call_isH hz hf) (by rfl) T.z_isinstance (by decide +kernel) (pa_cons (pv 3) (pa_cons (pe_bltn (v := .ty "ValueError") rfl T.z_ValueError (by decide +kernel) rfl) pa_nil)))))))))) (pss_one (ps_ret (pe_tupN (pa_cons pe_str (pa_cons pe_int (pa_cons (pe_tupN pa_nil) pa_nil)))))) pss_nil)
      (pss_cons (ps_if (PW.pt (pw_and (pt_val (pe_callB (call_isH hz hf) (by rfl) T.z_isinstance (by decide +kernel) (pa_cons (pv 3) (pa_cons (pe_glob (v := .ref T.c_InvalidTerm) rfl T.g_InvalidTerm rfl) pa_nil)))) (pw_and (pt_val (pe_callB (call_isH hz hf) (by rfl) T.z_isinstance (by decide +kernel) (pa_cons (pv 3) (pa_cons (pe_glob (v := .ref T.c_InvalidAim) rfl T.g_InvalidAim rfl) pa_nil)))) (pw_and1 (pt_not (pt_val (pe_callB (call_isH hz hf) (by rfl) T.z_isinstance (by decide +kernel) (pa_cons (pv 3) (pa_cons (pe_glob (v := .ref T.c_OutOfRange) rfl T.g_OutOfRange rfl) pa_nil))))))))) (pss_one (ps_ret (pe_tupN (pa_cons pe_str (pa_cons pe_int (pa_cons (pe_xf T.xf_InvalidAim T.no_InvalidAim hz.zc hf (pv 3)) pa_nil)))))) pss_nil)
      (pss_one (ps_ret (pe_tupN (pa_cons pe_str (pa_cons (pe_op op_mulX pe_int (pe_callTy call_int1 (by rfl) T.z_int (by decide +kernel) (pa_cons (pe_and (pe_callB (call_isH hz hf) (by rfl) T.z_isinstance (by decide +kernel) (pa_cons (pv 3) (pa_cons (pe_glob (v := .ref T.c_OutOfRange) rfl T.g_OutOfRange rfl) pa_nil))) (pe_one (pe_not (pe_callB (call_isH hz hf) (by rfl) T.z_isinstance (by decide +kernel) (pa_cons (pv 3) (pa_cons (pe_glob (v := .ref T.c_InvalidTerm) rfl T.g_InvalidTerm rfl) pa_nil)))))) pa_nil))) (pa_cons (pe_tupN pa_nil) pa_nil)))))))))))),
      (sTryAs (c := .ref T.c_ChoosersError) (i := 3) hW (fun W B hW => (sSeq (sAsg (sMakeSW (W := W) (by exact hW) (sCons sVar (sCons sVar (sCons sVar sNil)))) sName)
      (sRet (sTup (sCons sStr (sCons (sFldO (NS := NSA) (i := 0) T.cls_Aim T.na_Aim_term rfl (by decide) sVar) (sCons (sFldO (NS := NSA) (i := 1) T.cls_Aim T.na_Aim_options rfl (by decide) sVar) (sCons (sFldO (NS := NSA) (i := 2) T.cls_Aim T.na_Aim_outcomes rfl (by decide) sVar) sNil))))))))
      (fun a cls dd x B hW rx => (sSeq (sAsg (sLst (sCons (sIsE rx (sCons sVar (sCons sHd sNil))) (sCons (sIsE rx (sCons sVar (sCons sHd sNil))) (sCons (sIsE rx (sCons sVar (sCons sHd sNil))) sNil)))) sName)
      (sSeq (sIfS (sOr (sB (sCB rcAny (sCons sVar sNil))) (sOr (sB (sIsE rx (sCons sVar (sCons sHd sNil)))) (sOr (sB (sIsE rx (sCons sVar (sCons sHd sNil)))) (sNot (sB (sIsE rx (sCons sVar (sCons sHd sNil)))))))) (sRet (sTup (sCons sStr (sCons sInt (sCons (sTup sNil) sNil))))) sNext)
      (sSeq (sIfS (sAnd (sB (sIsE rx (sCons sVar (sCons sHd sNil)))) (sAnd (sB (sIsE rx (sCons sVar (sCons sHd sNil)))) (sNot (sB (sIsE rx (sCons sVar (sCons sHd sNil))))))) (sRet (sTup (sCons sStr (sCons sInt (sCons (sXf (C := T.c_InvalidAim) rx sVar) sNil))))) sNext)
      (sRet (sTup (sCons sStr (sCons (sOp roInt sInt (sCB rcInt (sCons (sAndV (sIsE rx (sCons sVar (sCons sHd sNil))) (sNotV (sIsE rx (sCons sVar (sCons sHd sNil))))) sNil))) (sCons (sTup sNil) sNil))))))))))⟩) (fun ds μ Φ Ψ h => ?hv)
  case hv =>
    obtain ⟨L, j, n, k, d, rfl, hd, hL, h0, h1, h2⟩ := h
    walk_at "wps"
    intro x hx
    have fin : ∀ r, Φ r μ → ∃ μ2, DW.Sub μ2 (sset μ x (.ins T.c_Aim [] [])) ∧ Φ r μ2 := fun r hr => ⟨μ, Sub.set Sub.refl hx, hr⟩
    refine ⟨x, L, j, n, k, d, rfl, hd, hL, sset_same, fun hs => ?_, fun hs hf => ?_, fun hs p hf => ?_⟩
    · refine ⟨true, T.m_OutOfRange_ChoosersError, fun _ a ha => ⟨false, T.i_OutOfRange_InvalidGame, T.ec_OutOfRange, false, T.i_OutOfRange_InvalidQuery, T.ec_OutOfRange, false, T.i_OutOfRange_InvalidContext, T.ec_OutOfRange, by decide, ?_⟩, nofun⟩
      show cAny [.lst (([false, false, false] : List Bool).map .bl)] _ _
      rw [w_any]
      refine ⟨_, rfl, nofun, fun _ => ⟨false, T.i_OutOfRange_SizeMismatch, T.ec_OutOfRange, nofun, fun _ => ⟨false, T.i_OutOfRange_TooLarge, T.ec_OutOfRange, nofun, fun _ => ⟨true, T.i_OutOfRange_ValueError, T.ec_OutOfRange, nofun, fun _ => ⟨false, T.i_OutOfRange_InvalidTerm, T.ec_OutOfRange, nofun, fun _ => ?_⟩⟩⟩⟩⟩
      refine ⟨true, T.i_OutOfRange_OutOfRange, T.ec_OutOfRange, fun _ => ⟨false, T.i_OutOfRange_InvalidTerm, T.ec_OutOfRange, w_intBl ?_⟩, nofun⟩
      walk_at "wps"
      exact ⟨mulx 3 3 (by decide) (by decide) (by decide), by decide, by decide, fin _ (h0 hs)⟩
    · rw [sset_sset]
      refine ⟨rfl, NSA, _, sset_same, ?_⟩
      rw [sdel_sset hx]
      refine ⟨_, _, rfl, rfl, _, _, rfl, rfl, _, _, rfl, rfl, by decide, ret_same (h1 hs hf)⟩
    · refine ⟨true, T.m_InvalidAim_ChoosersError, fun _ a ha => ⟨false, T.i_InvalidAim_InvalidGame, T.ec_InvalidAim, false, T.i_InvalidAim_InvalidQuery, T.ec_InvalidAim, false, T.i_InvalidAim_InvalidContext, T.ec_InvalidAim, by decide, ?_⟩, nofun⟩
      show cAny [.lst (([false, false, false] : List Bool).map .bl)] _ _
      rw [w_any]
      refine ⟨_, rfl, nofun, fun _ => ⟨false, T.i_InvalidAim_SizeMismatch, T.ec_InvalidAim, nofun, fun _ => ⟨false, T.i_InvalidAim_TooLarge, T.ec_InvalidAim, nofun, fun _ => ⟨true, T.i_InvalidAim_ValueError, T.ec_InvalidAim, nofun, fun _ => ⟨true, T.i_InvalidAim_InvalidTerm, T.ec_InvalidAim, fun _ => ?_, nofun⟩⟩⟩⟩⟩
      exact ⟨true, T.i_InvalidAim_InvalidAim, T.ec_InvalidAim, fun _ => ⟨false, T.i_InvalidAim_OutOfRange, T.ec_InvalidAim, fun _ => ⟨_, _, 0, _, rfl, rfl, by decide, rfl, by decide, fin _ (h2 hs p hf)⟩, nofun⟩, nofun⟩
end
section
variable {P : Program} {w : World} {K : Fg} {mg : Str → Option Value} {base : Heap}
section
variable {P : Program} {w : World} {K : Fg} {mg : Str → Option Value} {base : Heap}
theorem okN__law_same (T : Txt P w K mg) : ∀ n, FnOk P w K mg base (L2N.CX P w) n T.f__law_same T.d__law_same ["_law_actual", "_law_due"] (spOf K (c__law_same n))
  | 0 => fn_never fun ds μ Φ Ψ h => h
  | n + 1 => step__law_same T (Nat.zero_le _) n (okN__law_same T n)
theorem ok__law_same (T : Txt P w K mg) : FnOk P w K mg base (L2N.CX P w) 30 T.f__law_same T.d__law_same ["_law_actual", "_law_due"] (spOf K (c__law_same 30)) := okN__law_same T 30
end
mutual
theorem same_refl : ∀ d : D, plainD d = true → sameD d d = true
  | .non, _ => rfl
  | .bl b, _ => by simp [sameD]
  | .int b, _ => by simp [sameD]
  | .str b, _ => by simp [sameD]
  | .tup ds, h => by
    simp only [plainD, Bool.and_eq_true] at h
    simp only [sameD]
    exact sames_refl ds h.1
  | .lst _, h => by simp [plainD] at h
  | .pr _, h => by simp [plainD] at h
  | .obj _ _ _, h => by simp [plainD] at h
  | .hd _, h => by simp [plainD] at h
  | .scr _, h => by simp [plainD] at h
theorem sames_refl : ∀ ds : List D, plainDs ds = true → sameDs ds ds = true
  | [], _ => rfl
  | d :: ds, h => by simp only [plainDs, Bool.and_eq_true] at h; simp only [sameDs, same_refl d h.1, sames_refl ds h.2, Bool.and_self]
end
theorem trm_plainD {L : Nat} (hL : L ≤ 100000) : ∀ {j : Nat} {d : D}, trm L j d → plainD d = true ∧ depD d ≤ j + 1
  | j, .int _, _ => ⟨rfl, by simp [depD]⟩
  | j, .str _, _ => ⟨rfl, by simp [depD]⟩
  | 0, .tup _, h => by simp [trm] at h
  | j + 1, .tup ds, h => by
    have all : ∀ es : List D, (∀ d ∈ es, trm L j d) → plainDs es = true ∧ depDs es ≤ j + 1 := fun es => by
      induction es with
      | nil => exact fun _ => ⟨rfl, by simp [depDs]⟩
      | cons e es ih =>
        intro he
        have a := trm_plainD hL (he e List.mem_cons_self)
        have b := ih fun d hd => he d (List.mem_cons_of_mem _ hd)
        exact ⟨by simp only [plainDs, a.1, b.1, Bool.and_self], by simp only [depDs]; exact Nat.max_le.mpr ⟨a.2, b.2⟩⟩
    have a := all ds h.2
    have := h.1
    exact ⟨by simp only [plainD, a.1, Bool.true_and]; exact decide_eq_true (by omega), by simp only [depD]; omega⟩
  | _, .non, h => by simp [trm] at h
  | _, .bl _, h => by simp [trm] at h
  | _, .lst _, h => by simp [trm] at h
  | _, .pr _, h => by simp [trm] at h
  | _, .obj _ _ _, h => by simp [trm] at h
  | _, .hd _, h => by simp [trm] at h
  | _, .scr _, h => by simp [trm] at h
theorem same_trm {L j : Nat} {d : D} {μ : Sto} {Φ : DK} {Ψ : XD → Sto → Prop} (hd : trm L j d) (hL : L ≤ 100000) (hj : j ≤ 29) (h : Φ (.bl true) μ) : c__law_same 30 [d, d] μ Φ Ψ := by
  have a := trm_plainD hL hd
  refine same_at a.1 a.1 (by have := a.2; omega) ?_
  rw [same_refl _ a.1]
  exact h
theorem trm_made {L j : Nat} {d : D} {n k : Int} (hL : 4 ≤ L) (hd : trm L j d) : trm L (j + 1) (madeD n k d) := ⟨by simp; omega, fun x hx => by
  simp only [List.mem_cons, List.not_mem_nil, or_false] at hx
  rcases hx with rfl | rfl | rfl | rfl
  · exact trm_str
  · exact hd
  · exact trm_int
  · exact trm_int⟩
theorem trm_ref {L : Nat} {c : Int} {p : List Int} (hL : 3 ≤ L) (hp : p.length ≤ L) : trm L 2 (refD c p) := trm_3 hL trm_str trm_int (trm_I hp)
def c__law_judged : Con := fun ds μ Φ _ => ∃ (L j n k : Nat) (d : D), ds = [d, .int n, .int k] ∧ SzOk n k ∧ trm L j d ∧ L ≤ 10000 ∧ j ≤ 20 ∧ Φ (.bl true) μ
theorem len__law_judged {ds μ Φ Ψ} (h : c__law_judged ds μ Φ Ψ) : ds.length = 3 := by obtain ⟨_, _, _, _, _, rfl, _⟩ := h; rfl
theorem ok__law_judged (T : Txt P w K mg) : FnOk P w K mg base (L2N.CX P w) 31 T.f__law_judged T.d__law_judged ["_law_term", "_law_n", "_law_k"] (spOf K c__law_judged) := by
  refine def_okC T.F__law_judged sc__law_judged _ (fun ds μ Φ Ψ h => len__law_judged h) (fun cdv A outer s H E B hW hr =>
    have tk : L2N.Takes (cxOf (L2N.CX P w) P w K mg base N__law_judged "_law_judged" (defScope s__law_judged) T.f__law_judged cdv A outer s H E) (fun cls d _ H => E cls d H) := L2N.takes_of rfl rfl rfl rfl
    ⟨_, (pss_cons (ps_set (i := 3) sc__law_judged.nd rfl (Or.inl rfl) (pe_call (ok__law_fault T) hr rfl T.g__law_fault T.F__law_fault.kp T.b__law_fault .nil passN (pa_cons (pv 0) (pa_cons (pv 1) (pa_cons (pv 2) (pa_cons pe_int pa_nil))))))
      (pss_cons (ps_if (pt_cmpR op_isN (pv 3) pe_non (nomark _)) (pss_one (ps_ret (pe_call (ok__law_same T) (hr.mono (by decide)) rfl T.g__law_same T.F__law_same.kp T.b__law_same .nil passN (pa_cons (pe_call (ok__law_made T) (hr.mono (by decide)) rfl T.g__law_made T.F__law_made.kp T.b__law_made .nil passN (pa_cons (pv 0) (pa_cons (pv 1) (pa_cons (pv 2) pa_nil)))) (pa_cons (pe_tupN (pa_cons pe_str (pa_cons (pv 0) (pa_cons (pv 1) (pa_cons (pv 2) pa_nil))))) pa_nil))))) pss_nil)
      (pss_one (ps_ret (pe_call (ok__law_same T) (hr.mono (by decide)) rfl T.g__law_same T.F__law_same.kp T.b__law_same .nil passN (pa_cons (pe_call (ok__law_made T) (hr.mono (by decide)) rfl T.g__law_made T.F__law_made.kp T.b__law_made .nil passN (pa_cons (pv 0) (pa_cons (pv 1) (pa_cons (pv 2) pa_nil)))) (pa_cons (pe_tupN (pa_cons pe_str (pa_cons pe_int (pa_cons (pv 3) pa_nil)))) pa_nil))))))),
      (sSeq (sAsg (sCall (sCons sVar (sCons sVar (sCons sVar (sCons sInt sNil))))) sName)
      (sSeq (sIfS (sTest (sOp roIsN sVar sNon)) (sRet (sCall (sCons (sCall (sCons sVar (sCons sVar (sCons sVar sNil)))) (sCons (sTup (sCons sStr (sCons sVar (sCons sVar (sCons sVar sNil))))) sNil)))) sNext)
      (sRet (sCall (sCons (sCall (sCons sVar (sCons sVar (sCons sVar sNil)))) (sCons (sTup (sCons sStr (sCons sInt (sCons sVar sNil)))) sNil))))))⟩) (fun ds μ Φ Ψ h => ?hv)
  case hv =>
    obtain ⟨L, j, n, k, d, rfl, hs, hd, hL, hj, h⟩ := h
    have hsz : szB (n : Int) (k : Int) := ⟨by have := hs.n1; omega, by have := hs.n64; omega, by have := hs.k1; omega, by have := hs.k4; omega⟩
    have hd2 : trm 10000 j d := trm_mono hL (Nat.le_refl _) hd
    walk_at "wps"
    refine ⟨L, j, n, k, 6, d, rfl, hs, hd, by omega, by decide, by decide, ?_⟩
    cases hf : fa n k 6 d with
    | none =>
      simp only [pd]
      walk_at "wps"
      refine ⟨L, j, n, k, d, rfl, hd, by omega, fun q => absurd hsz q, fun _ _ => ?_, fun _ p hp => ?_⟩
      · refine ⟨by decide, same_trm (trm_made (n := n) (k := k) (by decide) hd2) (by decide) (by omega) (ret_same h)⟩
      · rw [Int.toNat_natCast, Int.toNat_natCast, hf] at hp; cases hp
    | some p =>
      have hk := fa_ok hd hf
      simp only [pd]
      walk_at "wps"
      refine ⟨L, j, n, k, d, rfl, hd, by omega, fun q => absurd hsz q, fun _ hp => ?_, fun _ q hq => ?_⟩
      · rw [Int.toNat_natCast, Int.toNat_natCast, hf] at hp; cases hp
      · rw [Int.toNat_natCast, Int.toNat_natCast, hf] at hq
        cases hq
        refine ⟨by decide, same_trm (trm_ref (L := 10000) (c := 1) (p := p) (by decide) (by have := hk.1; omega)) (by decide) (by decide) (ret_same h)⟩
end
section
variable {P : Program} {w : World} {K : Fg} {mg : Str → Option Value} {base : Heap}
def c_law : Con := fun ds μ Φ _ => ∃ ns : List Int, ds = [.scr ns] ∧ ns.length ≤ 63 ∧ Φ (.bl true) μ
theorem len_law {ds μ Φ Ψ} (h : c_law ds μ Φ Ψ) : ds.length = 1 := by obtain ⟨_, rfl, _⟩ := h; rfl
def W3 : List Str := ["either", "both", "else"]
theorem ok_law (T : Txt P w K mg) : FnOk P w K mg base (L2N.CX P w) 40 T.f_law T.d_law ["_law_script"] (spOf K c_law) := by
  refine def_okC T.F_law sc_law _ (fun ds μ Φ Ψ h => len_law h) (fun cdv A outer s H E B hW hr =>
    have tk : L2N.Takes (cxOf (L2N.CX P w) P w K mg base N_law "law" (defScope s_law) T.f_law cdv A outer s H E) (fun cls d _ H => E cls d H) := L2N.takes_of rfl rfl rfl rfl
    ⟨_, (pss_cons (ps_set (i := 1) sc_law.nd rfl (Or.inl rfl) (pe_call (ok__law_start T) (hr.mono (by decide)) rfl T.g__law_start T.F__law_start.kp T.b__law_start .nil passN (pa_cons (pv 0) pa_nil)))
      (pss_cons (ps_set (i := 2) sc_law.nd rfl (Or.inl rfl) (pe_call (ok__law_any_size T) (hr.mono (by decide)) rfl T.g__law_any_size T.F__law_any_size.kp T.b__law_any_size .nil passN (pa_cons (pv 1) pa_nil)))
      (pss_cons (ps_set (i := 3) sc_law.nd rfl (Or.inl rfl) (pe_ix ix_tup (pv 2) pe_int (fun _ _ => rfl)))
      (pss_cons (ps_set (i := 4) sc_law.nd rfl (Or.inl rfl) (pe_ix ix_tup (pv 2) pe_int (fun _ _ => rfl)))
      (pss_cons (ps_set (i := 5) sc_law.nd rfl (Or.inl rfl) (pe_call (ok__law_single T) (hr.mono (by decide)) rfl T.g__law_single T.F__law_single.kp T.b__law_single .nil passN (pa_cons (pv 1) (pa_cons (pv 3) (pa_cons (pv 4) pa_nil)))))
      (pss_cons (ps_for (passes_of rfl) rfl (pi_range1 rfl T.z_range (pa_cons (pe_ix ix_list (pe_lst (pa_cons (pe_call (ok__law_pick T) (hr.mono (by decide)) rfl T.g__law_pick T.F__law_pick.kp T.b__law_pick .nil passN (pa_cons (pv 1) (pa_cons pe_int pa_nil))) (pa_cons (pe_op op_add pe_int (pe_call (ok__law_pick T) (hr.mono (by decide)) rfl T.g__law_pick T.F__law_pick.kp T.b__law_pick .nil passN (pa_cons (pv 1) (pa_cons pe_int pa_nil)))) pa_nil))) (pe_call (ok__law_pick T) (hr.mono (by decide)) rfl T.g__law_pick T.F__law_pick.kp T.b__law_pick .nil passN (pa_cons (pv 1) (pa_cons pe_int pa_nil))) (fun _ _ => rfl)) pa_nil)) (pg_name (i := 6) sc_law.nd rfl (Or.inl rfl)) (pss_one (ps_set (i := 5) sc_law.nd rfl (Or.inl rfl) (pe_call (ok__law_wrapped T) (hr.mono (by decide)) rfl T.g__law_wrapped T.F__law_wrapped.kp T.b__law_wrapped .nil passN (pa_cons (pv 1) (pa_cons (pv 5) (pa_cons (pv 3) (pa_cons (pv 4) pa_nil))))))))
      (pss_cons (ps_set (i := 7) sc_law.nd rfl (Or.inl rfl) (pe_lst (pa_cons (pe_call (ok__law_bent_term T) (hr.mono (by decide)) rfl T.g__law_bent_term T.F__law_bent_term.kp T.b__law_bent_term .nil passN (pa_cons (pv 1) (pa_cons (pv 5) (pa_cons (pv 3) (pa_cons (pv 4) pa_nil))))) (pa_cons (pe_call (ok__law_bent_term T) (hr.mono (by decide)) rfl T.g__law_bent_term T.F__law_bent_term.kp T.b__law_bent_term .nil passN (pa_cons (pv 1) (pa_cons (pv 5) (pa_cons (pv 3) (pa_cons (pv 4) pa_nil))))) pa_nil))))
      (pss_cons (ps_set (i := 8) sc_law.nd rfl (Or.inl rfl) (pe_ix ix_list (pe_lst (pa_cons pe_str (pa_cons pe_str (pa_cons pe_str pa_nil)))) (pe_call (ok__law_pick T) (hr.mono (by decide)) rfl T.g__law_pick T.F__law_pick.kp T.b__law_pick .nil passN (pa_cons (pv 1) (pa_cons pe_int pa_nil))) (fun _ _ => rfl)))
      (pss_cons (ps_for (passes_of rfl) rfl (pi_list (pe_lst (pa_cons (pv 5) (pa_cons (pe_ix ix_list (pv 7) pe_int (fun _ _ => rfl)) (pa_cons (pe_ix ix_list (pv 7) pe_int (fun _ _ => rfl)) (pa_cons (pe_call (ok__law_bent_term T) (hr.mono (by decide)) rfl T.g__law_bent_term T.F__law_bent_term.kp T.b__law_bent_term .nil passN (pa_cons (pv 1) (pa_cons (pe_ix ix_list (pv 7) pe_int (fun _ _ => rfl)) (pa_cons (pv 3) (pa_cons (pv 4) pa_nil))))) (pa_cons (pe_tupN (pa_cons (pv 8) (pa_cons (pe_ix ix_list (pv 7) pe_int (fun _ _ => rfl)) (pa_cons (pe_ix ix_list (pv 7) pe_int (fun _ _ => rfl)) pa_nil)))) pa_nil))))))) (pg_name (i := 9) sc_law.nd rfl (Or.inl rfl)) (pss_one (ps_if (pt_not (pt_val (pe_call (ok__law_judged T) (hr.mono (by decide)) rfl T.g__law_judged T.F__law_judged.kp T.b__law_judged .nil passN (pa_cons (pv 9) (pa_cons (pv 3) (pa_cons (pv 4) pa_nil)))))) (pss_one (ps_ret pe_bl)) pss_nil)))
      (pss_cons (ps_for (passes_of rfl) rfl (pi_list (pe_call (ok__law_near T) (hr.mono (by decide)) rfl T.g__law_near T.F__law_near.kp T.b__law_near .nil passN (pa_cons (pv 1) (pa_cons (pv 3) (pa_cons (pv 4) pa_nil))))) (pg_name (i := 9) sc_law.nd rfl (Or.inl rfl)) (pss_one (ps_if (pt_not (pt_val (pe_call (ok__law_judged T) (hr.mono (by decide)) rfl T.g__law_judged T.F__law_judged.kp T.b__law_judged .nil passN (pa_cons (pv 9) (pa_cons (pv 3) (pa_cons (pv 4) pa_nil)))))) (pss_one (ps_ret pe_bl)) pss_nil)))
      (pss_cons (ps_set (i := 10) sc_law.nd rfl (Or.inl rfl) (pe_lst (pa_cons (pe_tupN (pa_cons pe_int (pa_cons (pv 4) pa_nil))) (pa_cons (pe_tupN (pa_cons (pe_un un_neg pe_int) (pa_cons (pv 4) pa_nil))) (pa_cons (pe_tupN (pa_cons pe_int (pa_cons (pv 4) pa_nil))) (pa_cons (pe_tupN (pa_cons pe_int (pa_cons (pv 4) pa_nil))) (pa_cons (pe_tupN (pa_cons (pv 3) (pa_cons pe_int pa_nil))) (pa_cons (pe_tupN (pa_cons (pv 3) (pa_cons (pe_un un_neg pe_int) pa_nil))) (pa_cons (pe_tupN (pa_cons (pv 3) (pa_cons pe_int pa_nil))) (pa_cons (pe_tupN (pa_cons (pv 3) (pa_cons pe_int pa_nil))) (pa_cons (pe_tupN (pa_cons pe_int (pa_cons pe_int pa_nil))) pa_nil)))))))))))
      (pss_cons (ps_for (passes_of rfl) rfl (pi_list (pv 10)) (pg_name (i := 11) sc_law.nd rfl (Or.inl rfl)) (pss_one (ps_for (passes_of rfl) rfl (pi_list (pe_lst (pa_cons (pe_tupN (pa_cons pe_str pa_nil)) (pa_cons (pe_ix ix_list (pv 7) pe_int (fun _ _ => rfl)) pa_nil)))) (pg_name (i := 9) sc_law.nd rfl (Or.inl rfl)) (pss_one (ps_if (pt_not (pt_val (pe_call (ok__law_same T) (hr.mono (by decide)) rfl T.g__law_same T.F__law_same.kp T.b__law_same .nil passN (pa_cons (pe_call (ok__law_made T) (hr.mono (by decide)) rfl T.g__law_made T.F__law_made.kp T.b__law_made .nil passN (pa_cons (pv 9) (pa_cons (pe_ix ix_tup (pv 11) pe_int (fun _ _ => rfl)) (pa_cons (pe_ix ix_tup (pv 11) pe_int (fun _ _ => rfl)) pa_nil)))) (pa_cons (pe_tupN (pa_cons pe_str (pa_cons pe_int (pa_cons (pe_tupN pa_nil) pa_nil)))) pa_nil))))) (pss_one (ps_ret pe_bl)) pss_nil)))))
      (pss_one (ps_ret (pe_call (ok__law_judged T) (hr.mono (by decide)) rfl T.g__law_judged T.F__law_judged.kp T.b__law_judged .nil passN (pa_cons (pv 5) (pa_cons (pv 3) (pa_cons (pv 4) pa_nil)))))))))))))))))),
      (sSeq (sAsg (sCall (sCons sVar sNil)) sName)
      (sSeq (sAsg (sCall (sCons sVar sNil)) sName)
      (sSeq (sAsg (sOp roIxT sVar sInt) sName)
      (sSeq (sAsg (sOp roIxT sVar sInt) sName)
      (sSeq (sAsg (sCall (sCons sVar (sCons sVar (sCons sVar sNil)))) sName)
      (sSeq (sFor (siR1 (sOp roIxL (sLst (sCons (sCall (sCons sVar (sCons sInt sNil))) (sCons (sOp roInt0 sInt (sCall (sCons sVar (sCons sInt sNil)))) sNil))) (sCall (sCons sVar (sCons sInt sNil))))) (fun _ _ _ => sName) (fun _ _ _ => (sAsg (sCall (sCons sVar (sCons sVar (sCons sVar (sCons sVar sNil))))) sName)))
      (sSeq (sAsg (sLst (sCons (sCall (sCons sVar (sCons sVar (sCons sVar (sCons sVar sNil))))) (sCons (sCall (sCons sVar (sCons sVar (sCons sVar (sCons sVar sNil))))) sNil))) sName)
      (sSeq (sAsg (sOp roIxL (sLst (sCons sStr (sCons sStr (sCons sStr sNil)))) (sCall (sCons sVar (sCons sInt sNil)))) sName)
      (sSeq (sFor (siL (sLst (sCons sVar (sCons (sOp roIxL sVar sInt) (sCons (sOp roIxL sVar sInt) (sCons (sCall (sCons sVar (sCons (sOp roIxL sVar sInt) (sCons sVar (sCons sVar sNil))))) (sCons (sTup (sCons sVar (sCons (sOp roIxL sVar sInt) (sCons (sOp roIxL sVar sInt) sNil)))) sNil))))))) (fun _ _ _ => sName) (fun _ _ _ => (sIfS (sNot (sB (sCall (sCons sVar (sCons sVar (sCons sVar sNil)))))) (sRet sBl) sNext)))
      (sSeq (sFor (siL (sCall (sCons sVar (sCons sVar (sCons sVar sNil))))) (fun _ _ _ => sName) (fun _ _ _ => (sIfS (sNot (sB (sCall (sCons sVar (sCons sVar (sCons sVar sNil)))))) (sRet sBl) sNext)))
      (sSeq (sAsg (sLst (sCons (sTup (sCons sInt (sCons sVar sNil))) (sCons (sTup (sCons (sUn ruInt sInt) (sCons sVar sNil))) (sCons (sTup (sCons sInt (sCons sVar sNil))) (sCons (sTup (sCons sInt (sCons sVar sNil))) (sCons (sTup (sCons sVar (sCons sInt sNil))) (sCons (sTup (sCons sVar (sCons (sUn ruInt sInt) sNil))) (sCons (sTup (sCons sVar (sCons sInt sNil))) (sCons (sTup (sCons sVar (sCons sInt sNil))) (sCons (sTup (sCons sInt (sCons sInt sNil))) sNil)))))))))) sName)
      (sSeq (sFor (siL sVar) (fun _ _ _ => sName) (fun _ _ _ => (sFor (siL (sLst (sCons (sTup (sCons sStr sNil)) (sCons (sOp roIxL sVar sInt) sNil)))) (fun _ _ _ => sName) (fun _ _ _ => (sIfS (sNot (sB (sCall (sCons (sCall (sCons sVar (sCons (sOp roIxT sVar sInt) (sCons (sOp roIxT sVar sInt) sNil)))) (sCons (sTup (sCons sStr (sCons sInt (sCons (sTup sNil) sNil)))) sNil))))) (sRet sBl) sNext)))))
      (sRet (sCall (sCons sVar (sCons sVar (sCons sVar sNil)))))))))))))))))⟩) (fun ds μ Φ Ψ h => ?hv)
  case hv =>
    obtain ⟨ns, rfl, hlen, h⟩ := h
    refine seq_cut fun M hM => ?_
    walk_at "wp"
    refine ⟨ns, rfl, hlen, fun p c hp sc => ?_⟩
    have fin : ∀ c' : List D, ∃ μ2, DW.Sub μ2 (sset μ p (.lst c')) ∧ Φ (.bl true) μ2 := fun c' => ⟨μ, Sub.set Sub.refl hp, h⟩
    rw [hM]; clear hM M
    refine seq_cut fun M hM => ?_
    walk_at "wp"
    refine ⟨p, ns, c, rfl, sset_same, sc, fun n k c1 hs sc => ?_⟩
    rw [sset_sset]
    have k1 := hs.k1
    have k4 := hs.k4
    have n1 := hs.n1
    have n64 := hs.n64
    rw [hM]; clear hM M
    refine seq_cut fun M hM => ?_
    walk_at "wp"
    rw [hM]; clear hM M
    refine seq_cut fun M hM => ?_
    walk_at "wp"
    rw [hM]; clear hM M
    refine seq_cut fun M hM => ?_
    walk_at "wp"
    refine ⟨p, ns, c1, n, k, rfl, sset_same, sc, hs, fun t c2 ht _ sc => ?_⟩
    rw [sset_sset]
    rw [hM]; clear hM M
    refine seq_cut fun M hM => ?_
    walk_at "wp"
    refine ⟨p, ns, c2, 3, rfl, sset_same, sc, by decide, by decide, fun u c3 u0 u1 sc => ?_⟩
    rw [sset_sset]
    refine ⟨p, ns, c3, 4, rfl, sset_same, sc, by decide, by decide, fun v c4 v0 v1 sc => ?_⟩
    rw [sset_sset]
    walk_at "wp"
    refine ⟨by decide, p, ns, c4, 2, rfl, sset_same, sc, by decide, by decide, fun x c5 x0 x1 sc => ?_⟩
    rw [sset_sset]
    obtain ⟨m, hm, hm7⟩ : ∃ m : Nat, atI [D.int u, D.int (4 + v)] x = some (.int m) ∧ m ≤ 7 := by
      rcases (show x = 0 ∨ x = 1 by omega) with rfl | rfl
      · exact ⟨u.toNat, by rw [Int.toNat_of_nonneg u0]; rfl, by omega⟩
      · exact ⟨(4 + v).toNat, by rw [Int.toNat_of_nonneg (show 0 ≤ 4 + v by omega)]; rfl, by omega⟩
    walk_at "wp"
    refine ⟨_, hm, _, rfl, by omega, by omega, ?_⟩
    rw [Int.toNat_natCast]
    refine ⟨fun i δ' μ' => ∃ (t : D) (c' : List D) (x6 : Option D), δ' = [some (.scr ns), some (.hd (.ref p)), some (.tup [.int n, .int k]), some (.int n), some (.int k), some t, x6, none, none, none, none, none] ∧ μ' = sset μ p (.lst c') ∧ StC ns c' ∧ trm 256 (4 + i) t ∧ i ≤ m, ⟨t, c5, none, rfl, rfl, sc, trm_mono (Nat.le_refl _) (by omega) ht, by omega⟩, ?_, ?_⟩
    · rintro i d δ' μ' hi ⟨t, c', x6, rfl, rfl, sc, ht, him⟩
      obtain ⟨hj, rfl⟩ := rngD_get hi
      walk_at "wp"
      refine ⟨p, ns, c', n, k, 4 + i, t, rfl, sset_same, sc, hs, ht, by omega, fun d c6 hd sc6 => ?_⟩
      rw [sset_sset]
      exact ⟨d, c6, _, rfl, rfl, sc6, hd, by omega⟩
    rintro δ' μ' ⟨t, c6, x6, rfl, rfl, sc, ht, him⟩
    have ht : trm 256 11 t := trm_mono (Nat.le_refl _) (by omega) ht
    rw [hM]; clear hM M
    refine seq_cut fun M hM => ?_
    walk_at "wp"
    refine ⟨p, ns, c6, n, k, 256, 11, t, rfl, sset_same, sc, ht, by decide, fun b0 c7 hb0 sc => ?_⟩
    rw [sset_sset]
    refine ⟨p, ns, c7, n, k, 256, 11, t, rfl, sset_same, sc, ht, by decide, fun b1 c8 hb1 sc => ?_⟩
    rw [sset_sset]
    refine ⟨by decide, ?_⟩
    rw [hM]; clear hM M
    refine seq_cut fun M hM => ?_
    walk_at "wp"
    refine ⟨by decide, p, ns, c8, 3, rfl, sset_same, sc, by decide, by decide, fun r c9 r0 r1 sc => ?_⟩
    rw [sset_sset]
    have hr : r.toNat < W3.length := by show r.toNat < 3; omega
    refine ⟨W3.map .str, r, .str W3[r.toNat], .lst _, rfl, rfl, atI_map r0 hr, ?_⟩
    generalize W3[r.toNat] = w'
    clear hr r0 r1
    rw [hM]; clear hM M
    refine seq_cut fun M hM => ?_
    walk_at "wp"
    refine ⟨p, ns, c9, n, k, 514, 12, b0, rfl, sset_same, sc, hb0, by decide, fun b2 c10 hb2 sc => ?_⟩
    rw [sset_sset]
    have hb0 : trm 2000 13 b0 := trm_mono (by decide) (by decide) hb0
    have hb1 : trm 2000 13 b1 := trm_mono (by decide) (by decide) hb1
    have hb2 : trm 2000 13 b2 := trm_mono (by decide) (by decide) hb2
    have ht : trm 2000 13 t := trm_mono (by decide) (by decide) ht
    have big : ∀ d ∈ [t, b0, b1, b2, D.tup [.str w', b0, b1]], trm 2000 14 d := fun d hd => by
      simp only [List.mem_cons, List.not_mem_nil, or_false] at hd
      rcases hd with rfl | rfl | rfl | rfl | rfl
      · exact trm_mono (Nat.le_refl _) (by decide) ht
      · exact trm_mono (Nat.le_refl _) (by decide) hb0
      · exact trm_mono (Nat.le_refl _) (by decide) hb1
      · exact trm_mono (Nat.le_refl _) (by decide) hb2
      · exact trm_3 (by decide) trm_str hb0 hb1
    refine ⟨by decide, by decide, fun i δ' μ' => μ' = sset μ p (.lst c10) ∧ ∃ x9 : Option D, δ' = [some (.scr ns), some (.hd (.ref p)), some (.tup [.int n, .int k]), some (.int n), some (.int k), some t, x6, some (.lst [b0, b1]), some (.str w'), x9, none, none], ⟨rfl, _, rfl⟩, ?_, ?_⟩
    · rintro i d δ' μ' hi ⟨rfl, x9, rfl⟩
      have hd := big d (List.mem_of_getElem? hi)
      walk_at "wp"
      refine ⟨2000, 14, n, k, d, rfl, hs, hd, by decide, by decide, ?_⟩
      walk_at "wp"
      exact ⟨_, rfl⟩
    rintro δ' μ' ⟨rfl, x9, rfl⟩
    rw [hM]; clear hM M
    refine seq_cut fun M hM => ?_
    walk_at "wp"
    refine ⟨p, ns, c10, n, k, rfl, sset_same, sc, hs, fun l c11 hl sc => ?_⟩
    rw [sset_sset]
    refine ⟨_, rfl, fun i δ' μ' => μ' = sset μ p (.lst c11) ∧ ∃ x9 : Option D, δ' = [some (.scr ns), some (.hd (.ref p)), some (.tup [.int n, .int k]), some (.int n), some (.int k), some t, x6, some (.lst [b0, b1]), some (.str w'), x9, none, none], ⟨rfl, _, rfl⟩, ?_, ?_⟩
    · rintro i d δ' μ' hi ⟨rfl, x9, rfl⟩
      have hd := hl d (List.mem_of_getElem? hi)
      walk_at "wp"
      refine ⟨1000, 4, n, k, d, rfl, hs, hd, by decide, by decide, ?_⟩
      walk_at "wp"
      exact ⟨_, rfl⟩
    rintro δ' μ' ⟨rfl, x9, rfl⟩
    rw [hM]; clear hM M
    refine seq_cut fun M hM => ?_
    simp only [u_asg, u_op, u_lst, u_cons, u_nil, u_tup, u_c]
    walk_at "wp"
    obtain ⟨ws, hws⟩ : ∃ ws : List (Int × Int), ws = [(0, (k : Int)), (-1, (k : Int)), (65, (k : Int)), (66, (k : Int)), ((n : Int), 0), ((n : Int), -1), ((n : Int), 5), ((n : Int), 6), (0, 5)] := ⟨_, rfl⟩
    have hbad : ∀ q ∈ ws, ¬ szB q.1 q.2 := by
      rw [hws]
      intro q hq
      simp only [List.mem_cons, List.not_mem_nil, or_false] at hq
      rcases hq with rfl | rfl | rfl | rfl | rfl | rfl | rfl | rfl | rfl <;> (rintro ⟨a, b, c, d⟩; simp only at a b c d; omega)
    have ews : ([D.tup [D.int 0, D.int k], D.tup [D.int (-1), D.int k], D.tup [D.int 65, D.int k], D.tup [D.int 66, D.int k], D.tup [D.int n, D.int 0], D.tup [D.int n, D.int (-1)], D.tup [D.int n, D.int 5], D.tup [D.int n, D.int 6], D.tup [D.int 0, D.int 5]] : List D) = ws.map fun q : Int × Int => D.tup [.int q.1, .int q.2] := by rw [hws]; rfl
    rw [ews]
    clear ews hws
    refine ⟨by decide, by decide, by decide, by decide, by decide, by decide, by decide, by decide, by decide, by decide, ?_⟩
    rw [hM]; clear hM M
    refine seq_cut fun M hM => ?_
    have tany : trm 2000 13 (.tup [.str "any"]) := trm_1 (by decide) trm_str
    walk_at "wp"
    refine ⟨fun i δ' μ' => μ' = sset μ p (.lst c11) ∧ ∃ x9 x11 : Option D, δ' = [some (.scr ns), some (.hd (.ref p)), some (.tup [.int n, .int k]), some (.int n), some (.int k), some t, x6, some (.lst [b0, b1]), some (.str w'), x9, some (.lst (ws.map fun q : Int × Int => D.tup [.int q.1, .int q.2])), x11], ⟨rfl, _, _, rfl⟩, ?_, ?_⟩
    · rintro i d δ' μ' hi ⟨rfl, x9, x11, rfl⟩
      rw [List.getElem?_map, Option.map_eq_some_iff] at hi
      obtain ⟨q, hq, rfl⟩ := hi
      have hb := hbad q (List.mem_of_getElem? hq)
      walk_at "wp"
      refine ⟨by decide, by decide, fun i δ'' μ'' => μ'' = sset μ p (.lst c11) ∧ ∃ x9 : Option D, δ'' = [some (.scr ns), some (.hd (.ref p)), some (.tup [.int n, .int k]), some (.int n), some (.int k), some t, x6, some (.lst [b0, b1]), some (.str w'), x9, some (.lst (ws.map fun q : Int × Int => D.tup [.int q.1, .int q.2])), some (.tup [.int q.1, .int q.2])], ⟨rfl, _, rfl⟩, ?_, ?_⟩
      · rintro i d δ'' μ'' hi ⟨rfl, x9, rfl⟩
        have hd : trm 2000 13 d := by
          have := List.mem_of_getElem? hi
          simp only [List.mem_cons, List.not_mem_nil, or_false] at this
          rcases this with rfl | rfl
          · exact tany
          · exact hb1
        walk_at "wp"
        refine ⟨2000, 13, q.1, q.2, d, rfl, hd, by decide, fun _ => ⟨by decide, by decide, ?_⟩, fun hs => absurd hs hb, fun hs => absurd hs hb⟩
        refine same_trm (L := 2000) (trm_ref (L := 2000) (c := 2) (p := []) (by decide) (by decide)) (by decide) (by decide) ?_
        exact ⟨true, rfl, nofun, fun _ => ⟨rfl, _, rfl⟩⟩
      · rintro δ'' μ'' ⟨rfl, x9, rfl⟩
        exact ⟨rfl, _, _, rfl⟩
    rintro δ' μ' ⟨rfl, x9, x11, rfl⟩
    rw [hM]; clear hM M
    walk_at "wps"
    refine ⟨2000, 13, n, k, t, rfl, hs, ht, by decide, by decide, ?_⟩
    exact fin c11
end
end LW
set_option Elab.async false
set_option linter.all false
set_option maxRecDepth 100000
set_option maxHeartbeats 4000000
namespace LW
open PySem PySem.Spec L2 DW PyProof.Rows NdefX
theorem kit_refS {K : PySem.W.Frag} {R C : Addr} {b : Bool} (h0 : PySem.W.subIn K (.ref R) (.ref R) = some true) (h1 : PySem.W.isClsIn K C = true) (h2 : PySem.W.typeIn K (.ref C) = some (.type "type")) (h3 : PySem.W.subIn K (.ref R) (.ref C) = some b) : PySem.W.kitOne K (.ref R) (.ref C) = some b := by
  unfold PySem.W.kitOne
  by_cases e : R = C
  · subst e
    rw [h0] at h3
    rw [if_pos (by simp)]
    exact h3
  · rw [if_neg (by simp [e])]
    have h1' : (PySem.W.clsIn K C).isSome = true := h1
    show (if ((PySem.W.clsIn K C).isSome && PySem.W.typeIn K (.ref C) == some (.type "type")) = true then PySem.W.subIn K (.ref R) (.ref C) else none) = some b
    rw [if_pos (by rw [h1', h2] <;> rfl)]
    exact h3
theorem kit_tyS {K : PySem.W.Frag} {R : Addr} {T : String} {b : Bool} (h1 : PySem.W.kitMeta T = true) (h3 : PySem.W.subIn K (.ref R) (.type T) = some b) : PySem.W.kitOne K (.ref R) (.type T) = some b := by
  unfold PySem.W.kitOne
  rw [if_neg (by simp)]
  show (if PySem.W.kitMeta T = true then PySem.W.subIn K (.ref R) (.type T) else none) = some b
  rw [if_pos h1]
  exact h3
abbrev si_InvalidTerm : Stmt := (C8.clsBody (topS 4)).getD 0 (.Pass ⟨0, 0, 0, 0⟩)
theorem sci_InvalidTerm : NScope ["self", "path", "__class__"] ["self", "path"] ["__class__"] (defScope si_InvalidTerm) := nscope_by (by decide +kernel)
theorem okinit_InvalidTerm {CX : CXT} {P : Program} {w : World} {K : Fg} {mg : Str → Option Value} {base : Heap} {f C D cc cda : Addr} {file : Str} {kV doc pm ct oc : Value} {an od : Option Addr} {osl : Array (Option Value)}
    (lk : K.lookup f = some ⟨oc, od, .func (PySem.W.ksFn "__init__" "InvalidTerm.__init__" (defArgs si_InvalidTerm) (defBody si_InvalidTerm) (defScope si_InvalidTerm) .none kV doc pm an (.ref cda) ct cc), osl⟩)
    (hcd : PySem.W.codeIn K (.ref cda) "InvalidTerm.__init__" = true) (T : SupC K C D cc f cda file) (hfile : ((P.main.file : Str) == file) = true) (htop : (P.main.scope.names.lookup ("super" : Str)).isSome = false) (hms : mg "super" = none) :
    FnOk P w K mg base CX 1 f (PySem.W.ksFn "__init__" "InvalidTerm.__init__" (defArgs si_InvalidTerm) (defBody si_InvalidTerm) (defScope si_InvalidTerm) .none kV doc pm an (.ref cda) ct cc) ["self", "path"] (spInit K C "path" (okPath K)) :=
  sup_fn (k := 0) lk hcd sci_InvalidTerm T rfl rfl hfile htop hms rfl (by decide) fun X hP hw hK hN hsc hL hr => by
    obtain ⟨L, hL⟩ := hL
    have v0 : ∀ p, PE X (.Name "self" p) (tVar 0) := fun p => pv 0 (hN := by rw [hN]; rfl) (hv := .inl (by rw [hsc]; rfl))
    have v1 : ∀ p, PE X (.Name "path" p) (tVar 1) := fun p => pv 1 (hN := by rw [hN]; rfl) (hv := .inl (by rw [hsc]; rfl))
    subst hK
    exact ⟨msg_path hr (by decide) (by decide) (v1 _), by rw [hL]; rfl, by rw [hL]; rfl, by rw [hL]; rfl, by rw [hL]; rfl, ⟨_, by rw [hL]; rfl⟩, by rw [hL]; rfl, v0 _, v1 _⟩
open PyProof.Rows in
theorem all_mk {P : Program} {w : World} {K : PySem.W.Frag} {h : Heap} {mg : Str → Option Value} {fa f0 f1 f2 f3 f4 f5 f6 f7 f8 f9 f10 f11 f12 f13 f14 f15 f16 f17 f18 f19 f20 f21 f22 f23 f24 f25 f26 f27 f28 f29 f30 f31 f32 f33 f34 f35 f36 c_OutOfRange c_InvalidAim c_InvalidGame c_InvalidQuery c_InvalidContext c_SizeMismatch c_TooLarge c_InvalidTerm c_ChoosersError c_Aim c_SHAPES : Addr} (X : K.In h) (G : h.Ns mainGlobals mg) (hfa : mg "law" = some (.ref fa))
    {od0 an0 od1 an1 od2 an2 od3 an3 od4 an4 od5 an5 od6 an6 od7 an7 od8 an8 od9 an9 od10 an10 od11 an11 od12 an12 od13 an13 od14 an14 od15 an15 od16 an16 od17 an17 od18 an18 od19 an19 od20 an20 od21 an21 od22 an22 od23 an23 od24 an24 od25 an25 od26 an26 od27 an27 od28 an28 od29 an29 od30 an30 od31 an31 od32 an32 od33 an33 od34 an34 od35 an35 od36 an36 : Option Addr} {sl0 sl1 sl2 sl3 sl4 sl5 sl6 sl7 sl8 sl9 sl10 sl11 sl12 sl13 sl14 sl15 sl16 sl17 sl18 sl19 sl20 sl21 sl22 sl23 sl24 sl25 sl26 sl27 sl28 sl29 sl30 sl31 sl32 sl33 sl34 sl35 sl36 : Array (Option Value)} {oc0 kV0 dc0 pm0 cd0 ct0 oc1 kV1 dc1 pm1 cd1 ct1 oc2 kV2 dc2 pm2 cd2 ct2 oc3 kV3 dc3 pm3 cd3 ct3 oc4 kV4 dc4 pm4 cd4 ct4 oc5 kV5 dc5 pm5 cd5 ct5 oc6 kV6 dc6 pm6 cd6 ct6 oc7 kV7 dc7 pm7 cd7 ct7 oc8 kV8 dc8 pm8 cd8 ct8 oc9 kV9 dc9 pm9 cd9 ct9 oc10 kV10 dc10 pm10 cd10 ct10 oc11 kV11 dc11 pm11 cd11 ct11 oc12 kV12 dc12 pm12 cd12 ct12 oc13 kV13 dc13 pm13 cd13 ct13 oc14 kV14 dc14 pm14 cd14 ct14 oc15 kV15 dc15 pm15 cd15 ct15 oc16 kV16 dc16 pm16 cd16 ct16 oc17 kV17 dc17 pm17 cd17 ct17 oc18 kV18 dc18 pm18 cd18 ct18 oc19 kV19 dc19 pm19 cd19 ct19 oc20 kV20 dc20 pm20 cd20 ct20 oc21 kV21 dc21 pm21 cd21 ct21 oc22 kV22 dc22 pm22 cd22 ct22 oc23 kV23 dc23 pm23 cd23 ct23 oc24 kV24 dc24 pm24 cd24 ct24 oc25 kV25 dc25 pm25 cd25 ct25 oc26 kV26 dc26 pm26 cd26 ct26 oc27 kV27 dc27 pm27 cd27 ct27 oc28 kV28 dc28 pm28 cd28 ct28 oc29 kV29 dc29 pm29 cd29 ct29 oc30 kV30 dc30 pm30 cd30 ct30 oc31 kV31 dc31 pm31 cd31 ct31 oc32 kV32 dc32 pm32 cd32 ct32 oc33 kV33 dc33 pm33 cd33 ct33 oc34 kV34 dc34 pm34 cd34 ct34 oc35 kV35 dc35 pm35 cd35 ct35 oc36 kV36 dc36 pm36 cd36 ct36 : Value} {tk_LETTERS : Tok} {tk_DIGITS : Tok} {tk_LONGEST_WORD : Tok} {tk_LONGEST_NUMBER : Tok} {tk_NUMBERS_END : Tok} {tk_DEEPEST_TUPLE : Tok} {tk_MOST_OPTIONS : Tok} {tk_MOST_OUTCOMES : Tok} {tk_MOST_SMALL_OPTIONS : Tok} {tk_MOST_SMALL_CONTEXTS : Tok} {tk_DEEPEST_AIM : Tok} {tk_RANKS_END : Tok} {fi_InvalidAim cda_InvalidAim cc_InvalidAim ns_InvalidAim : Addr} {oci_InvalidAim kVi_InvalidAim dci_InvalidAim pmi_InvalidAim cti_InvalidAim clc_InvalidAim ccl_InvalidAim : Value} {odi_InvalidAim ani_InvalidAim cld_InvalidAim cdd_InvalidAim dd_InvalidAim : Option Addr} {sli_InvalidAim csl_InvalidAim ccs_InvalidAim : Array (Option Value)} {vs_InvalidAim : Array Value} {fl_InvalidAim nm_InvalidAim qn_InvalidAim : Str} {tf_InvalidAim : Tok} {bs_InvalidAim bm_InvalidAim sb2_InvalidAim : List Value} {sn_InvalidAim : List Str} {ab_InvalidAim : Bool} {col_InvalidAim : Option Bool} {k0_InvalidAim k1_InvalidAim k2_InvalidAim k3_InvalidAim k5_InvalidAim : Option Value} {es_SHAPES : Array DictEntry} {n_SHAPES : Nat} {t_SHAPES_0 : Addr} {its_SHAPES_0 : Array Value} {nn_SHAPES_0 : Nat} {sl_SHAPES_0 : Array (Option Value)} {t_SHAPES_1 : Addr} {its_SHAPES_1 : Array Value} {nn_SHAPES_1 : Nat} {sl_SHAPES_1 : Array (Option Value)} {t_SHAPES_2 : Addr} {its_SHAPES_2 : Array Value} {nn_SHAPES_2 : Nat} {sl_SHAPES_2 : Array (Option Value)} {t_SHAPES_3 : Addr} {its_SHAPES_3 : Array Value} {nn_SHAPES_3 : Nat} {sl_SHAPES_3 : Array (Option Value)} {t_SHAPES_4 : Addr} {its_SHAPES_4 : Array Value} {nn_SHAPES_4 : Nat} {sl_SHAPES_4 : Array (Option Value)} {t_SHAPES_5 : Addr} {its_SHAPES_5 : Array Value} {nn_SHAPES_5 : Nat} {sl_SHAPES_5 : Array (Option Value)} {t_SHAPES_6 : Addr} {its_SHAPES_6 : Array Value} {nn_SHAPES_6 : Nat} {sl_SHAPES_6 : Array (Option Value)} {t_SHAPES_7 : Addr} {its_SHAPES_7 : Array Value} {nn_SHAPES_7 : Nat} {sl_SHAPES_7 : Array (Option Value)} {t_SHAPES_8 : Addr} {its_SHAPES_8 : Array Value} {nn_SHAPES_8 : Nat} {sl_SHAPES_8 : Array (Option Value)} {t_SHAPES_9 : Addr} {its_SHAPES_9 : Array Value} {nn_SHAPES_9 : Nat} {sl_SHAPES_9 : Array (Option Value)} {t_SHAPES_10 : Addr} {its_SHAPES_10 : Array Value} {nn_SHAPES_10 : Nat} {sl_SHAPES_10 : Array (Option Value)} {t_SHAPES_11 : Addr} {its_SHAPES_11 : Array Value} {nn_SHAPES_11 : Nat} {sl_SHAPES_11 : Array (Option Value)} {t_SHAPES_12 : Addr} {its_SHAPES_12 : Array Value} {nn_SHAPES_12 : Nat} {sl_SHAPES_12 : Array (Option Value)} {t_SHAPES_13 : Addr} {its_SHAPES_13 : Array Value} {nn_SHAPES_13 : Nat} {sl_SHAPES_13 : Array (Option Value)} {t_SHAPES_14 : Addr} {its_SHAPES_14 : Array Value} {nn_SHAPES_14 : Nat} {sl_SHAPES_14 : Array (Option Value)} {t_SHAPES_15 : Addr} {its_SHAPES_15 : Array Value} {nn_SHAPES_15 : Nat} {sl_SHAPES_15 : Array (Option Value)} {t_SHAPES_16 : Addr} {its_SHAPES_16 : Array Value} {nn_SHAPES_16 : Nat} {sl_SHAPES_16 : Array (Option Value)} {t_SHAPES_17 : Addr} {its_SHAPES_17 : Array Value} {nn_SHAPES_17 : Nat} {sl_SHAPES_17 : Array (Option Value)}
    (g_Aim : PySem.W.nsIn K mainGlobals "Aim" = some (some (.ref c_Aim)))
    (a0 : PySem.W.nsIn K mainGlobals "is_number" = some (some (.ref f0)))
    (l0 : K.lookup f0 = some ⟨oc0, od0, .func (PySem.W.fnOf "is_number" "is_number" (defArgs s_is_number) (defBody s_is_number) (defScope s_is_number) .none kV0 dc0 pm0 an0 cd0 ct0), sl0⟩)
    (c0 : PySem.W.codeIn K cd0 "is_number" = true)
    (k0 : PySem.W.keepIn K (.ref f0) = true)
    (a1 : PySem.W.nsIn K mainGlobals "is_below" = some (some (.ref f1)))
    (l1 : K.lookup f1 = some ⟨oc1, od1, .func (PySem.W.fnOf "is_below" "is_below" (defArgs s_is_below) (defBody s_is_below) (defScope s_is_below) .none kV1 dc1 pm1 an1 cd1 ct1), sl1⟩)
    (c1 : PySem.W.codeIn K cd1 "is_below" = true)
    (k1 : PySem.W.keepIn K (.ref f1) = true)
    (a2 : PySem.W.nsIn K mainGlobals "count_choices" = some (some (.ref f2)))
    (l2 : K.lookup f2 = some ⟨oc2, od2, .func (PySem.W.fnOf "count_choices" "count_choices" (defArgs s_count_choices) (defBody s_count_choices) (defScope s_count_choices) .none kV2 dc2 pm2 an2 cd2 ct2), sl2⟩)
    (c2 : PySem.W.codeIn K cd2 "count_choices" = true)
    (k2 : PySem.W.keepIn K (.ref f2) = true)
    (a3 : PySem.W.nsIn K mainGlobals "has_outcomes" = some (some (.ref f3)))
    (l3 : K.lookup f3 = some ⟨oc3, od3, .func (PySem.W.fnOf "has_outcomes" "has_outcomes" (defArgs s_has_outcomes) (defBody s_has_outcomes) (defScope s_has_outcomes) .none kV3 dc3 pm3 an3 cd3 ct3), sl3⟩)
    (c3 : PySem.W.codeIn K cd3 "has_outcomes" = true)
    (k3 : PySem.W.keepIn K (.ref f3) = true)
    (a4 : PySem.W.nsIn K mainGlobals "is_size" = some (some (.ref f4)))
    (l4 : K.lookup f4 = some ⟨oc4, od4, .func (PySem.W.fnOf "is_size" "is_size" (defArgs s_is_size) (defBody s_is_size) (defScope s_is_size) .none kV4 dc4 pm4 an4 cd4 ct4), sl4⟩)
    (c4 : PySem.W.codeIn K cd4 "is_size" = true)
    (k4 : PySem.W.keepIn K (.ref f4) = true)
    (a5 : PySem.W.nsIn K mainGlobals "is_small" = some (some (.ref f5)))
    (l5 : K.lookup f5 = some ⟨oc5, od5, .func (PySem.W.fnOf "is_small" "is_small" (defArgs s_is_small) (defBody s_is_small) (defScope s_is_small) .none kV5 dc5 pm5 an5 cd5 ct5), sl5⟩)
    (c5 : PySem.W.codeIn K cd5 "is_small" = true)
    (k5 : PySem.W.keepIn K (.ref f5) = true)
    (a6 : PySem.W.nsIn K mainGlobals "count_contexts" = some (some (.ref f6)))
    (l6 : K.lookup f6 = some ⟨oc6, od6, .func (PySem.W.fnOf "count_contexts" "count_contexts" (defArgs s_count_contexts) (defBody s_count_contexts) (defScope s_count_contexts) .none kV6 dc6 pm6 an6 cd6 ct6), sl6⟩)
    (c6 : PySem.W.codeIn K cd6 "count_contexts" = true)
    (k6 : PySem.W.keepIn K (.ref f6) = true)
    (a7 : PySem.W.nsIn K mainGlobals "has_shape" = some (some (.ref f7)))
    (l7 : K.lookup f7 = some ⟨oc7, od7, .func (PySem.W.fnOf "has_shape" "has_shape" (defArgs s_has_shape) (defBody s_has_shape) (defScope s_has_shape) .none kV7 dc7 pm7 an7 cd7 ct7), sl7⟩)
    (c7 : PySem.W.codeIn K cd7 "has_shape" = true)
    (k7 : PySem.W.keepIn K (.ref f7) = true)
    (a8 : PySem.W.nsIn K mainGlobals "wrong_numbers" = some (some (.ref f8)))
    (l8 : K.lookup f8 = some ⟨oc8, od8, .func (PySem.W.fnOf "wrong_numbers" "wrong_numbers" (defArgs s_wrong_numbers) (defBody s_wrong_numbers) (defScope s_wrong_numbers) .none kV8 dc8 pm8 an8 cd8 ct8), sl8⟩)
    (c8 : PySem.W.codeIn K cd8 "wrong_numbers" = true)
    (k8 : PySem.W.keepIn K (.ref f8) = true)
    (a9 : PySem.W.nsIn K mainGlobals "wrong_places" = some (some (.ref f9)))
    (l9 : K.lookup f9 = some ⟨oc9, od9, .func (PySem.W.fnOf "wrong_places" "wrong_places" (defArgs s_wrong_places) (defBody s_wrong_places) (defScope s_wrong_places) .none kV9 dc9 pm9 an9 cd9 ct9), sl9⟩)
    (c9 : PySem.W.codeIn K cd9 "wrong_places" = true)
    (k9 : PySem.W.keepIn K (.ref f9) = true)
    (a10 : PySem.W.nsIn K mainGlobals "wrong_ascending" = some (some (.ref f10)))
    (l10 : K.lookup f10 = some ⟨oc10, od10, .func (PySem.W.fnOf "wrong_ascending" "wrong_ascending" (defArgs s_wrong_ascending) (defBody s_wrong_ascending) (defScope s_wrong_ascending) .none kV10 dc10 pm10 an10 cd10 ct10), sl10⟩)
    (c10 : PySem.W.codeIn K cd10 "wrong_ascending" = true)
    (k10 : PySem.W.keepIn K (.ref f10) = true)
    (a11 : PySem.W.nsIn K mainGlobals "wrong_rows" = some (some (.ref f11)))
    (l11 : K.lookup f11 = some ⟨oc11, od11, .func (PySem.W.fnOf "wrong_rows" "wrong_rows" (defArgs s_wrong_rows) (defBody s_wrong_rows) (defScope s_wrong_rows) .none kV11 dc11 pm11 an11 cd11 ct11), sl11⟩)
    (c11 : PySem.W.codeIn K cd11 "wrong_rows" = true)
    (k11 : PySem.W.keepIn K (.ref f11) = true)
    (a12 : PySem.W.nsIn K mainGlobals "wrong_item" = some (some (.ref f12)))
    (l12 : K.lookup f12 = some ⟨oc12, od12, .func (PySem.W.fnOf "wrong_item" "wrong_item" (defArgs s_wrong_item) (defBody s_wrong_item) (defScope s_wrong_item) .none kV12 dc12 pm12 an12 cd12 ct12), sl12⟩)
    (c12 : PySem.W.codeIn K cd12 "wrong_item" = true)
    (k12 : PySem.W.keepIn K (.ref f12) = true)
    (a13 : PySem.W.nsIn K mainGlobals "wrong_aim" = some (some (.ref f13)))
    (l13 : K.lookup f13 = some ⟨oc13, od13, .func (PySem.W.fnOf "wrong_aim" "wrong_aim" (defArgs s_wrong_aim) (defBody s_wrong_aim) (defScope s_wrong_aim) .none kV13 dc13 pm13 an13 cd13 ct13), sl13⟩)
    (c13 : PySem.W.codeIn K cd13 "wrong_aim" = true)
    (k13 : PySem.W.keepIn K (.ref f13) = true)
    (a14 : PySem.W.findIn K (.ref c_Aim) "__init__" = some (some (.ref f14)))
    (i14 : PySem.W.isFn K (.ref f14) = true)
    (l14 : K.lookup f14 = some ⟨oc14, od14, .func (PySem.W.fnOf "__init__" "Aim.__init__" (defArgs s_Aim___init__) (defBody s_Aim___init__) (defScope s_Aim___init__) .none kV14 dc14 pm14 an14 cd14 ct14), sl14⟩)
    (c14 : PySem.W.codeIn K cd14 "Aim.__init__" = true)
    (k14 : PySem.W.keepIn K (.ref f14) = true)
    (a15 : PySem.W.nsIn K mainGlobals "_law_start" = some (some (.ref f15)))
    (l15 : K.lookup f15 = some ⟨oc15, od15, .func (PySem.W.fnOf "_law_start" "_law_start" (defArgs s__law_start) (defBody s__law_start) (defScope s__law_start) .none kV15 dc15 pm15 an15 cd15 ct15), sl15⟩)
    (c15 : PySem.W.codeIn K cd15 "_law_start" = true)
    (k15 : PySem.W.keepIn K (.ref f15) = true)
    (a16 : PySem.W.nsIn K mainGlobals "_law_pick" = some (some (.ref f16)))
    (l16 : K.lookup f16 = some ⟨oc16, od16, .func (PySem.W.fnOf "_law_pick" "_law_pick" (defArgs s__law_pick) (defBody s__law_pick) (defScope s__law_pick) .none kV16 dc16 pm16 an16 cd16 ct16), sl16⟩)
    (c16 : PySem.W.codeIn K cd16 "_law_pick" = true)
    (k16 : PySem.W.keepIn K (.ref f16) = true)
    (a17 : PySem.W.nsIn K mainGlobals "_law_same" = some (some (.ref f17)))
    (l17 : K.lookup f17 = some ⟨oc17, od17, .func (PySem.W.fnOf "_law_same" "_law_same" (defArgs s__law_same) (defBody s__law_same) (defScope s__law_same) .none kV17 dc17 pm17 an17 cd17 ct17), sl17⟩)
    (c17 : PySem.W.codeIn K cd17 "_law_same" = true)
    (k17 : PySem.W.keepIn K (.ref f17) = true)
    (a18 : PySem.W.nsIn K mainGlobals "_law_contexts" = some (some (.ref f18)))
    (l18 : K.lookup f18 = some ⟨oc18, od18, .func (PySem.W.fnOf "_law_contexts" "_law_contexts" (defArgs s__law_contexts) (defBody s__law_contexts) (defScope s__law_contexts) .none kV18 dc18 pm18 an18 cd18 ct18), sl18⟩)
    (c18 : PySem.W.codeIn K cd18 "_law_contexts" = true)
    (k18 : PySem.W.keepIn K (.ref f18) = true)
    (a19 : PySem.W.nsIn K mainGlobals "_law_some" = some (some (.ref f19)))
    (l19 : K.lookup f19 = some ⟨oc19, od19, .func (PySem.W.fnOf "_law_some" "_law_some" (defArgs s__law_some) (defBody s__law_some) (defScope s__law_some) .none kV19 dc19 pm19 an19 cd19 ct19), sl19⟩)
    (c19 : PySem.W.codeIn K cd19 "_law_some" = true)
    (k19 : PySem.W.keepIn K (.ref f19) = true)
    (a20 : PySem.W.nsIn K mainGlobals "_law_places" = some (some (.ref f20)))
    (l20 : K.lookup f20 = some ⟨oc20, od20, .func (PySem.W.fnOf "_law_places" "_law_places" (defArgs s__law_places) (defBody s__law_places) (defScope s__law_places) .none kV20 dc20 pm20 an20 cd20 ct20), sl20⟩)
    (c20 : PySem.W.codeIn K cd20 "_law_places" = true)
    (k20 : PySem.W.keepIn K (.ref f20) = true)
    (a21 : PySem.W.nsIn K mainGlobals "_law_any_size" = some (some (.ref f21)))
    (l21 : K.lookup f21 = some ⟨oc21, od21, .func (PySem.W.fnOf "_law_any_size" "_law_any_size" (defArgs s__law_any_size) (defBody s__law_any_size) (defScope s__law_any_size) .none kV21 dc21 pm21 an21 cd21 ct21), sl21⟩)
    (c21 : PySem.W.codeIn K cd21 "_law_any_size" = true)
    (k21 : PySem.W.keepIn K (.ref f21) = true)
    (a22 : PySem.W.nsIn K mainGlobals "_law_single" = some (some (.ref f22)))
    (l22 : K.lookup f22 = some ⟨oc22, od22, .func (PySem.W.fnOf "_law_single" "_law_single" (defArgs s__law_single) (defBody s__law_single) (defScope s__law_single) .none kV22 dc22 pm22 an22 cd22 ct22), sl22⟩)
    (c22 : PySem.W.codeIn K cd22 "_law_single" = true)
    (k22 : PySem.W.keepIn K (.ref f22) = true)
    (a23 : PySem.W.nsIn K mainGlobals "_law_wrapped" = some (some (.ref f23)))
    (l23 : K.lookup f23 = some ⟨oc23, od23, .func (PySem.W.fnOf "_law_wrapped" "_law_wrapped" (defArgs s__law_wrapped) (defBody s__law_wrapped) (defScope s__law_wrapped) .none kV23 dc23 pm23 an23 cd23 ct23), sl23⟩)
    (c23 : PySem.W.codeIn K cd23 "_law_wrapped" = true)
    (k23 : PySem.W.keepIn K (.ref f23) = true)
    (a24 : PySem.W.nsIn K mainGlobals "_law_bent" = some (some (.ref f24)))
    (l24 : K.lookup f24 = some ⟨oc24, od24, .func (PySem.W.fnOf "_law_bent" "_law_bent" (defArgs s__law_bent) (defBody s__law_bent) (defScope s__law_bent) .none kV24 dc24 pm24 an24 cd24 ct24), sl24⟩)
    (c24 : PySem.W.codeIn K cd24 "_law_bent" = true)
    (k24 : PySem.W.keepIn K (.ref f24) = true)
    (a25 : PySem.W.nsIn K mainGlobals "_law_bent_term" = some (some (.ref f25)))
    (l25 : K.lookup f25 = some ⟨oc25, od25, .func (PySem.W.fnOf "_law_bent_term" "_law_bent_term" (defArgs s__law_bent_term) (defBody s__law_bent_term) (defScope s__law_bent_term) .none kV25 dc25 pm25 an25 cd25 ct25), sl25⟩)
    (c25 : PySem.W.codeIn K cd25 "_law_bent_term" = true)
    (k25 : PySem.W.keepIn K (.ref f25) = true)
    (a26 : PySem.W.nsIn K mainGlobals "_law_replaced" = some (some (.ref f26)))
    (l26 : K.lookup f26 = some ⟨oc26, od26, .func (PySem.W.fnOf "_law_replaced" "_law_replaced" (defArgs s__law_replaced) (defBody s__law_replaced) (defScope s__law_replaced) .none kV26 dc26 pm26 an26 cd26 ct26), sl26⟩)
    (c26 : PySem.W.codeIn K cd26 "_law_replaced" = true)
    (k26 : PySem.W.keepIn K (.ref f26) = true)
    (a27 : PySem.W.nsIn K mainGlobals "_law_near" = some (some (.ref f27)))
    (l27 : K.lookup f27 = some ⟨oc27, od27, .func (PySem.W.fnOf "_law_near" "_law_near" (defArgs s__law_near) (defBody s__law_near) (defScope s__law_near) .none kV27 dc27 pm27 an27 cd27 ct27), sl27⟩)
    (c27 : PySem.W.codeIn K cd27 "_law_near" = true)
    (k27 : PySem.W.keepIn K (.ref f27) = true)
    (a28 : PySem.W.nsIn K mainGlobals "_law_length" = some (some (.ref f28)))
    (l28 : K.lookup f28 = some ⟨oc28, od28, .func (PySem.W.fnOf "_law_length" "_law_length" (defArgs s__law_length) (defBody s__law_length) (defScope s__law_length) .none kV28 dc28 pm28 an28 cd28 ct28), sl28⟩)
    (c28 : PySem.W.codeIn K cd28 "_law_length" = true)
    (k28 : PySem.W.keepIn K (.ref f28) = true)
    (a29 : PySem.W.nsIn K mainGlobals "_law_under" = some (some (.ref f29)))
    (l29 : K.lookup f29 = some ⟨oc29, od29, .func (PySem.W.fnOf "_law_under" "_law_under" (defArgs s__law_under) (defBody s__law_under) (defScope s__law_under) .none kV29 dc29 pm29 an29 cd29 ct29), sl29⟩)
    (c29 : PySem.W.codeIn K cd29 "_law_under" = true)
    (k29 : PySem.W.keepIn K (.ref f29) = true)
    (a30 : PySem.W.nsIn K mainGlobals "_law_entries_fault" = some (some (.ref f30)))
    (l30 : K.lookup f30 = some ⟨oc30, od30, .func (PySem.W.fnOf "_law_entries_fault" "_law_entries_fault" (defArgs s__law_entries_fault) (defBody s__law_entries_fault) (defScope s__law_entries_fault) .none kV30 dc30 pm30 an30 cd30 ct30), sl30⟩)
    (c30 : PySem.W.codeIn K cd30 "_law_entries_fault" = true)
    (k30 : PySem.W.keepIn K (.ref f30) = true)
    (a31 : PySem.W.nsIn K mainGlobals "_law_table_fault" = some (some (.ref f31)))
    (l31 : K.lookup f31 = some ⟨oc31, od31, .func (PySem.W.fnOf "_law_table_fault" "_law_table_fault" (defArgs s__law_table_fault) (defBody s__law_table_fault) (defScope s__law_table_fault) .none kV31 dc31 pm31 an31 cd31 ct31), sl31⟩)
    (c31 : PySem.W.codeIn K cd31 "_law_table_fault" = true)
    (k31 : PySem.W.keepIn K (.ref f31) = true)
    (a32 : PySem.W.nsIn K mainGlobals "_law_item_fault" = some (some (.ref f32)))
    (l32 : K.lookup f32 = some ⟨oc32, od32, .func (PySem.W.fnOf "_law_item_fault" "_law_item_fault" (defArgs s__law_item_fault) (defBody s__law_item_fault) (defScope s__law_item_fault) .none kV32 dc32 pm32 an32 cd32 ct32), sl32⟩)
    (c32 : PySem.W.codeIn K cd32 "_law_item_fault" = true)
    (k32 : PySem.W.keepIn K (.ref f32) = true)
    (a33 : PySem.W.nsIn K mainGlobals "_law_fault" = some (some (.ref f33)))
    (l33 : K.lookup f33 = some ⟨oc33, od33, .func (PySem.W.fnOf "_law_fault" "_law_fault" (defArgs s__law_fault) (defBody s__law_fault) (defScope s__law_fault) .none kV33 dc33 pm33 an33 cd33 ct33), sl33⟩)
    (c33 : PySem.W.codeIn K cd33 "_law_fault" = true)
    (k33 : PySem.W.keepIn K (.ref f33) = true)
    (a34 : PySem.W.nsIn K mainGlobals "_law_made" = some (some (.ref f34)))
    (l34 : K.lookup f34 = some ⟨oc34, od34, .func (PySem.W.fnOf "_law_made" "_law_made" (defArgs s__law_made) (defBody s__law_made) (defScope s__law_made) .none kV34 dc34 pm34 an34 cd34 ct34), sl34⟩)
    (c34 : PySem.W.codeIn K cd34 "_law_made" = true)
    (k34 : PySem.W.keepIn K (.ref f34) = true)
    (a35 : PySem.W.nsIn K mainGlobals "_law_judged" = some (some (.ref f35)))
    (l35 : K.lookup f35 = some ⟨oc35, od35, .func (PySem.W.fnOf "_law_judged" "_law_judged" (defArgs s__law_judged) (defBody s__law_judged) (defScope s__law_judged) .none kV35 dc35 pm35 an35 cd35 ct35), sl35⟩)
    (c35 : PySem.W.codeIn K cd35 "_law_judged" = true)
    (k35 : PySem.W.keepIn K (.ref f35) = true)
    (a36 : PySem.W.nsIn K mainGlobals "law" = some (some (.ref f36)))
    (l36 : K.lookup f36 = some ⟨oc36, od36, .func (PySem.W.fnOf "law" "law" (defArgs s_law) (defBody s_law) (defScope s_law) .none kV36 dc36 pm36 an36 cd36 ct36), sl36⟩)
    (c36 : PySem.W.codeIn K cd36 "law" = true)
    (k36 : PySem.W.keepIn K (.ref f36) = true)
    (z_isinstance : PySem.W.nsIn K mainGlobals "isinstance" = some none)
    (z_int : PySem.W.nsIn K mainGlobals "int" = some none)
    (z_bool : PySem.W.nsIn K mainGlobals "bool" = some none)
    (z_all : PySem.W.nsIn K mainGlobals "all" = some none)
    (z_str : PySem.W.nsIn K mainGlobals "str" = some none)
    (z_len : PySem.W.nsIn K mainGlobals "len" = some none)
    (z_enumerate : PySem.W.nsIn K mainGlobals "enumerate" = some none)
    (z_tuple : PySem.W.nsIn K mainGlobals "tuple" = some none)
    (z_range : PySem.W.nsIn K mainGlobals "range" = some none)
    (z_list : PySem.W.nsIn K mainGlobals "list" = some none)
    (z_min : PySem.W.nsIn K mainGlobals "min" = some none)
    (z_any : PySem.W.nsIn K mainGlobals "any" = some none)
    (z_ValueError : PySem.W.nsIn K mainGlobals "ValueError" = some none)
    (gc_LETTERS : PySem.W.nsIn K mainGlobals "LETTERS" = some (some (.str "abcdefghijklmnopqrstuvwxyz" tk_LETTERS)))
    (gc_DIGITS : PySem.W.nsIn K mainGlobals "DIGITS" = some (some (.str "0123456789" tk_DIGITS)))
    (gc_LONGEST_WORD : PySem.W.nsIn K mainGlobals "LONGEST_WORD" = some (some (.int 12 tk_LONGEST_WORD)))
    (gc_LONGEST_NUMBER : PySem.W.nsIn K mainGlobals "LONGEST_NUMBER" = some (some (.int 9 tk_LONGEST_NUMBER)))
    (gc_NUMBERS_END : PySem.W.nsIn K mainGlobals "NUMBERS_END" = some (some (.int 1000000000 tk_NUMBERS_END)))
    (gc_DEEPEST_TUPLE : PySem.W.nsIn K mainGlobals "DEEPEST_TUPLE" = some (some (.int 30 tk_DEEPEST_TUPLE)))
    (gc_MOST_OPTIONS : PySem.W.nsIn K mainGlobals "MOST_OPTIONS" = some (some (.int 64 tk_MOST_OPTIONS)))
    (gc_MOST_OUTCOMES : PySem.W.nsIn K mainGlobals "MOST_OUTCOMES" = some (some (.int 4 tk_MOST_OUTCOMES)))
    (gc_MOST_SMALL_OPTIONS : PySem.W.nsIn K mainGlobals "MOST_SMALL_OPTIONS" = some (some (.int 8 tk_MOST_SMALL_OPTIONS)))
    (gc_MOST_SMALL_CONTEXTS : PySem.W.nsIn K mainGlobals "MOST_SMALL_CONTEXTS" = some (some (.int 256 tk_MOST_SMALL_CONTEXTS)))
    (gc_DEEPEST_AIM : PySem.W.nsIn K mainGlobals "DEEPEST_AIM" = some (some (.int 6 tk_DEEPEST_AIM)))
    (gc_RANKS_END : PySem.W.nsIn K mainGlobals "RANKS_END" = some (some (.int 10 tk_RANKS_END)))
    (g_OutOfRange : PySem.W.nsIn K mainGlobals "OutOfRange" = some (some (.ref c_OutOfRange)))
    (g_InvalidAim : PySem.W.nsIn K mainGlobals "InvalidAim" = some (some (.ref c_InvalidAim)))
    (g_InvalidGame : PySem.W.nsIn K mainGlobals "InvalidGame" = some (some (.ref c_InvalidGame)))
    (g_InvalidQuery : PySem.W.nsIn K mainGlobals "InvalidQuery" = some (some (.ref c_InvalidQuery)))
    (g_InvalidContext : PySem.W.nsIn K mainGlobals "InvalidContext" = some (some (.ref c_InvalidContext)))
    (g_SizeMismatch : PySem.W.nsIn K mainGlobals "SizeMismatch" = some (some (.ref c_SizeMismatch)))
    (g_TooLarge : PySem.W.nsIn K mainGlobals "TooLarge" = some (some (.ref c_TooLarge)))
    (g_InvalidTerm : PySem.W.nsIn K mainGlobals "InvalidTerm" = some (some (.ref c_InvalidTerm)))
    (g_ChoosersError : PySem.W.nsIn K mainGlobals "ChoosersError" = some (some (.ref c_ChoosersError)))
    (x_OutOfRange : PySem.W.excIn K c_OutOfRange [.type "ValueError", .type "Exception", .type "BaseException", .type "object"] "ValueError.__new__" = true)
    (z_super : PySem.W.nsIn K mainGlobals "super" = some none)
    (opq_ : PySem.W.nsIn K cStatics "thirdparty.any" = some none)
    (kc_OutOfRange : PySem.W.keepIn K (.ref c_OutOfRange) = true)
    (e_OutOfRange : PySem.W.subIn K (.ref c_OutOfRange) (.type "BaseException") = some true)
    (t_OutOfRange : PySem.W.typeIn K (.ref c_OutOfRange) = some (.type "type"))
    (hg_OutOfRange : PySem.W.findIn K (.ref c_OutOfRange) "__getattribute__" = some (some (.builtin "BaseException.__getattribute__")))
    (hk_OutOfRange : PySem.W.findIn K (.ref c_OutOfRange) "__getattr__" = some none)
    (hd_OutOfRange : PySem.W.hasDictIn K c_OutOfRange = true)
    (ha_OutOfRange : PySem.W.findIn K (.ref c_OutOfRange) "__class__" = some (some (.builtin "object.__class__")))
    (hm_OutOfRange : PySem.W.mroIn K c_OutOfRange (.type "object") = some true)
    (s_OutOfRange_OutOfRange : PySem.W.subIn K (.ref c_OutOfRange) (.ref c_OutOfRange) = some true)
    (s_OutOfRange_InvalidGame : PySem.W.subIn K (.ref c_OutOfRange) (.ref c_InvalidGame) = some false)
    (s_OutOfRange_InvalidQuery : PySem.W.subIn K (.ref c_OutOfRange) (.ref c_InvalidQuery) = some false)
    (s_OutOfRange_InvalidContext : PySem.W.subIn K (.ref c_OutOfRange) (.ref c_InvalidContext) = some false)
    (s_OutOfRange_SizeMismatch : PySem.W.subIn K (.ref c_OutOfRange) (.ref c_SizeMismatch) = some false)
    (s_OutOfRange_TooLarge : PySem.W.subIn K (.ref c_OutOfRange) (.ref c_TooLarge) = some false)
    (s_OutOfRange_InvalidTerm : PySem.W.subIn K (.ref c_OutOfRange) (.ref c_InvalidTerm) = some false)
    (s_OutOfRange_InvalidAim : PySem.W.subIn K (.ref c_OutOfRange) (.ref c_InvalidAim) = some false)
    (s_OutOfRange_ValueError : PySem.W.subIn K (.ref c_OutOfRange) (.type "ValueError") = some true)
    (s_OutOfRange_ChoosersError : PySem.W.subIn K (.ref c_OutOfRange) (.ref c_ChoosersError) = some true)
    (kc_InvalidAim : PySem.W.keepIn K (.ref c_InvalidAim) = true)
    (e_InvalidAim : PySem.W.subIn K (.ref c_InvalidAim) (.type "BaseException") = some true)
    (t_InvalidAim : PySem.W.typeIn K (.ref c_InvalidAim) = some (.type "type"))
    (hg_InvalidAim : PySem.W.findIn K (.ref c_InvalidAim) "__getattribute__" = some (some (.builtin "BaseException.__getattribute__")))
    (hk_InvalidAim : PySem.W.findIn K (.ref c_InvalidAim) "__getattr__" = some none)
    (hd_InvalidAim : PySem.W.hasDictIn K c_InvalidAim = true)
    (ha_InvalidAim : PySem.W.findIn K (.ref c_InvalidAim) "__class__" = some (some (.builtin "object.__class__")))
    (hm_InvalidAim : PySem.W.mroIn K c_InvalidAim (.type "object") = some true)
    (s_InvalidAim_InvalidAim : PySem.W.subIn K (.ref c_InvalidAim) (.ref c_InvalidAim) = some true)
    (s_InvalidAim_InvalidGame : PySem.W.subIn K (.ref c_InvalidAim) (.ref c_InvalidGame) = some false)
    (s_InvalidAim_InvalidQuery : PySem.W.subIn K (.ref c_InvalidAim) (.ref c_InvalidQuery) = some false)
    (s_InvalidAim_InvalidContext : PySem.W.subIn K (.ref c_InvalidAim) (.ref c_InvalidContext) = some false)
    (s_InvalidAim_SizeMismatch : PySem.W.subIn K (.ref c_InvalidAim) (.ref c_SizeMismatch) = some false)
    (s_InvalidAim_TooLarge : PySem.W.subIn K (.ref c_InvalidAim) (.ref c_TooLarge) = some false)
    (s_InvalidAim_InvalidTerm : PySem.W.subIn K (.ref c_InvalidAim) (.ref c_InvalidTerm) = some true)
    (s_InvalidAim_ValueError : PySem.W.subIn K (.ref c_InvalidAim) (.type "ValueError") = some true)
    (s_InvalidAim_OutOfRange : PySem.W.subIn K (.ref c_InvalidAim) (.ref c_OutOfRange) = some false)
    (s_InvalidAim_ChoosersError : PySem.W.subIn K (.ref c_InvalidAim) (.ref c_ChoosersError) = some true)
    (ic_InvalidAim : PySem.W.findIn K (.ref c_InvalidAim) "__init__" = some (some (.ref fi_InvalidAim)))
    (li_InvalidAim : K.lookup fi_InvalidAim = some ⟨oci_InvalidAim, odi_InvalidAim, .func (PySem.W.ksFn "__init__" "InvalidTerm.__init__" (defArgs si_InvalidTerm) (defBody si_InvalidTerm) (defScope si_InvalidTerm) .none kVi_InvalidAim dci_InvalidAim pmi_InvalidAim ani_InvalidAim (.ref cda_InvalidAim) cti_InvalidAim cc_InvalidAim), sli_InvalidAim⟩)
    (cdi_InvalidAim : PySem.W.codeIn K (.ref cda_InvalidAim) "InvalidTerm.__init__" = true)
    (ti_InvalidAim : PySem.W.typeIn K (.ref fi_InvalidAim) = some (.type "function"))
    (no_InvalidAim : PySem.W.findIn K (.ref c_InvalidAim) "path" = some none)
    (cell_InvalidAim : K.lookup cc_InvalidAim = some ⟨clc_InvalidAim, cld_InvalidAim, .cell (some (.ref c_InvalidTerm)), csl_InvalidAim⟩)
    (own_InvalidAim : PySem.W.isClsIn K c_InvalidTerm = true)
    (sb_InvalidAim : PySem.W.mroIn K c_InvalidAim (.ref c_InvalidTerm) = some true)
    (ve_InvalidAim : PySem.W.subIn K (.ref c_InvalidAim) (.type "ValueError") = some true)
    (sup_InvalidAim : PySem.W.ks_superIn K c_InvalidAim c_InvalidTerm "__init__" = some (some (.builtin "ValueError.__init__")))
    (code_InvalidAim : K.lookup cda_InvalidAim = some ⟨ccl_InvalidAim, cdd_InvalidAim, .fields vs_InvalidAim, ccs_InvalidAim⟩)
    (cfl_InvalidAim : vs_InvalidAim[2]? = some (.str fl_InvalidAim tf_InvalidAim))
    (hfl_InvalidAim : ((P.main.file : Str) == fl_InvalidAim) = true)
    (ob_InvalidAim : K.lookup c_InvalidAim = some (excClassObj nm_InvalidAim qn_InvalidAim c_InvalidAim ns_InvalidAim bs_InvalidAim bm_InvalidAim true sn_InvalidAim sb2_InvalidAim ab_InvalidAim col_InvalidAim dd_InvalidAim k0_InvalidAim k1_InvalidAim k2_InvalidAim k3_InvalidAim k5_InvalidAim "ValueError.__new__"))
    (rv_InvalidAim : PySem.HandSPX.refsVE bm_InvalidAim = true)
    (sa_InvalidAim : PySem.W.findIn K (.ref c_InvalidAim) "__setattr__" = some (some (.builtin "object.__setattr__")))
    (htop_ : (P.main.scope.names.lookup ("super" : Str)).isSome = false)
    (q_OutOfRange : PySem.W.isClsIn K c_OutOfRange = true)
    (q_InvalidAim : PySem.W.isClsIn K c_InvalidAim = true)
    (q_InvalidGame : PySem.W.isClsIn K c_InvalidGame = true)
    (t_InvalidGame : PySem.W.typeIn K (.ref c_InvalidGame) = some (.type "type"))
    (q_InvalidQuery : PySem.W.isClsIn K c_InvalidQuery = true)
    (t_InvalidQuery : PySem.W.typeIn K (.ref c_InvalidQuery) = some (.type "type"))
    (q_InvalidContext : PySem.W.isClsIn K c_InvalidContext = true)
    (t_InvalidContext : PySem.W.typeIn K (.ref c_InvalidContext) = some (.type "type"))
    (q_SizeMismatch : PySem.W.isClsIn K c_SizeMismatch = true)
    (t_SizeMismatch : PySem.W.typeIn K (.ref c_SizeMismatch) = some (.type "type"))
    (q_TooLarge : PySem.W.isClsIn K c_TooLarge = true)
    (t_TooLarge : PySem.W.typeIn K (.ref c_TooLarge) = some (.type "type"))
    (q_InvalidTerm : PySem.W.isClsIn K c_InvalidTerm = true)
    (t_InvalidTerm : PySem.W.typeIn K (.ref c_InvalidTerm) = some (.type "type"))
    (q_ChoosersError : PySem.W.isClsIn K c_ChoosersError = true)
    (t_ChoosersError : PySem.W.typeIn K (.ref c_ChoosersError) = some (.type "type"))
    (e_ChoosersError : PySem.W.subIn K (.ref c_ChoosersError) (.type "BaseException") = some true)
    (hd_ChoosersError : PySem.W.hasDictIn K c_ChoosersError = true)
    (hn_ : PySem.W.specialIn K (.builtin "object.__class__") "__get__" = some (some (.builtin "getset_descriptor.__get__")))
    (ht_ : PySem.W.takesIn K (.builtin "object.__class__") = some true)
    (pg_Aim : PySem.W.plainGet K c_Aim Str.empty = true)
    (hdc_Aim : PySem.W.hasDictIn K c_Aim = true)
    (po_Aim : PySem.W.plainOver K c_Aim = true)
    (sac_Aim : PySem.W.findIn K (.ref c_Aim) "__setattr__" = some (some (.builtin "object.__setattr__")))
    (mk_Aim : PySem.W.makesIn K c_Aim = true)
    (kcc_Aim : PySem.W.keepIn K (.ref c_Aim) = true)
    (na_Aim_term : PySem.W.findIn K (.ref c_Aim) "term" = some none)
    (na_Aim_options : PySem.W.findIn K (.ref c_Aim) "options" = some none)
    (na_Aim_outcomes : PySem.W.findIn K (.ref c_Aim) "outcomes" = some none)
    (g_SHAPES : PySem.W.nsIn K mainGlobals "SHAPES" = some (some (.ref c_SHAPES)))
    (ld_SHAPES : K.lookup c_SHAPES = some ⟨.type "dict", none, .dict es_SHAPES n_SHAPES, #[]⟩)
    (kl_SHAPES : PySem.W.KeysLit w.params es_SHAPES.toList)
    (kn_SHAPES : es_SHAPES.toList.map keyS = [("any" : Str), ("best" : Str), ("second" : Str), ("most" : Str), ("fewest" : Str), ("fixed" : Str), ("like" : Str), ("unlike" : Str), ("among" : Str), ("only" : Str), ("table" : Str), ("either" : Str), ("both" : Str), ("else" : Str), ("not" : Str), ("first" : Str), ("recode" : Str), ("reorder" : Str)].map some)
    (lo_SHAPES : (c_SHAPES == sysModules) = false)
    (v_SHAPES_0 : PySem.W.nsIn K c_SHAPES "any" = some (some (.ref t_SHAPES_0)))
    (lt_SHAPES_0 : K.lookup t_SHAPES_0 = some ⟨.type "tuple", none, .seq its_SHAPES_0 nn_SHAPES_0, sl_SHAPES_0⟩)
    (vs_SHAPES_0 : Vals (([] : List Str).map V.str) its_SHAPES_0.toList)
    (sz_SHAPES_0 : its_SHAPES_0.size ≤ sizeLine)
    (v_SHAPES_1 : PySem.W.nsIn K c_SHAPES "best" = some (some (.ref t_SHAPES_1)))
    (lt_SHAPES_1 : K.lookup t_SHAPES_1 = some ⟨.type "tuple", none, .seq its_SHAPES_1 nn_SHAPES_1, sl_SHAPES_1⟩)
    (vs_SHAPES_1 : Vals ((["ranks"] : List Str).map V.str) its_SHAPES_1.toList)
    (sz_SHAPES_1 : its_SHAPES_1.size ≤ sizeLine)
    (v_SHAPES_2 : PySem.W.nsIn K c_SHAPES "second" = some (some (.ref t_SHAPES_2)))
    (lt_SHAPES_2 : K.lookup t_SHAPES_2 = some ⟨.type "tuple", none, .seq its_SHAPES_2 nn_SHAPES_2, sl_SHAPES_2⟩)
    (vs_SHAPES_2 : Vals ((["ranks"] : List Str).map V.str) its_SHAPES_2.toList)
    (sz_SHAPES_2 : its_SHAPES_2.size ≤ sizeLine)
    (v_SHAPES_3 : PySem.W.nsIn K c_SHAPES "most" = some (some (.ref t_SHAPES_3)))
    (lt_SHAPES_3 : K.lookup t_SHAPES_3 = some ⟨.type "tuple", none, .seq its_SHAPES_3 nn_SHAPES_3, sl_SHAPES_3⟩)
    (vs_SHAPES_3 : Vals (([] : List Str).map V.str) its_SHAPES_3.toList)
    (sz_SHAPES_3 : its_SHAPES_3.size ≤ sizeLine)
    (v_SHAPES_4 : PySem.W.nsIn K c_SHAPES "fewest" = some (some (.ref t_SHAPES_4)))
    (lt_SHAPES_4 : K.lookup t_SHAPES_4 = some ⟨.type "tuple", none, .seq its_SHAPES_4 nn_SHAPES_4, sl_SHAPES_4⟩)
    (vs_SHAPES_4 : Vals (([] : List Str).map V.str) its_SHAPES_4.toList)
    (sz_SHAPES_4 : its_SHAPES_4.size ≤ sizeLine)
    (v_SHAPES_5 : PySem.W.nsIn K c_SHAPES "fixed" = some (some (.ref t_SHAPES_5)))
    (lt_SHAPES_5 : K.lookup t_SHAPES_5 = some ⟨.type "tuple", none, .seq its_SHAPES_5 nn_SHAPES_5, sl_SHAPES_5⟩)
    (vs_SHAPES_5 : Vals (([] : List Str).map V.str) its_SHAPES_5.toList)
    (sz_SHAPES_5 : its_SHAPES_5.size ≤ sizeLine)
    (v_SHAPES_6 : PySem.W.nsIn K c_SHAPES "like" = some (some (.ref t_SHAPES_6)))
    (lt_SHAPES_6 : K.lookup t_SHAPES_6 = some ⟨.type "tuple", none, .seq its_SHAPES_6 nn_SHAPES_6, sl_SHAPES_6⟩)
    (vs_SHAPES_6 : Vals ((["option"] : List Str).map V.str) its_SHAPES_6.toList)
    (sz_SHAPES_6 : its_SHAPES_6.size ≤ sizeLine)
    (v_SHAPES_7 : PySem.W.nsIn K c_SHAPES "unlike" = some (some (.ref t_SHAPES_7)))
    (lt_SHAPES_7 : K.lookup t_SHAPES_7 = some ⟨.type "tuple", none, .seq its_SHAPES_7 nn_SHAPES_7, sl_SHAPES_7⟩)
    (vs_SHAPES_7 : Vals ((["option"] : List Str).map V.str) its_SHAPES_7.toList)
    (sz_SHAPES_7 : its_SHAPES_7.size ≤ sizeLine)
    (v_SHAPES_8 : PySem.W.nsIn K c_SHAPES "among" = some (some (.ref t_SHAPES_8)))
    (lt_SHAPES_8 : K.lookup t_SHAPES_8 = some ⟨.type "tuple", none, .seq its_SHAPES_8 nn_SHAPES_8, sl_SHAPES_8⟩)
    (vs_SHAPES_8 : Vals ((["outcomes"] : List Str).map V.str) its_SHAPES_8.toList)
    (sz_SHAPES_8 : its_SHAPES_8.size ≤ sizeLine)
    (v_SHAPES_9 : PySem.W.nsIn K c_SHAPES "only" = some (some (.ref t_SHAPES_9)))
    (lt_SHAPES_9 : K.lookup t_SHAPES_9 = some ⟨.type "tuple", none, .seq its_SHAPES_9 nn_SHAPES_9, sl_SHAPES_9⟩)
    (vs_SHAPES_9 : Vals ((["options"] : List Str).map V.str) its_SHAPES_9.toList)
    (sz_SHAPES_9 : its_SHAPES_9.size ≤ sizeLine)
    (v_SHAPES_10 : PySem.W.nsIn K c_SHAPES "table" = some (some (.ref t_SHAPES_10)))
    (lt_SHAPES_10 : K.lookup t_SHAPES_10 = some ⟨.type "tuple", none, .seq its_SHAPES_10 nn_SHAPES_10, sl_SHAPES_10⟩)
    (vs_SHAPES_10 : Vals ((["rows"] : List Str).map V.str) its_SHAPES_10.toList)
    (sz_SHAPES_10 : its_SHAPES_10.size ≤ sizeLine)
    (v_SHAPES_11 : PySem.W.nsIn K c_SHAPES "either" = some (some (.ref t_SHAPES_11)))
    (lt_SHAPES_11 : K.lookup t_SHAPES_11 = some ⟨.type "tuple", none, .seq its_SHAPES_11 nn_SHAPES_11, sl_SHAPES_11⟩)
    (vs_SHAPES_11 : Vals ((["aim", "aim"] : List Str).map V.str) its_SHAPES_11.toList)
    (sz_SHAPES_11 : its_SHAPES_11.size ≤ sizeLine)
    (v_SHAPES_12 : PySem.W.nsIn K c_SHAPES "both" = some (some (.ref t_SHAPES_12)))
    (lt_SHAPES_12 : K.lookup t_SHAPES_12 = some ⟨.type "tuple", none, .seq its_SHAPES_12 nn_SHAPES_12, sl_SHAPES_12⟩)
    (vs_SHAPES_12 : Vals ((["aim", "aim"] : List Str).map V.str) its_SHAPES_12.toList)
    (sz_SHAPES_12 : its_SHAPES_12.size ≤ sizeLine)
    (v_SHAPES_13 : PySem.W.nsIn K c_SHAPES "else" = some (some (.ref t_SHAPES_13)))
    (lt_SHAPES_13 : K.lookup t_SHAPES_13 = some ⟨.type "tuple", none, .seq its_SHAPES_13 nn_SHAPES_13, sl_SHAPES_13⟩)
    (vs_SHAPES_13 : Vals ((["aim", "aim"] : List Str).map V.str) its_SHAPES_13.toList)
    (sz_SHAPES_13 : its_SHAPES_13.size ≤ sizeLine)
    (v_SHAPES_14 : PySem.W.nsIn K c_SHAPES "not" = some (some (.ref t_SHAPES_14)))
    (lt_SHAPES_14 : K.lookup t_SHAPES_14 = some ⟨.type "tuple", none, .seq its_SHAPES_14 nn_SHAPES_14, sl_SHAPES_14⟩)
    (vs_SHAPES_14 : Vals ((["aim"] : List Str).map V.str) its_SHAPES_14.toList)
    (sz_SHAPES_14 : its_SHAPES_14.size ≤ sizeLine)
    (v_SHAPES_15 : PySem.W.nsIn K c_SHAPES "first" = some (some (.ref t_SHAPES_15)))
    (lt_SHAPES_15 : K.lookup t_SHAPES_15 = some ⟨.type "tuple", none, .seq its_SHAPES_15 nn_SHAPES_15, sl_SHAPES_15⟩)
    (vs_SHAPES_15 : Vals ((["aim"] : List Str).map V.str) its_SHAPES_15.toList)
    (sz_SHAPES_15 : its_SHAPES_15.size ≤ sizeLine)
    (v_SHAPES_16 : PySem.W.nsIn K c_SHAPES "recode" = some (some (.ref t_SHAPES_16)))
    (lt_SHAPES_16 : K.lookup t_SHAPES_16 = some ⟨.type "tuple", none, .seq its_SHAPES_16 nn_SHAPES_16, sl_SHAPES_16⟩)
    (vs_SHAPES_16 : Vals ((["codes", "aim"] : List Str).map V.str) its_SHAPES_16.toList)
    (sz_SHAPES_16 : its_SHAPES_16.size ≤ sizeLine)
    (v_SHAPES_17 : PySem.W.nsIn K c_SHAPES "reorder" = some (some (.ref t_SHAPES_17)))
    (lt_SHAPES_17 : K.lookup t_SHAPES_17 = some ⟨.type "tuple", none, .seq its_SHAPES_17 nn_SHAPES_17, sl_SHAPES_17⟩)
    (vs_SHAPES_17 : Vals ((["places", "aim"] : List Str).map V.str) its_SHAPES_17.toList)
    (sz_SHAPES_17 : its_SHAPES_17.size ≤ sizeLine)
    : ∃ fd : FuncData, (∀ (s : Shared) (v : Value), BindsTo s fd ⟨[v], []⟩ [("_law_script", v)]) ∧ ∀ base : Heap, K.In base → base.Ns mainGlobals mg → FnOk P w K mg base (L2N.CX P w) 40 fa fd ["_law_script"] (spOf K c_law) := by
  have e := hfa.symm.trans (PySem.W.mg_of X G a36)
  cases e
  have F0 := fun_mk (st := s_is_number) l0 c0 k0
  have b0 := F0.binds (ps := ["value"]) fun _ _ _ _ _ _ us hl => match us, hl with | [_], _ => rfl
  have F1 := fun_mk (st := s_is_below) l1 c1 k1
  have b1 := F1.binds (ps := ["value", "limit"]) fun _ _ _ _ _ _ us hl => match us, hl with | [_, _], _ => rfl
  have F2 := fun_mk (st := s_count_choices) l2 c2 k2
  have b2 := F2.binds (ps := ["widths"]) fun _ _ _ _ _ _ us hl => match us, hl with | [_], _ => rfl
  have F3 := fun_mk (st := s_has_outcomes) l3 c3 k3
  have b3 := F3.binds (ps := ["outcomes"]) fun _ _ _ _ _ _ us hl => match us, hl with | [_], _ => rfl
  have F4 := fun_mk (st := s_is_size) l4 c4 k4
  have b4 := F4.binds (ps := ["options", "outcomes"]) fun _ _ _ _ _ _ us hl => match us, hl with | [_, _], _ => rfl
  have F5 := fun_mk (st := s_is_small) l5 c5 k5
  have b5 := F5.binds (ps := ["options", "outcomes"]) fun _ _ _ _ _ _ us hl => match us, hl with | [_, _], _ => rfl
  have F6 := fun_mk (st := s_count_contexts) l6 c6 k6
  have b6 := F6.binds (ps := ["options", "outcomes"]) fun _ _ _ _ _ _ us hl => match us, hl with | [_, _], _ => rfl
  have F7 := fun_mk (st := s_has_shape) l7 c7 k7
  have b7 := F7.binds (ps := ["term"]) fun _ _ _ _ _ _ us hl => match us, hl with | [_], _ => rfl
  have F8 := fun_mk (st := s_wrong_numbers) l8 c8 k8
  have b8 := F8.binds (ps := ["item", "length", "limit"]) fun _ _ _ _ _ _ us hl => match us, hl with | [_, _, _], _ => rfl
  have F9 := fun_mk (st := s_wrong_places) l9 c9 k9
  have b9 := F9.binds (ps := ["item", "options"]) fun _ _ _ _ _ _ us hl => match us, hl with | [_, _], _ => rfl
  have F10 := fun_mk (st := s_wrong_ascending) l10 c10 k10
  have b10 := F10.binds (ps := ["item", "limit"]) fun _ _ _ _ _ _ us hl => match us, hl with | [_, _], _ => rfl
  have F11 := fun_mk (st := s_wrong_rows) l11 c11 k11
  have b11 := F11.binds (ps := ["item", "options", "outcomes"]) fun _ _ _ _ _ _ us hl => match us, hl with | [_, _, _], _ => rfl
  have F12 := fun_mk (st := s_wrong_item) l12 c12 k12
  have b12 := F12.binds (ps := ["kind", "item", "options", "outcomes", "depth"]) fun _ _ _ _ _ _ us hl => match us, hl with | [_, _, _, _, _], _ => rfl
  have F13 := fun_mk (st := s_wrong_aim) l13 c13 k13
  have b13 := F13.binds (ps := ["term", "options", "outcomes", "depth"]) fun _ _ _ _ _ _ us hl => match us, hl with | [_, _, _, _], _ => rfl
  have F14 := fun_mk (st := s_Aim___init__) l14 c14 k14
  have b14 := F14.binds (ps := ["self", "term", "options", "outcomes"]) fun _ _ _ _ _ _ us hl => match us, hl with | [_, _, _, _], _ => rfl
  have F15 := fun_mk (st := s__law_start) l15 c15 k15
  have b15 := F15.binds (ps := ["_law_script"]) fun _ _ _ _ _ _ us hl => match us, hl with | [_], _ => rfl
  have F16 := fun_mk (st := s__law_pick) l16 c16 k16
  have b16 := F16.binds (ps := ["_law_state", "_law_limit"]) fun _ _ _ _ _ _ us hl => match us, hl with | [_, _], _ => rfl
  have F17 := fun_mk (st := s__law_same) l17 c17 k17
  have b17 := F17.binds (ps := ["_law_actual", "_law_due"]) fun _ _ _ _ _ _ us hl => match us, hl with | [_, _], _ => rfl
  have F18 := fun_mk (st := s__law_contexts) l18 c18 k18
  have b18 := F18.binds (ps := ["_law_n", "_law_k"]) fun _ _ _ _ _ _ us hl => match us, hl with | [_, _], _ => rfl
  have F19 := fun_mk (st := s__law_some) l19 c19 k19
  have b19 := F19.binds (ps := ["_law_state", "_law_limit"]) fun _ _ _ _ _ _ us hl => match us, hl with | [_, _], _ => rfl
  have F20 := fun_mk (st := s__law_places) l20 c20 k20
  have b20 := F20.binds (ps := ["_law_state", "_law_many"]) fun _ _ _ _ _ _ us hl => match us, hl with | [_, _], _ => rfl
  have F21 := fun_mk (st := s__law_any_size) l21 c21 k21
  have b21 := F21.binds (ps := ["_law_state"]) fun _ _ _ _ _ _ us hl => match us, hl with | [_], _ => rfl
  have F22 := fun_mk (st := s__law_single) l22 c22 k22
  have b22 := F22.binds (ps := ["_law_state", "_law_n", "_law_k"]) fun _ _ _ _ _ _ us hl => match us, hl with | [_, _, _], _ => rfl
  have F23 := fun_mk (st := s__law_wrapped) l23 c23 k23
  have b23 := F23.binds (ps := ["_law_state", "_law_term", "_law_n", "_law_k"]) fun _ _ _ _ _ _ us hl => match us, hl with | [_, _, _, _], _ => rfl
  have F24 := fun_mk (st := s__law_bent) l24 c24 k24
  have b24 := F24.binds (ps := ["_law_state", "_law_part", "_law_n", "_law_k"]) fun _ _ _ _ _ _ us hl => match us, hl with | [_, _, _, _], _ => rfl
  have F25 := fun_mk (st := s__law_bent_term) l25 c25 k25
  have b25 := F25.binds (ps := ["_law_state", "_law_term", "_law_n", "_law_k"]) fun _ _ _ _ _ _ us hl => match us, hl with | [_, _, _, _], _ => rfl
  have F26 := fun_mk (st := s__law_replaced) l26 c26 k26
  have b26 := F26.binds (ps := ["_law_term", "_law_path", "_law_part"]) fun _ _ _ _ _ _ us hl => match us, hl with | [_, _, _], _ => rfl
  have F27 := fun_mk (st := s__law_near) l27 c27 k27
  have b27 := F27.binds (ps := ["_law_state", "_law_n", "_law_k"]) fun _ _ _ _ _ _ us hl => match us, hl with | [_, _, _], _ => rfl
  have F28 := fun_mk (st := s__law_length) l28 c28 k28
  have b28 := F28.binds (ps := ["_law_word"]) fun _ _ _ _ _ _ us hl => match us, hl with | [_], _ => rfl
  have F29 := fun_mk (st := s__law_under) l29 c29 k29
  have b29 := F29.binds (ps := ["_law_at", "_law_fault_here"]) fun _ _ _ _ _ _ us hl => match us, hl with | [_, _], _ => rfl
  have F30 := fun_mk (st := s__law_entries_fault) l30 c30 k30
  have b30 := F30.binds (ps := ["_law_item", "_law_length_here", "_law_limit", "_law_how"]) fun _ _ _ _ _ _ us hl => match us, hl with | [_, _, _, _], _ => rfl
  have F31 := fun_mk (st := s__law_table_fault) l31 c31 k31
  have b31 := F31.binds (ps := ["_law_rows", "_law_n", "_law_k"]) fun _ _ _ _ _ _ us hl => match us, hl with | [_, _, _], _ => rfl
  have F32 := fun_mk (st := s__law_item_fault) l32 c32 k32
  have b32 := F32.binds (ps := ["_law_term", "_law_n", "_law_k", "_law_level"]) fun _ _ _ _ _ _ us hl => match us, hl with | [_, _, _, _], _ => rfl
  have F33 := fun_mk (st := s__law_fault) l33 c33 k33
  have b33 := F33.binds (ps := ["_law_term", "_law_n", "_law_k", "_law_level"]) fun _ _ _ _ _ _ us hl => match us, hl with | [_, _, _, _], _ => rfl
  have F34 := fun_mk (st := s__law_made) l34 c34 k34
  have b34 := F34.binds (ps := ["_law_term", "_law_n", "_law_k"]) fun _ _ _ _ _ _ us hl => match us, hl with | [_, _, _], _ => rfl
  have F35 := fun_mk (st := s__law_judged) l35 c35 k35
  have b35 := F35.binds (ps := ["_law_term", "_law_n", "_law_k"]) fun _ _ _ _ _ _ us hl => match us, hl with | [_, _, _], _ => rfl
  have F36 := fun_mk (st := s_law) l36 c36 k36
  have b36 := F36.binds (ps := ["_law_script"]) fun _ _ _ _ _ _ us hl => match us, hl with | [_], _ => rfl
  have ox_InvalidAim : OexC K c_InvalidAim := ⟨⟨_, _, _, _, _, _, _, _, _, _, _, _, _, _, _, ob_InvalidAim, rv_InvalidAim⟩, sa_InvalidAim, e_InvalidAim, t_InvalidAim, kc_InvalidAim⟩
  have su_InvalidAim : SupC K c_InvalidAim c_InvalidTerm cc_InvalidAim fi_InvalidAim cda_InvalidAim fl_InvalidAim := ⟨ox_InvalidAim, ⟨_, _, _, cell_InvalidAim⟩, own_InvalidAim, sb_InvalidAim, ve_InvalidAim, opq_, sup_InvalidAim, ⟨_, _, _, _, _, code_InvalidAim, cfl_InvalidAim⟩⟩
  have e_SHAPES_0 := ent_tup (ss := []) v_SHAPES_0 lt_SHAPES_0 vs_SHAPES_0 sz_SHAPES_0
  have e_SHAPES_1 := ent_tup (ss := ["ranks"]) v_SHAPES_1 lt_SHAPES_1 vs_SHAPES_1 sz_SHAPES_1
  have e_SHAPES_2 := ent_tup (ss := ["ranks"]) v_SHAPES_2 lt_SHAPES_2 vs_SHAPES_2 sz_SHAPES_2
  have e_SHAPES_3 := ent_tup (ss := []) v_SHAPES_3 lt_SHAPES_3 vs_SHAPES_3 sz_SHAPES_3
  have e_SHAPES_4 := ent_tup (ss := []) v_SHAPES_4 lt_SHAPES_4 vs_SHAPES_4 sz_SHAPES_4
  have e_SHAPES_5 := ent_tup (ss := []) v_SHAPES_5 lt_SHAPES_5 vs_SHAPES_5 sz_SHAPES_5
  have e_SHAPES_6 := ent_tup (ss := ["option"]) v_SHAPES_6 lt_SHAPES_6 vs_SHAPES_6 sz_SHAPES_6
  have e_SHAPES_7 := ent_tup (ss := ["option"]) v_SHAPES_7 lt_SHAPES_7 vs_SHAPES_7 sz_SHAPES_7
  have e_SHAPES_8 := ent_tup (ss := ["outcomes"]) v_SHAPES_8 lt_SHAPES_8 vs_SHAPES_8 sz_SHAPES_8
  have e_SHAPES_9 := ent_tup (ss := ["options"]) v_SHAPES_9 lt_SHAPES_9 vs_SHAPES_9 sz_SHAPES_9
  have e_SHAPES_10 := ent_tup (ss := ["rows"]) v_SHAPES_10 lt_SHAPES_10 vs_SHAPES_10 sz_SHAPES_10
  have e_SHAPES_11 := ent_tup (ss := ["aim", "aim"]) v_SHAPES_11 lt_SHAPES_11 vs_SHAPES_11 sz_SHAPES_11
  have e_SHAPES_12 := ent_tup (ss := ["aim", "aim"]) v_SHAPES_12 lt_SHAPES_12 vs_SHAPES_12 sz_SHAPES_12
  have e_SHAPES_13 := ent_tup (ss := ["aim", "aim"]) v_SHAPES_13 lt_SHAPES_13 vs_SHAPES_13 sz_SHAPES_13
  have e_SHAPES_14 := ent_tup (ss := ["aim"]) v_SHAPES_14 lt_SHAPES_14 vs_SHAPES_14 sz_SHAPES_14
  have e_SHAPES_15 := ent_tup (ss := ["aim"]) v_SHAPES_15 lt_SHAPES_15 vs_SHAPES_15 sz_SHAPES_15
  have e_SHAPES_16 := ent_tup (ss := ["codes", "aim"]) v_SHAPES_16 lt_SHAPES_16 vs_SHAPES_16 sz_SHAPES_16
  have e_SHAPES_17 := ent_tup (ss := ["places", "aim"]) v_SHAPES_17 lt_SHAPES_17 vs_SHAPES_17 sz_SHAPES_17
  have D_SHAPES : DictOk K w c_SHAPES [("any", .tup []), ("best", .tup [.str "ranks"]), ("second", .tup [.str "ranks"]), ("most", .tup []), ("fewest", .tup []), ("fixed", .tup []), ("like", .tup [.str "option"]), ("unlike", .tup [.str "option"]), ("among", .tup [.str "outcomes"]), ("only", .tup [.str "options"]), ("table", .tup [.str "rows"]), ("either", .tup [.str "aim", .str "aim"]), ("both", .tup [.str "aim", .str "aim"]), ("else", .tup [.str "aim", .str "aim"]), ("not", .tup [.str "aim"]), ("first", .tup [.str "aim"]), ("recode", .tup [.str "codes", .str "aim"]), ("reorder", .tup [.str "places", .str "aim"])] := dictOk_by ld_SHAPES kl_SHAPES (kn_SHAPES.trans rfl) lo_SHAPES (List.forall_mem_cons.mpr ⟨e_SHAPES_0, List.forall_mem_cons.mpr ⟨e_SHAPES_1, List.forall_mem_cons.mpr ⟨e_SHAPES_2, List.forall_mem_cons.mpr ⟨e_SHAPES_3, List.forall_mem_cons.mpr ⟨e_SHAPES_4, List.forall_mem_cons.mpr ⟨e_SHAPES_5, List.forall_mem_cons.mpr ⟨e_SHAPES_6, List.forall_mem_cons.mpr ⟨e_SHAPES_7, List.forall_mem_cons.mpr ⟨e_SHAPES_8, List.forall_mem_cons.mpr ⟨e_SHAPES_9, List.forall_mem_cons.mpr ⟨e_SHAPES_10, List.forall_mem_cons.mpr ⟨e_SHAPES_11, List.forall_mem_cons.mpr ⟨e_SHAPES_12, List.forall_mem_cons.mpr ⟨e_SHAPES_13, List.forall_mem_cons.mpr ⟨e_SHAPES_14, List.forall_mem_cons.mpr ⟨e_SHAPES_15, List.forall_mem_cons.mpr ⟨e_SHAPES_16, List.forall_mem_cons.mpr ⟨e_SHAPES_17, fun p hp => by cases hp⟩⟩⟩⟩⟩⟩⟩⟩⟩⟩⟩⟩⟩⟩⟩⟩⟩⟩)
  exact ⟨_, fun s v => .of_eq rfl, fun base _ _ => ok_law (⟨f0, _, F0, PySem.W.mg_of X G a0, b0,
    f1, _, F1, PySem.W.mg_of X G a1, b1,
    f2, _, F2, PySem.W.mg_of X G a2, b2,
    f3, _, F3, PySem.W.mg_of X G a3, b3,
    f4, _, F4, PySem.W.mg_of X G a4, b4,
    f5, _, F5, PySem.W.mg_of X G a5, b5,
    f6, _, F6, PySem.W.mg_of X G a6, b6,
    f7, _, F7, PySem.W.mg_of X G a7, b7,
    f8, _, F8, PySem.W.mg_of X G a8, b8,
    f9, _, F9, PySem.W.mg_of X G a9, b9,
    f10, _, F10, PySem.W.mg_of X G a10, b10,
    f11, _, F11, PySem.W.mg_of X G a11, b11,
    f12, _, F12, PySem.W.mg_of X G a12, b12,
    f13, _, F13, PySem.W.mg_of X G a13, b13,
    f14, _, F14, b14,
    f15, _, F15, PySem.W.mg_of X G a15, b15,
    f16, _, F16, PySem.W.mg_of X G a16, b16,
    f17, _, F17, PySem.W.mg_of X G a17, b17,
    f18, _, F18, PySem.W.mg_of X G a18, b18,
    f19, _, F19, PySem.W.mg_of X G a19, b19,
    f20, _, F20, PySem.W.mg_of X G a20, b20,
    f21, _, F21, PySem.W.mg_of X G a21, b21,
    f22, _, F22, PySem.W.mg_of X G a22, b22,
    f23, _, F23, PySem.W.mg_of X G a23, b23,
    f24, _, F24, PySem.W.mg_of X G a24, b24,
    f25, _, F25, PySem.W.mg_of X G a25, b25,
    f26, _, F26, PySem.W.mg_of X G a26, b26,
    f27, _, F27, PySem.W.mg_of X G a27, b27,
    f28, _, F28, PySem.W.mg_of X G a28, b28,
    f29, _, F29, PySem.W.mg_of X G a29, b29,
    f30, _, F30, PySem.W.mg_of X G a30, b30,
    f31, _, F31, PySem.W.mg_of X G a31, b31,
    f32, _, F32, PySem.W.mg_of X G a32, b32,
    f33, _, F33, PySem.W.mg_of X G a33, b33,
    f34, _, F34, PySem.W.mg_of X G a34, b34,
    f35, _, F35, PySem.W.mg_of X G a35, b35,
    fa, _, F36, PySem.W.mg_of X G a36, b36,
    PySem.W.mg_none_of X G z_isinstance,
    PySem.W.mg_none_of X G z_int,
    PySem.W.mg_none_of X G z_bool,
    PySem.W.mg_none_of X G z_all,
    PySem.W.mg_none_of X G z_str,
    PySem.W.mg_none_of X G z_len,
    PySem.W.mg_none_of X G z_enumerate,
    PySem.W.mg_none_of X G z_tuple,
    PySem.W.mg_none_of X G z_range,
    PySem.W.mg_none_of X G z_list,
    PySem.W.mg_none_of X G z_min,
    PySem.W.mg_none_of X G z_any,
    PySem.W.mg_none_of X G z_ValueError,
    ⟨_, PySem.W.mg_of X G gc_LETTERS⟩,
    ⟨_, PySem.W.mg_of X G gc_DIGITS⟩,
    ⟨_, PySem.W.mg_of X G gc_LONGEST_WORD⟩,
    ⟨_, PySem.W.mg_of X G gc_LONGEST_NUMBER⟩,
    ⟨_, PySem.W.mg_of X G gc_NUMBERS_END⟩,
    ⟨_, PySem.W.mg_of X G gc_DEEPEST_TUPLE⟩,
    ⟨_, PySem.W.mg_of X G gc_MOST_OPTIONS⟩,
    ⟨_, PySem.W.mg_of X G gc_MOST_OUTCOMES⟩,
    ⟨_, PySem.W.mg_of X G gc_MOST_SMALL_OPTIONS⟩,
    ⟨_, PySem.W.mg_of X G gc_MOST_SMALL_CONTEXTS⟩,
    ⟨_, PySem.W.mg_of X G gc_DEEPEST_AIM⟩,
    ⟨_, PySem.W.mg_of X G gc_RANKS_END⟩,
    c_OutOfRange, PySem.W.mg_of X G g_OutOfRange,
    c_InvalidAim, PySem.W.mg_of X G g_InvalidAim,
    c_InvalidGame, PySem.W.mg_of X G g_InvalidGame,
    c_InvalidQuery, PySem.W.mg_of X G g_InvalidQuery,
    c_InvalidContext, PySem.W.mg_of X G g_InvalidContext,
    c_SizeMismatch, PySem.W.mg_of X G g_SizeMismatch,
    c_TooLarge, PySem.W.mg_of X G g_TooLarge,
    c_InvalidTerm, PySem.W.mg_of X G g_InvalidTerm,
    c_ChoosersError, PySem.W.mg_of X G g_ChoosersError,
    fi_InvalidAim, _, ox_InvalidAim, ic_InvalidAim, ti_InvalidAim, no_InvalidAim, ⟨hg_InvalidAim, hk_InvalidAim, e_InvalidAim, hd_InvalidAim⟩, ⟨hg_InvalidAim, hk_InvalidAim, e_InvalidAim, hd_InvalidAim, ha_InvalidAim, hn_, ht_, hm_InvalidAim⟩, okinit_InvalidTerm li_InvalidAim cdi_InvalidAim su_InvalidAim hfl_InvalidAim htop_ (PySem.W.mg_none_of X G z_super), Binds.all fun us hl => match us, hl with | [_, _], _ => rfl,
    kit_refS s_InvalidAim_InvalidAim q_InvalidGame t_InvalidGame s_InvalidAim_InvalidGame,
    kit_refS s_InvalidAim_InvalidAim q_InvalidQuery t_InvalidQuery s_InvalidAim_InvalidQuery,
    kit_refS s_InvalidAim_InvalidAim q_InvalidContext t_InvalidContext s_InvalidAim_InvalidContext,
    kit_refS s_InvalidAim_InvalidAim q_SizeMismatch t_SizeMismatch s_InvalidAim_SizeMismatch,
    kit_refS s_InvalidAim_InvalidAim q_TooLarge t_TooLarge s_InvalidAim_TooLarge,
    kit_refS s_InvalidAim_InvalidAim q_InvalidTerm t_InvalidTerm s_InvalidAim_InvalidTerm,
    kit_refS s_InvalidAim_InvalidAim q_InvalidAim t_InvalidAim s_InvalidAim_InvalidAim,
    kit_tyS rfl s_InvalidAim_ValueError,
    kit_refS s_InvalidAim_InvalidAim q_OutOfRange t_OutOfRange s_InvalidAim_OutOfRange,
    PySem.W.exm_ref e_ChoosersError hd_ChoosersError t_ChoosersError s_InvalidAim_ChoosersError,
    x_OutOfRange, kc_OutOfRange, e_OutOfRange, t_OutOfRange, ⟨hg_OutOfRange, hk_OutOfRange, e_OutOfRange, hd_OutOfRange, ha_OutOfRange, hn_, ht_, hm_OutOfRange⟩,
    kit_refS s_OutOfRange_OutOfRange q_InvalidGame t_InvalidGame s_OutOfRange_InvalidGame,
    kit_refS s_OutOfRange_OutOfRange q_InvalidQuery t_InvalidQuery s_OutOfRange_InvalidQuery,
    kit_refS s_OutOfRange_OutOfRange q_InvalidContext t_InvalidContext s_OutOfRange_InvalidContext,
    kit_refS s_OutOfRange_OutOfRange q_SizeMismatch t_SizeMismatch s_OutOfRange_SizeMismatch,
    kit_refS s_OutOfRange_OutOfRange q_TooLarge t_TooLarge s_OutOfRange_TooLarge,
    kit_refS s_OutOfRange_OutOfRange q_InvalidTerm t_InvalidTerm s_OutOfRange_InvalidTerm,
    kit_refS s_OutOfRange_OutOfRange q_InvalidAim t_InvalidAim s_OutOfRange_InvalidAim,
    kit_tyS rfl s_OutOfRange_ValueError,
    kit_refS s_OutOfRange_OutOfRange q_OutOfRange t_OutOfRange s_OutOfRange_OutOfRange,
    PySem.W.exm_ref e_ChoosersError hd_ChoosersError t_ChoosersError s_OutOfRange_ChoosersError,
    c_SHAPES, PySem.W.mg_of X G g_SHAPES, D_SHAPES,
    c_Aim, PySem.W.mg_of X G g_Aim, ⟨mk_Aim, a14, i14, kcc_Aim⟩, ⟨pg_Aim, hdc_Aim, po_Aim, sac_Aim⟩,
    na_Aim_term,
    na_Aim_options,
    na_Aim_outcomes⟩ : Txt P w K mg)⟩
theorem sp_law_of {K : Fg} {H : Hp} {a : Addr} {ns : List Int} (hl : ns.length ≤ 63) (hS : SqL K H a (ns.map V.int)) : spOf K c_law [.ref a] H (fun v _ => v = .bl true) fun _ _ _ => False :=
  ⟨fun _ => none, [.scr ns], fun d _ => d = .bl true, fun _ _ => False, (fun _ _ z => nomatch z), .scr (hS.elim (fun q => .inl ⟨q, .of rfl⟩) fun q => .inr q) .nil, ⟨ns, rfl, hl, rfl⟩, fun v H' d μ' _ _ r e => by subst e; exact Rep.bl_inv r, fun _ _ _ _ _ _ _ _ z => z⟩
open PyProof.Rows in
theorem walk {l : PySem.W.OpenLaw} {q : Program} {loose : List Str} {XP : (Str → Option Value) → Heap → Prop} {YP : World → Heap → Prop} {d : DefRec} {K : Params → PySem.W.Frag} (hn : l.most = some 63) (hdf : d.params.defaults = [])
    (hY : ∀ (w : World) (h : Heap), YP w h → (K w.params).In h)
    (F : ∀ (w : World) (mg : Str → Option Value) (fa : Addr) (h : Heap), (K w.params).In h → h.Ns mainGlobals mg → mg d.name = some (.ref fa) →
      ∃ fd : FuncData, (∀ (s : Shared) (u : Value), BindsTo s fd ⟨[u], []⟩ [("_law_script", u)]) ∧ ∀ base : Heap, (K w.params).In base → base.Ns mainGlobals mg → FnOk l.prog w (K w.params) mg base (L2N.CX l.prog w) 40 fa fd ["_law_script"] (spOf (K w.params) c_law)) :
    PySem.W.WalkO q loose XP YP l.row.toRowW d [] (fun f vs => PySem.call f vs) :=
  L2.walk_of (n := 63) (k := 40) (x := "_law_script") (CX := fun w => L2N.CX l.prog w) (sp := fun w => spOf (K w.params) c_law) hn (by decide) hdf ⟨rfl, by decide, by decide⟩ hY F (fun _ _ a ns hl _ hS => sp_law_of hl hS) fun _ _ _ _ _ h => by
    obtain ⟨_, _, _, _, _, _, _, _, _, _, _, _, z⟩ := h
    exact z
end LW
set_option Elab.async false
set_option linter.all false
open PySem PySem.W PyProof.Rows in
set_option maxRecDepth 100000 in
set_option maxHeartbeats 0 in
theorem PySem.Challenge.cw_choosersrow_k03_wrong_aims_holds : PySem.Challenge.rw_choosersrow_k03_wrong_aims.Holds := by
  w_on; o_law; k_head; (case hw => w_witness2)
  k_fill
  refine LW.walk (l := PySem.Challenge.rw_choosersrow_k03_wrong_aims) rfl rfl (fun w h Y => PySem.W.kIn_of Y) ?F
  case F =>
    intro w mg fa h KX G hmg
    refine' LW.all_mk KX G hmg ?g_Aim ?a0 ?l0 ?c0 ?k0 ?a1 ?l1 ?c1 ?k1 ?a2 ?l2 ?c2 ?k2 ?a3 ?l3 ?c3 ?k3 ?a4 ?l4 ?c4 ?k4 ?a5 ?l5 ?c5 ?k5 ?a6 ?l6 ?c6 ?k6 ?a7 ?l7 ?c7 ?k7 ?a8 ?l8 ?c8 ?k8 ?a9 ?l9 ?c9 ?k9 ?a10 ?l10 ?c10 ?k10 ?a11 ?l11 ?c11 ?k11 ?a12 ?l12 ?c12 ?k12 ?a13 ?l13 ?c13 ?k13 ?a14 ?i14 ?l14 ?c14 ?k14 ?a15 ?l15 ?c15 ?k15 ?a16 ?l16 ?c16 ?k16 ?a17 ?l17 ?c17 ?k17 ?a18 ?l18 ?c18 ?k18 ?a19 ?l19 ?c19 ?k19 ?a20 ?l20 ?c20 ?k20 ?a21 ?l21 ?c21 ?k21 ?a22 ?l22 ?c22 ?k22 ?a23 ?l23 ?c23 ?k23 ?a24 ?l24 ?c24 ?k24 ?a25 ?l25 ?c25 ?k25 ?a26 ?l26 ?c26 ?k26 ?a27 ?l27 ?c27 ?k27 ?a28 ?l28 ?c28 ?k28 ?a29 ?l29 ?c29 ?k29 ?a30 ?l30 ?c30 ?k30 ?a31 ?l31 ?c31 ?k31 ?a32 ?l32 ?c32 ?k32 ?a33 ?l33 ?c33 ?k33 ?a34 ?l34 ?c34 ?k34 ?a35 ?l35 ?c35 ?k35 ?a36 ?l36 ?c36 ?k36 ?z_isinstance ?z_int ?z_bool ?z_all ?z_str ?z_len ?z_enumerate ?z_tuple ?z_range ?z_list ?z_min ?z_any ?z_ValueError ?gc_LETTERS ?gc_DIGITS ?gc_LONGEST_WORD ?gc_LONGEST_NUMBER ?gc_NUMBERS_END ?gc_DEEPEST_TUPLE ?gc_MOST_OPTIONS ?gc_MOST_OUTCOMES ?gc_MOST_SMALL_OPTIONS ?gc_MOST_SMALL_CONTEXTS ?gc_DEEPEST_AIM ?gc_RANKS_END ?g_OutOfRange ?g_InvalidAim ?g_InvalidGame ?g_InvalidQuery ?g_InvalidContext ?g_SizeMismatch ?g_TooLarge ?g_InvalidTerm ?g_ChoosersError ?x_OutOfRange ?z_super ?opq_ ?kc_OutOfRange ?e_OutOfRange ?t_OutOfRange ?hg_OutOfRange ?hk_OutOfRange ?hd_OutOfRange ?ha_OutOfRange ?hm_OutOfRange ?s_OutOfRange_OutOfRange ?s_OutOfRange_InvalidGame ?s_OutOfRange_InvalidQuery ?s_OutOfRange_InvalidContext ?s_OutOfRange_SizeMismatch ?s_OutOfRange_TooLarge ?s_OutOfRange_InvalidTerm ?s_OutOfRange_InvalidAim ?s_OutOfRange_ValueError ?s_OutOfRange_ChoosersError ?kc_InvalidAim ?e_InvalidAim ?t_InvalidAim ?hg_InvalidAim ?hk_InvalidAim ?hd_InvalidAim ?ha_InvalidAim ?hm_InvalidAim ?s_InvalidAim_InvalidAim ?s_InvalidAim_InvalidGame ?s_InvalidAim_InvalidQuery ?s_InvalidAim_InvalidContext ?s_InvalidAim_SizeMismatch ?s_InvalidAim_TooLarge ?s_InvalidAim_InvalidTerm ?s_InvalidAim_ValueError ?s_InvalidAim_OutOfRange ?s_InvalidAim_ChoosersError ?ic_InvalidAim ?li_InvalidAim ?cdi_InvalidAim ?ti_InvalidAim ?no_InvalidAim ?cell_InvalidAim ?own_InvalidAim ?sb_InvalidAim ?ve_InvalidAim ?sup_InvalidAim ?code_InvalidAim ?cfl_InvalidAim ?hfl_InvalidAim ?ob_InvalidAim ?rv_InvalidAim ?sa_InvalidAim ?htop_ ?q_OutOfRange ?q_InvalidAim ?q_InvalidGame ?t_InvalidGame ?q_InvalidQuery ?t_InvalidQuery ?q_InvalidContext ?t_InvalidContext ?q_SizeMismatch ?t_SizeMismatch ?q_TooLarge ?t_TooLarge ?q_InvalidTerm ?t_InvalidTerm ?q_ChoosersError ?t_ChoosersError ?e_ChoosersError ?hd_ChoosersError ?hn_ ?ht_ ?pg_Aim ?hdc_Aim ?po_Aim ?sac_Aim ?mk_Aim ?kcc_Aim ?na_Aim_term ?na_Aim_options ?na_Aim_outcomes ?g_SHAPES ?ld_SHAPES ?kl_SHAPES ?kn_SHAPES ?lo_SHAPES ?v_SHAPES_0 ?lt_SHAPES_0 ?vs_SHAPES_0 ?sz_SHAPES_0 ?v_SHAPES_1 ?lt_SHAPES_1 ?vs_SHAPES_1 ?sz_SHAPES_1 ?v_SHAPES_2 ?lt_SHAPES_2 ?vs_SHAPES_2 ?sz_SHAPES_2 ?v_SHAPES_3 ?lt_SHAPES_3 ?vs_SHAPES_3 ?sz_SHAPES_3 ?v_SHAPES_4 ?lt_SHAPES_4 ?vs_SHAPES_4 ?sz_SHAPES_4 ?v_SHAPES_5 ?lt_SHAPES_5 ?vs_SHAPES_5 ?sz_SHAPES_5 ?v_SHAPES_6 ?lt_SHAPES_6 ?vs_SHAPES_6 ?sz_SHAPES_6 ?v_SHAPES_7 ?lt_SHAPES_7 ?vs_SHAPES_7 ?sz_SHAPES_7 ?v_SHAPES_8 ?lt_SHAPES_8 ?vs_SHAPES_8 ?sz_SHAPES_8 ?v_SHAPES_9 ?lt_SHAPES_9 ?vs_SHAPES_9 ?sz_SHAPES_9 ?v_SHAPES_10 ?lt_SHAPES_10 ?vs_SHAPES_10 ?sz_SHAPES_10 ?v_SHAPES_11 ?lt_SHAPES_11 ?vs_SHAPES_11 ?sz_SHAPES_11 ?v_SHAPES_12 ?lt_SHAPES_12 ?vs_SHAPES_12 ?sz_SHAPES_12 ?v_SHAPES_13 ?lt_SHAPES_13 ?vs_SHAPES_13 ?sz_SHAPES_13 ?v_SHAPES_14 ?lt_SHAPES_14 ?vs_SHAPES_14 ?sz_SHAPES_14 ?v_SHAPES_15 ?lt_SHAPES_15 ?vs_SHAPES_15 ?sz_SHAPES_15 ?v_SHAPES_16 ?lt_SHAPES_16 ?vs_SHAPES_16 ?sz_SHAPES_16 ?v_SHAPES_17 ?lt_SHAPES_17 ?vs_SHAPES_17 ?sz_SHAPES_17
    (case g_Aim => k_is)
    (case a0 => k_is)
    (case l0 => k_is)
    (case c0 => k_is)
    (case k0 => k_is)
    (case a1 => k_is)
    (case l1 => k_is)
    (case c1 => k_is)
    (case k1 => k_is)
    (case a2 => k_is)
    (case l2 => k_is)
    (case c2 => k_is)
    (case k2 => k_is)
    (case a3 => k_is)
    (case l3 => k_is)
    (case c3 => k_is)
    (case k3 => k_is)
    (case a4 => k_is)
    (case l4 => k_is)
    (case c4 => k_is)
    (case k4 => k_is)
    (case a5 => k_is)
    (case l5 => k_is)
    (case c5 => k_is)
    (case k5 => k_is)
    (case a6 => k_is)
    (case l6 => k_is)
    (case c6 => k_is)
    (case k6 => k_is)
    (case a7 => k_is)
    (case l7 => k_is)
    (case c7 => k_is)
    (case k7 => k_is)
    (case a8 => k_is)
    (case l8 => k_is)
    (case c8 => k_is)
    (case k8 => k_is)
    (case a9 => k_is)
    (case l9 => k_is)
    (case c9 => k_is)
    (case k9 => k_is)
    (case a10 => k_is)
    (case l10 => k_is)
    (case c10 => k_is)
    (case k10 => k_is)
    (case a11 => k_is)
    (case l11 => k_is)
    (case c11 => k_is)
    (case k11 => k_is)
    (case a12 => k_is)
    (case l12 => k_is)
    (case c12 => k_is)
    (case k12 => k_is)
    (case a13 => k_is)
    (case l13 => k_is)
    (case c13 => k_is)
    (case k13 => k_is)
    (case a14 => k_is)
    (case i14 => k_is)
    (case l14 => k_is)
    (case c14 => k_is)
    (case k14 => k_is)
    (case a15 => k_is)
    (case l15 => k_is)
    (case c15 => k_is)
    (case k15 => k_is)
    (case a16 => k_is)
    (case l16 => k_is)
    (case c16 => k_is)
    (case k16 => k_is)
    (case a17 => k_is)
    (case l17 => k_is)
    (case c17 => k_is)
    (case k17 => k_is)
    (case a18 => k_is)
    (case l18 => k_is)
    (case c18 => k_is)
    (case k18 => k_is)
    (case a19 => k_is)
    (case l19 => k_is)
    (case c19 => k_is)
    (case k19 => k_is)
    (case a20 => k_is)
    (case l20 => k_is)
    (case c20 => k_is)
    (case k20 => k_is)
    (case a21 => k_is)
    (case l21 => k_is)
    (case c21 => k_is)
    (case k21 => k_is)
    (case a22 => k_is)
    (case l22 => k_is)
    (case c22 => k_is)
    (case k22 => k_is)
    (case a23 => k_is)
    (case l23 => k_is)
    (case c23 => k_is)
    (case k23 => k_is)
    (case a24 => k_is)
    (case l24 => k_is)
    (case c24 => k_is)
    (case k24 => k_is)
    (case a25 => k_is)
    (case l25 => k_is)
    (case c25 => k_is)
    (case k25 => k_is)
    (case a26 => k_is)
    (case l26 => k_is)
    (case c26 => k_is)
    (case k26 => k_is)
    (case a27 => k_is)
    (case l27 => k_is)
    (case c27 => k_is)
    (case k27 => k_is)
    (case a28 => k_is)
    (case l28 => k_is)
    (case c28 => k_is)
    (case k28 => k_is)
    (case a29 => k_is)
    (case l29 => k_is)
    (case c29 => k_is)
    (case k29 => k_is)
    (case a30 => k_is)
    (case l30 => k_is)
    (case c30 => k_is)
    (case k30 => k_is)
    (case a31 => k_is)
    (case l31 => k_is)
    (case c31 => k_is)
    (case k31 => k_is)
    (case a32 => k_is)
    (case l32 => k_is)
    (case c32 => k_is)
    (case k32 => k_is)
    (case a33 => k_is)
    (case l33 => k_is)
    (case c33 => k_is)
    (case k33 => k_is)
    (case a34 => k_is)
    (case l34 => k_is)
    (case c34 => k_is)
    (case k34 => k_is)
    (case a35 => k_is)
    (case l35 => k_is)
    (case c35 => k_is)
    (case k35 => k_is)
    (case a36 => k_is)
    (case l36 => k_is)
    (case c36 => k_is)
    (case k36 => k_is)
    (case z_isinstance => k_is)
    (case z_int => k_is)
    (case z_bool => k_is)
    (case z_all => k_is)
    (case z_str => k_is)
    (case z_len => k_is)
    (case z_enumerate => k_is)
    (case z_tuple => k_is)
    (case z_range => k_is)
    (case z_list => k_is)
    (case z_min => k_is)
    (case z_any => k_is)
    (case z_ValueError => k_is)
    (case gc_LETTERS => k_is)
    (case gc_DIGITS => k_is)
    (case gc_LONGEST_WORD => k_is)
    (case gc_LONGEST_NUMBER => k_is)
    (case gc_NUMBERS_END => k_is)
    (case gc_DEEPEST_TUPLE => k_is)
    (case gc_MOST_OPTIONS => k_is)
    (case gc_MOST_OUTCOMES => k_is)
    (case gc_MOST_SMALL_OPTIONS => k_is)
    (case gc_MOST_SMALL_CONTEXTS => k_is)
    (case gc_DEEPEST_AIM => k_is)
    (case gc_RANKS_END => k_is)
    (case g_OutOfRange => k_is)
    (case g_InvalidAim => k_is)
    (case g_InvalidGame => k_is)
    (case g_InvalidQuery => k_is)
    (case g_InvalidContext => k_is)
    (case g_SizeMismatch => k_is)
    (case g_TooLarge => k_is)
    (case g_InvalidTerm => k_is)
    (case g_ChoosersError => k_is)
    (case x_OutOfRange => k_exc)
    (case z_super => k_is)
    (case opq_ => k_is)
    (case kc_OutOfRange => k_is)
    (case e_OutOfRange => k_is)
    (case t_OutOfRange => k_is)
    (case hg_OutOfRange => k_is)
    (case hk_OutOfRange => k_is)
    (case hd_OutOfRange => k_is)
    (case ha_OutOfRange => k_is)
    (case hm_OutOfRange => k_is)
    (case s_OutOfRange_OutOfRange => first | rfl | k_is)
    (case s_OutOfRange_InvalidGame => k_is)
    (case s_OutOfRange_InvalidQuery => k_is)
    (case s_OutOfRange_InvalidContext => k_is)
    (case s_OutOfRange_SizeMismatch => k_is)
    (case s_OutOfRange_TooLarge => k_is)
    (case s_OutOfRange_InvalidTerm => k_is)
    (case s_OutOfRange_InvalidAim => k_is)
    (case s_OutOfRange_ValueError => k_is)
    (case s_OutOfRange_ChoosersError => k_is)
    (case kc_InvalidAim => k_is)
    (case e_InvalidAim => k_is)
    (case t_InvalidAim => k_is)
    (case hg_InvalidAim => k_is)
    (case hk_InvalidAim => k_is)
    (case hd_InvalidAim => k_is)
    (case ha_InvalidAim => k_is)
    (case hm_InvalidAim => k_is)
    (case s_InvalidAim_InvalidAim => first | rfl | k_is)
    (case s_InvalidAim_InvalidGame => k_is)
    (case s_InvalidAim_InvalidQuery => k_is)
    (case s_InvalidAim_InvalidContext => k_is)
    (case s_InvalidAim_SizeMismatch => k_is)
    (case s_InvalidAim_TooLarge => k_is)
    (case s_InvalidAim_InvalidTerm => k_is)
    (case s_InvalidAim_ValueError => k_is)
    (case s_InvalidAim_OutOfRange => k_is)
    (case s_InvalidAim_ChoosersError => k_is)
    (case ic_InvalidAim => k_is)
    (case li_InvalidAim => k_is)
    (case cdi_InvalidAim => k_is)
    (case ti_InvalidAim => k_is)
    (case no_InvalidAim => k_is)
    (case cell_InvalidAim => k_is)
    (case own_InvalidAim => k_is)
    (case sb_InvalidAim => k_is)
    (case ve_InvalidAim => k_is)
    (case sup_InvalidAim => ks_is)
    (case code_InvalidAim => k_is)
    (case cfl_InvalidAim => rfl)
    (case hfl_InvalidAim => first | rfl | decide +kernel)
    (case ob_InvalidAim => k_is)
    (case rv_InvalidAim => first | rfl | decide +kernel)
    (case sa_InvalidAim => k_is)
    (case htop_ => first | rfl | decide +kernel)
    (case q_OutOfRange => k_is)
    (case q_InvalidAim => k_is)
    (case q_InvalidGame => k_is)
    (case t_InvalidGame => k_is)
    (case q_InvalidQuery => k_is)
    (case t_InvalidQuery => k_is)
    (case q_InvalidContext => k_is)
    (case t_InvalidContext => k_is)
    (case q_SizeMismatch => k_is)
    (case t_SizeMismatch => k_is)
    (case q_TooLarge => k_is)
    (case t_TooLarge => k_is)
    (case q_InvalidTerm => k_is)
    (case t_InvalidTerm => k_is)
    (case q_ChoosersError => k_is)
    (case t_ChoosersError => k_is)
    (case e_ChoosersError => k_is)
    (case hd_ChoosersError => k_is)
    (case hn_ => k_is)
    (case ht_ => k_is)
    (case pg_Aim => k_is)
    (case hdc_Aim => k_is)
    (case po_Aim => k_is)
    (case sac_Aim => k_is)
    (case mk_Aim => k_is)
    (case kcc_Aim => k_is)
    (case na_Aim_term => k_is)
    (case na_Aim_options => k_is)
    (case na_Aim_outcomes => k_is)
    (case g_SHAPES => k_is)
    (case ld_SHAPES => k_is)
    (case kl_SHAPES => k_keys)
    (case kn_SHAPES => rfl)
    (case lo_SHAPES => first | rfl | decide +kernel)
    (case v_SHAPES_0 => k_is)
    (case lt_SHAPES_0 => k_is)
    (case vs_SHAPES_0 => exact .nil)
    (case sz_SHAPES_0 => decide)
    (case v_SHAPES_1 => k_is)
    (case lt_SHAPES_1 => k_is)
    (case vs_SHAPES_1 => exact (.cons ⟨_, rfl⟩ .nil))
    (case sz_SHAPES_1 => decide)
    (case v_SHAPES_2 => k_is)
    (case lt_SHAPES_2 => k_is)
    (case vs_SHAPES_2 => exact (.cons ⟨_, rfl⟩ .nil))
    (case sz_SHAPES_2 => decide)
    (case v_SHAPES_3 => k_is)
    (case lt_SHAPES_3 => k_is)
    (case vs_SHAPES_3 => exact .nil)
    (case sz_SHAPES_3 => decide)
    (case v_SHAPES_4 => k_is)
    (case lt_SHAPES_4 => k_is)
    (case vs_SHAPES_4 => exact .nil)
    (case sz_SHAPES_4 => decide)
    (case v_SHAPES_5 => k_is)
    (case lt_SHAPES_5 => k_is)
    (case vs_SHAPES_5 => exact .nil)
    (case sz_SHAPES_5 => decide)
    (case v_SHAPES_6 => k_is)
    (case lt_SHAPES_6 => k_is)
    (case vs_SHAPES_6 => exact (.cons ⟨_, rfl⟩ .nil))
    (case sz_SHAPES_6 => decide)
    (case v_SHAPES_7 => k_is)
    (case lt_SHAPES_7 => k_is)
    (case vs_SHAPES_7 => exact (.cons ⟨_, rfl⟩ .nil))
    (case sz_SHAPES_7 => decide)
    (case v_SHAPES_8 => k_is)
    (case lt_SHAPES_8 => k_is)
    (case vs_SHAPES_8 => exact (.cons ⟨_, rfl⟩ .nil))
    (case sz_SHAPES_8 => decide)
    (case v_SHAPES_9 => k_is)
    (case lt_SHAPES_9 => k_is)
    (case vs_SHAPES_9 => exact (.cons ⟨_, rfl⟩ .nil))
    (case sz_SHAPES_9 => decide)
    (case v_SHAPES_10 => k_is)
    (case lt_SHAPES_10 => k_is)
    (case vs_SHAPES_10 => exact (.cons ⟨_, rfl⟩ .nil))
    (case sz_SHAPES_10 => decide)
    (case v_SHAPES_11 => k_is)
    (case lt_SHAPES_11 => k_is)
    (case vs_SHAPES_11 => exact (.cons ⟨_, rfl⟩ (.cons ⟨_, rfl⟩ .nil)))
    (case sz_SHAPES_11 => decide)
    (case v_SHAPES_12 => k_is)
    (case lt_SHAPES_12 => k_is)
    (case vs_SHAPES_12 => exact (.cons ⟨_, rfl⟩ (.cons ⟨_, rfl⟩ .nil)))
    (case sz_SHAPES_12 => decide)
    (case v_SHAPES_13 => k_is)
    (case lt_SHAPES_13 => k_is)
    (case vs_SHAPES_13 => exact (.cons ⟨_, rfl⟩ (.cons ⟨_, rfl⟩ .nil)))
    (case sz_SHAPES_13 => decide)
    (case v_SHAPES_14 => k_is)
    (case lt_SHAPES_14 => k_is)
    (case vs_SHAPES_14 => exact (.cons ⟨_, rfl⟩ .nil))
    (case sz_SHAPES_14 => decide)
    (case v_SHAPES_15 => k_is)
    (case lt_SHAPES_15 => k_is)
    (case vs_SHAPES_15 => exact (.cons ⟨_, rfl⟩ .nil))
    (case sz_SHAPES_15 => decide)
    (case v_SHAPES_16 => k_is)
    (case lt_SHAPES_16 => k_is)
    (case vs_SHAPES_16 => exact (.cons ⟨_, rfl⟩ (.cons ⟨_, rfl⟩ .nil)))
    (case sz_SHAPES_16 => decide)
    (case v_SHAPES_17 => k_is)
    (case lt_SHAPES_17 => k_is)
    (case vs_SHAPES_17 => exact (.cons ⟨_, rfl⟩ (.cons ⟨_, rfl⟩ .nil)))
    (case sz_SHAPES_17 => decide)
