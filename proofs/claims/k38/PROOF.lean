import PyProof.Rows.All
import HandS.ForMost
import HandS.TupAny
import HandS.TupMul
import HandS.ForExc
import HandS.EndBits
import HandS.Wide
import HandS.WideBits
import HandS.Zip
import HandS.IsInst
import HandS.ExcIs
import HandS.Flow
import HandS.Strs
import HandS.Conv
import HandS.Style
import HandS.GenList
import HandS.ExcCtx
import HandS.Hot
import HandS.HotCalls
import HandS.WordsExc
import HandS.Text
import HandS.RaiseMore
import KE.GoesEnumKw
import HandS.Nested
import HandS.ExcInit
import KE.KSuper
import KE.KExcSuper
import HandS.ExcField
import KE.KExcIs
import HandS.FStr
import HandS.FStrTup
import PyProof.ListStr
import HandS.ExcOwn
import HandS.SetFor
import HandS.More
import HandS.Sort
import PyProof.Rows.SetFrom
import HandS.IterVal
import HandS.Iter
import PyProof.Rows.CallKwBuiltin
import KE.GoesZip
import KE.GoesMore
import KE.GoesEnum
import PyProof.P3Eq
import KE.KOpsOwn
import KE.KCallOwn
import KE.KTupSum
import HandS.Star
import HandS.Defaults
import PySem.Challenge.RW_choosersrow_k38_endless_rows
import Open.SpecLaws
import KE.OsGo
import KE.RegKSuper
set_option Elab.async false
set_option linter.all false
set_option maxRecDepth 100000
set_option maxHeartbeats 4000000
namespace DW
open PySem PySem.Spec PyProof.Rows L2
/-- the object of a new tuple -/
abbrev tupObj (its : List Value) : Obj := { cls := .type "tuple", data := .seq its.toArray }
theorem tup_okN {P : Program} {w : World} {H : Hp} {h : Heap} {xs : List V} {its : List Value} (hz : xs.length ≤ sizeLine) (r : Vals xs its) :
    ObjOk P w H (h.push (tupObj its)) h.objs.size (.frz (tupObj its) (.tup xs)) := ⟨Heap.get?_push_size _ rfl, hz, its, r, IsTup.new _ _⟩
section
variable {X : Cx} {pins : List (Addr × Obj)} {σ : L2.St} {H : Hp} {s : Shared} {Q : VK}
/-- what is wished of a new tuple -/
def NewT (H : Hp) (xs : List V) (Q : VK) : Prop := ∀ p o, o.dict = none → o.cls = .type "tuple" → H p = none → Q (.ref p) (upd H p (.frz o (.tup xs)))
theorem new_tup {xs : List V} {its : List Value} (I : Inv X pins σ H s) (hz : xs.length ≤ sizeLine) (r : Vals xs its) (q : NewT H xs Q) : EP X pins σ Q (.ref s.heap.objs.size) { s with heap := s.heap.push (tupObj its) } :=
  ⟨.ref s.heap.objs.size, _, I.laid (t' := s.toks) (fun b u e => Heap.get?_push_of_some _ e) (Nat.le_refl _) (tup_okN hz r), rfl, q _ _ rfl rfl (I.hok.fresh (Nat.le_refl _))⟩
end
def tTupN (t : TA) : TE := fun σ H Q => t σ H fun xs H1 => xs.length ≤ sizeLine ∧ NewT H1 xs Q
theorem pe_tupN {X : Cx} {es : List Expr} {x1 : Nat} {pos : Pos} {t : TA} (h : PA X es t) : PE X (.Tuple es x1 pos) (tTupN t) :=
  ⟨fun pins s σ H Q I hq => wpAny_Tuple_spliced (thn (h.run pos pins s σ H _ I hq) fun us s1 ⟨xs, H1, I1, r, z, q⟩ => ⟨by rw [← r.length]; exact z, new_tup I1 z r q⟩)⟩
/-- t + u -/
def rCatN (K : PySem.W.Frag) : R2 := fun x y H Q => ∃ a b xs ys, x = .ref a ∧ y = .ref b ∧ SqT K H a xs ∧ SqT K H b ys ∧ xs.length + ys.length ≤ sizeLine ∧
  (xs = [] → Q (.ref b) H) ∧ (xs ≠ [] → ys = [] → Q (.ref a) H) ∧ (xs ≠ [] → ys ≠ [] → NewT H (xs ++ ys) Q)
theorem op_catN {X : Cx} : OpR X (binaryOp .Add) (rCatN X.K) := by
  intro pins s σ H x y v u Q I rx ry h
  obtain ⟨a, b, xs, ys, rfl, rfl, ha, hb, hz, q0, q1, q2⟩ := h
  cases rx
  cases ry
  obtain ⟨its, r1, p1, _⟩ := I.tuple ha
  obtain ⟨its2, r2, p2, _⟩ := I.tuple hb
  by_cases hx : xs = []
  · subst hx
    cases r1
    exact cat_tup0 p1 p2 ⟨.ref b, H, I, rfl, q0 rfl⟩
  · refine HT.cat_tup p1 p2 (fun z => hx (r1.nil_iff.mp z)) (fun z => ⟨.ref a, H, I, rfl, q1 hx (r2.nil_iff.mp z)⟩) (fun z => ?_) (by rw [← r1.length, ← r2.length]; exact hz)
    exact new_tup I (by rw [List.length_append]; exact hz) (r1.append r2) (q2 hx fun w => z (r2.nil_iff.mpr w))
/-- t[lo:hi] -/
def rSlN (K : PySem.W.Frag) : V → Option Int → Option Int → Hp → VK → Prop := fun x lo hi H Q => ∃ a xs, x = .ref a ∧ SqT K H a xs ∧
  (HT.sIx xs.length 0 lo = 0 ∧ HT.sIx xs.length xs.length hi = xs.length → Q (.ref a) H) ∧ (¬ (HT.sIx xs.length 0 lo = 0 ∧ HT.sIx xs.length xs.length hi = xs.length) → NewT H (cutV xs lo hi) Q)
theorem sl_tupN {X : Cx} : SlR X (rSlN X.K) := by
  intro pins s σ H x v vl vu lo hi sl Q I rx hs pl pu h
  obtain ⟨a, xs, rfl, hx, q1, q2⟩ := h
  cases rx
  obtain ⟨its, r, ht, hz⟩ := I.tuple hx
  have many : its.toArray.size = xs.length := by rw [List.size_toArray]; exact r.length.symm
  refine ⟨"tuple", _, PyProof.Rows.slot_tuple_getitem.lookup, ht.typeIs, ?_⟩
  by_cases hw : HT.sIx xs.length 0 lo = 0 ∧ HT.sIx xs.length xs.length hi = xs.length
  · exact getItem_tuple_whole ht hs pl pu (by rw [many]; exact hw) ⟨.ref a, H, I, rfl, q1 hw⟩
  · refine HT.getItem_tuple_cut ht hs pl pu (by rw [many]; exact hw) ?_ (by rw [many]; exact hz)
    rw [many]
    exact new_tup I (Nat.le_trans (cutV_length xs lo hi) hz) ((r.drop (HT.sIx xs.length 0 lo)).take (HT.sIx xs.length xs.length hi - HT.sIx xs.length 0 lo)) (q2 hw)
/-- tuple(xs) -/
theorem call_tupleN {X : Cx} : CallR X (.type "tuple") (fun xs H Q => ∃ p ys, xs = [.ref p] ∧ ((SqL X.K H p ys ∧ NewT H ys Q) ∨ (SqT X.K H p ys ∧ Q (.ref p) H))) := by
  intro pins s σ H xs us Q I r h
  obtain ⟨p, ys, rfl, h⟩ := h
  obtain ⟨u, rfl, rx⟩ := vals1 r
  cases rx
  rcases h with ⟨hq, q⟩ | ⟨hq, q⟩
  · obtain ⟨its, r', pl, hz⟩ := I.list hq
    have many := r'.length
    refine call_tuple_list pl.isList (fun h' kp => ?_) (by simp only [List.size_toArray] <;> omega)
    have I1 : Inv X pins σ H { s with heap := h' } := I.kept (t' := s.toks) kp
    exact new_tup I1 hz r' q
  · obtain ⟨its, r', pl, hz⟩ := I.tuple hq
    exact call_tuple_same pl ⟨.ref p, H, I, rfl, q⟩
end DW
set_option Elab.async false
set_option linter.all false
set_option maxRecDepth 100000
namespace DW
open PySem PySem.Spec L2
abbrev Fg := PySem.W.Frag
/-- plain data: what a value stands for; hd: a value taken as it is (a handle, a def, a type) -/
inductive D where
  | non | bl (b : Bool) | int (i : Int) | str (x : Str)
  | tup (xs : List D) | lst (xs : List D)
  | pr (xs : List D)
  | obj (C : Addr) (ns : List Str) (ds : List D)
  | hd (v : V)
  | scr (ns : List Int)
/-- what stands at a handle's address: a list that may change, one that stands still, an instance in the making -/
inductive Cell where
  | lst (ds : List D) | frz (ds : List D) | ins (C : Addr) (ns : List Str) (ds : List D)
abbrev Sto := Addr → Option Cell
def sset (μ : Sto) (a : Addr) (c : Cell) : Sto := fun b => if b = a then some c else μ b
theorem sset_same {μ : Sto} {a : Addr} {c : Cell} : sset μ a c a = some c := by unfold sset; rw [if_pos rfl]
theorem sset_ne {μ : Sto} {a b : Addr} {c : Cell} (h : b ≠ a) : sset μ a c b = μ b := by unfold sset; rw [if_neg h]
theorem sset_sset {μ : Sto} {a : Addr} {c d : Cell} : sset (sset μ a c) a d = sset μ a d := by
  funext b; unfold sset; split <;> rfl
def still : Option Cell → Prop
  | some (.lst _) => False
  | some (.ins _ _ _) => False
  | _ => True
/-- nothing that may change stands at a -/
def NM (μ : Sto) (a : Addr) : Prop := still (μ a)
theorem NM.of {μ : Sto} {a : Addr} (h : μ a = none) : NM μ a := by unfold NM; rw [h]; exact trivial
theorem NM.frz {μ : Sto} {a : Addr} {ds : List D} (h : μ a = some (.frz ds)) : NM μ a := by unfold NM; rw [h]; exact trivial
theorem NM.notL {μ : Sto} {a : Addr} {ds : List D} (h : NM μ a) (q : μ a = some (.lst ds)) : False := by unfold NM at h; rw [q] at h; exact h
theorem NM.notI {μ : Sto} {a C : Addr} {ns : List Str} {ds : List D} (h : NM μ a) (q : μ a = some (.ins C ns ds)) : False := by unfold NM at h; rw [q] at h; exact h
def SqLw (K : Fg) (a : Addr) (xs : List V) : Prop :=
  ∃ (o : Obj) (its : Array Value) (n : Nat), K.lookup a = some o ∧ o.cls = .type "list" ∧ o.dict = none ∧ o.data = .seq its n ∧ its.size ≤ sizeLine ∧ Vals xs its.toList
def SqTw (K : Fg) (a : Addr) (xs : List V) : Prop :=
  ∃ (o : Obj) (its : Array Value) (n : Nat), K.lookup a = some o ∧ o.cls = .type "tuple" ∧ o.dict = none ∧ o.data = .seq its n ∧ its.size ≤ sizeLine ∧ Vals xs its.toList
def LstAt (μ : Sto) (H : Hp) (a : Addr) (xs : List V) : Prop := H a = some (.lst xs) ∧ NM μ a
def ScrAt (K : Fg) (μ : Sto) (H : Hp) (a : Addr) (xs : List V) : Prop := (Rd H a (.lst xs) ∧ NM μ a) ∨ SqLw K a xs
def TupAt (K : Fg) (μ : Sto) (H : Hp) (a : Addr) (xs : List V) : Prop := (∃ o : Obj, H a = some (.frz o (.tup xs)) ∧ o.dict = none ∧ o.cls = .type "tuple" ∧ NM μ a) ∨ SqTw K a xs
/-- a tuple that is taken apart at once -/
def PrAt (μ : Sto) (H : Hp) (a : Addr) (xs : List V) : Prop := Rd H a (.tup xs) ∧ NM μ a
theorem LstAt.sq {K : Fg} {μ : Sto} {H : Hp} {a : Addr} {xs : List V} (h : LstAt μ H a xs) : SqL K H a xs := .inl (.inl h.1)
theorem ScrAt.sq {K : Fg} {μ : Sto} {H : Hp} {a : Addr} {xs : List V} (h : ScrAt K μ H a xs) : SqL K H a xs := h.elim (fun q => .inl q.1) fun q => .inr q
theorem TupAt.sq {K : Fg} {μ : Sto} {H : Hp} {a : Addr} {xs : List V} (h : TupAt K μ H a xs) : SqT K H a xs := h.elim (fun ⟨o, q, _⟩ => .inl (.inr ⟨o, q⟩)) fun ⟨o, its, n, q1, q2, _, q3⟩ => .inr ⟨o, its, n, q1, q2, q3⟩
theorem PrAt.sq {K : Fg} {μ : Sto} {H : Hp} {a : Addr} {xs : List V} (h : PrAt μ H a xs) : SqT K H a xs := .inl h.1
/-- what values stand for what data -/
inductive Reps (K : Fg) (μ : Sto) (H : Hp) : List V → List D → Prop
  | nil : Reps K μ H [] []
  | non {vs ds} : Reps K μ H vs ds → Reps K μ H (.non :: vs) (.non :: ds)
  | bl {vs ds} (b : Bool) : Reps K μ H vs ds → Reps K μ H (.bl b :: vs) (.bl b :: ds)
  | int {vs ds} (i : Int) : Reps K μ H vs ds → Reps K μ H (.int i :: vs) (.int i :: ds)
  | str {vs ds} (x : Str) : Reps K μ H vs ds → Reps K μ H (.str x :: vs) (.str x :: ds)
  | hd {vs ds} (v : V) : Reps K μ H vs ds → Reps K μ H (v :: vs) (.hd v :: ds)
  | tup {vs ds a us es} : TupAt K μ H a us → Reps K μ H us es → Reps K μ H vs ds → Reps K μ H (.ref a :: vs) (.tup es :: ds)
  | pr {vs ds a us es} : PrAt μ H a us → Reps K μ H us es → Reps K μ H vs ds → Reps K μ H (.ref a :: vs) (.pr es :: ds)
  | scr {vs ds a ns} : ScrAt K μ H a (ns.map V.int) → Reps K μ H vs ds → Reps K μ H (.ref a :: vs) (.scr ns :: ds)
  | lst {vs ds a us es} : LstAt μ H a us → Reps K μ H us es → Reps K μ H vs ds → Reps K μ H (.ref a :: vs) (.lst es :: ds)
  | obj {vs ds a C dx ns us es} : H a = some (.ins C dx (ns.zip us)) → NM μ a → us.length = ns.length → Reps K μ H us es → Reps K μ H vs ds → Reps K μ H (.ref a :: vs) (.obj C ns es :: ds)
abbrev Rep (K : Fg) (μ : Sto) (H : Hp) (v : V) (d : D) : Prop := Reps K μ H [v] [d]
section
variable {K : Fg} {μ μ' μ'' : Sto} {H H' H'' : Hp} {v w : V} {d e : D} {vs us : List V} {ds es : List D}
theorem Reps.length (h : Reps K μ H vs ds) : vs.length = ds.length := by
  induction h <;> simp_all
theorem Reps.split (h : Reps K μ H (v :: vs) (d :: ds)) : Rep K μ H v d ∧ Reps K μ H vs ds := by
  cases h with
  | non r => exact ⟨.non .nil, r⟩
  | bl b r => exact ⟨.bl b .nil, r⟩
  | int i r => exact ⟨.int i .nil, r⟩
  | str x r => exact ⟨.str x .nil, r⟩
  | hd v r => exact ⟨.hd v .nil, r⟩
  | tup h1 h2 r => exact ⟨.tup h1 h2 .nil, r⟩
  | pr h1 h2 r => exact ⟨.pr h1 h2 .nil, r⟩
  | lst h1 h2 r => exact ⟨.lst h1 h2 .nil, r⟩
  | scr h1 r => exact ⟨.scr h1 .nil, r⟩
  | obj h1 h2 h3 h4 r => exact ⟨.obj h1 h2 h3 h4 .nil, r⟩
theorem Reps.cons (h : Rep K μ H v d) (r : Reps K μ H vs ds) : Reps K μ H (v :: vs) (d :: ds) := by
  cases h with
  | non _ => exact .non r
  | bl b _ => exact .bl b r
  | int i _ => exact .int i r
  | str x _ => exact .str x r
  | hd v _ => exact .hd v r
  | tup h1 h2 _ => exact .tup h1 h2 r
  | pr h1 h2 _ => exact .pr h1 h2 r
  | lst h1 h2 _ => exact .lst h1 h2 r
  | scr h1 _ => exact .scr h1 r
  | obj h1 h2 h3 h4 _ => exact .obj h1 h2 h3 h4 r
theorem Reps.get (h : Reps K μ H vs ds) : ∀ {i : Nat} {d : D}, ds[i]? = some d → ∃ v, vs[i]? = some v ∧ Rep K μ H v d := by
  intro i
  induction i generalizing vs ds with
  | zero =>
    intro d e
    cases ds with
    | nil => cases e
    | cons x r =>
      cases vs with
      | nil => have := h.length; simp at this
      | cons v vs =>
        cases e
        exact ⟨v, rfl, h.split.1⟩
  | succ i ih =>
    intro d e
    cases ds with
    | nil => cases e
    | cons x r =>
      cases vs with
      | nil => have := h.length; simp at this
      | cons v vs => exact ih h.split.2 e
theorem Reps.getV (h : Reps K μ H vs ds) {i : Nat} {v : V} (e : vs[i]? = some v) : ∃ d, ds[i]? = some d ∧ Rep K μ H v d := by
  have hi : i < ds.length := by rw [← h.length]; exact (List.getElem?_eq_some_iff.mp e).1
  obtain ⟨v', e', r⟩ := h.get (List.getElem?_eq_getElem hi)
  rw [e] at e'
  cases e'
  exact ⟨_, List.getElem?_eq_getElem hi, r⟩
theorem Reps.append (h : Reps K μ H vs ds) (r : Reps K μ H us es) : Reps K μ H (vs ++ us) (ds ++ es) := by
  induction vs generalizing ds with
  | nil => cases h; exact r
  | cons v vs ih =>
    cases ds with
    | nil => have := h.length; simp at this
    | cons d ds => exact .cons h.split.1 (ih h.split.2)
theorem Reps.take (h : Reps K μ H vs ds) : ∀ n, Reps K μ H (vs.take n) (ds.take n) := by
  intro n
  induction n generalizing vs ds with
  | zero => exact .nil
  | succ n ih =>
    cases ds with
    | nil =>
      cases vs with
      | nil => exact .nil
      | cons v vs => have := h.length; simp at this
    | cons d ds =>
      cases vs with
      | nil => have := h.length; simp at this
      | cons v vs => exact .cons h.split.1 (ih h.split.2)
theorem Reps.drop (h : Reps K μ H vs ds) : ∀ n, Reps K μ H (vs.drop n) (ds.drop n) := by
  intro n
  induction n generalizing vs ds with
  | zero => exact h
  | succ n ih =>
    cases ds with
    | nil =>
      cases vs with
      | nil => exact .nil
      | cons v vs => have := h.length; simp at this
    | cons d ds =>
      cases vs with
      | nil => have := h.length; simp at this
      | cons v vs => exact ih h.split.2
theorem Reps.set (h : Reps K μ H vs ds) (r : Rep K μ H v d) : ∀ j, Reps K μ H (vs.set j v) (ds.set j d) := by
  intro j
  induction j generalizing vs ds with
  | zero =>
    cases ds with
    | nil =>
      cases vs with
      | nil => exact .nil
      | cons v vs => have := h.length; simp at this
    | cons d ds =>
      cases vs with
      | nil => have := h.length; simp at this
      | cons v vs => exact .cons r h.split.2
  | succ n ih =>
    cases ds with
    | nil =>
      cases vs with
      | nil => exact .nil
      | cons v vs => have := h.length; simp at this
    | cons d ds =>
      cases vs with
      | nil => have := h.length; simp at this
      | cons v vs => exact .cons h.split.1 (ih h.split.2)
theorem Reps.reverse (h : Reps K μ H vs ds) : Reps K μ H vs.reverse ds.reverse := by
  induction vs generalizing ds with
  | nil => cases h; exact .nil
  | cons v vs ih =>
    cases ds with
    | nil => have := h.length; simp at this
    | cons d ds =>
      rw [List.reverse_cons, List.reverse_cons]
      exact (ih h.split.2).append (.cons h.split.1 .nil)
/-- all that stands still there, stands still here; nothing is gone -/
structure Evo (μ : Sto) (H : Hp) (μ' : Sto) (H' : Hp) : Prop where
  st : ∀ b o, H b = some o → NM μ b → H' b = some o ∧ NM μ' b
  th : ∀ b, H' b = none → H b = none
theorem Evo.refl : Evo μ H μ H := ⟨fun _ _ h n => ⟨h, n⟩, fun _ h => h⟩
theorem Evo.trans (a : Evo μ H μ' H') (b : Evo μ' H' μ'' H'') : Evo μ H μ'' H'' := ⟨fun c o h n => b.st c o (a.st c o h n).1 (a.st c o h n).2, fun c h => a.th c (b.th c h)⟩
theorem Evo.rd {a : Addr} {u : HO} (e : Evo μ H μ' H') (h : Rd H a u) (n : NM μ a) : Rd H' a u ∧ NM μ' a := by
  rcases h with h | ⟨o, h⟩
  · exact ⟨.inl (e.st a _ h n).1, (e.st a _ h n).2⟩
  · exact ⟨.inr ⟨o, (e.st a _ h n).1⟩, (e.st a _ h n).2⟩
theorem LstAt.mono {a : Addr} {xs : List V} (e : Evo μ H μ' H') (h : LstAt μ H a xs) : LstAt μ' H' a xs := e.st _ _ h.1 h.2
theorem ScrAt.mono {a : Addr} {xs : List V} (e : Evo μ H μ' H') (h : ScrAt K μ H a xs) : ScrAt K μ' H' a xs := by
  rcases h with ⟨h, n⟩ | h
  · exact .inl (e.rd h n)
  · exact .inr h
theorem TupAt.mono {a : Addr} {xs : List V} (e : Evo μ H μ' H') (h : TupAt K μ H a xs) : TupAt K μ' H' a xs := by
  rcases h with ⟨o, h, d, c, n⟩ | h
  · exact .inl ⟨o, (e.st a _ h n).1, d, c, (e.st a _ h n).2⟩
  · exact .inr h
theorem Reps.mono (e : Evo μ H μ' H') (h : Reps K μ H vs ds) : Reps K μ' H' vs ds := by
  induction h with
  | nil => exact .nil
  | non _ i => exact .non i
  | bl b _ i => exact .bl b i
  | int b _ i => exact .int b i
  | str b _ i => exact .str b i
  | hd b _ i => exact .hd b i
  | tup h1 _ _ i1 i2 => exact .tup (h1.mono e) i1 i2
  | pr h1 _ _ i1 i2 => exact .pr ⟨(e.rd h1.1 h1.2).1, (e.rd h1.1 h1.2).2⟩ i1 i2
  | lst h1 _ _ i1 i2 => exact .lst (h1.mono e) i1 i2
  | scr h1 _ i1 => exact .scr (h1.mono e) i1
  | obj h1 h2 h3 _ _ i1 i2 => exact .obj (e.st _ _ h1 h2).1 (e.st _ _ h1 h2).2 h3 i1 i2
/-- what is said of the handles holds of the heap -/
def CellOk (K : Fg) (μ : Sto) (H : Hp) (a : Addr) : Cell → Prop
  | .lst ds => ∃ vs, H a = some (.lst vs) ∧ Reps K μ H vs ds
  | .frz ds => ∃ vs, H a = some (.lst vs) ∧ Reps K μ H vs ds
  | .ins C ns ds => ∃ dx us, H a = some (.ins C dx (ns.zip us)) ∧ us.length = ns.length ∧ Reps K μ H us ds
def StoOk (K : Fg) (μ : Sto) (H : Hp) : Prop := ∀ a c, μ a = some c → CellOk K μ H a c
theorem CellOk.there {a : Addr} {c : Cell} (h : CellOk K μ H a c) : ∃ o, H a = some o := by
  cases c with
  | lst ds => obtain ⟨_, e, _⟩ := h; exact ⟨_, e⟩
  | frz ds => obtain ⟨_, e, _⟩ := h; exact ⟨_, e⟩
  | ins C ns ds => obtain ⟨_, _, e, _⟩ := h; exact ⟨_, e⟩
theorem StoOk.fresh {p : Addr} (s : StoOk K μ H) (h : H p = none) : μ p = none := by
  cases e : μ p with
  | none => rfl
  | some c =>
    obtain ⟨o, q⟩ := (s p c e).there
    rw [h] at q
    cases q
theorem CellOk.mono {a : Addr} {c : Cell} (e : Evo μ H μ' H') (hs : ∀ o, H a = some o → H' a = some o) (h : CellOk K μ H a c) : CellOk K μ' H' a c := by
  cases c with
  | lst ds => obtain ⟨vs, q, r⟩ := h; exact ⟨vs, hs _ q, r.mono e⟩
  | frz ds => obtain ⟨vs, q, r⟩ := h; exact ⟨vs, hs _ q, r.mono e⟩
  | ins C ns ds => obtain ⟨dx, us, q, l, r⟩ := h; exact ⟨dx, us, hs _ q, l, r.mono e⟩
/-- a new object -/
theorem upd_th {p : Addr} {o : HO} {b : Addr} (h : upd H p o b = none) : H b = none := by
  by_cases e : b = p
  · subst e; rw [upd_same] at h; cases h
  · rw [upd_ne e] at h; exact h
theorem Evo.new {p : Addr} {o : HO} (h : H p = none) : Evo μ H μ (upd H p o) := ⟨fun b u e n => ⟨by rw [upd_ne (ne_of_none e h)]; exact e, n⟩, fun b q => upd_th q⟩
theorem StoOk.new {p : Addr} {o : HO} (s : StoOk K μ H) (h : H p = none) : StoOk K μ (upd H p o) := fun a c e =>
  (s a c e).mono (.new h) fun u q => by rw [upd_ne (ne_of_none q h)]; exact q
theorem NM.new {p : Addr} (s : StoOk K μ H) (h : H p = none) : NM μ p := .of (s.fresh h)
/-- a new object that has a cell -/
theorem Evo.newC {p : Addr} {o : HO} {c : Cell} (s : StoOk K μ H) (h : H p = none) : Evo μ H (sset μ p c) (upd H p o) := ⟨fun b u e n => by
  have hb : b ≠ p := ne_of_none e h
  refine ⟨by rw [upd_ne hb]; exact e, ?_⟩
  unfold NM
  rw [sset_ne hb]
  exact n, fun b q => upd_th q⟩
/-- the cell at p changes; nothing else does -/
theorem Evo.cell {p : Addr} {o : HO} {c c' : Cell} (hp : μ p = some c) (hn : ¬ NM μ p) : Evo μ H (sset μ p c') (upd H p o) := ⟨fun b u e n => by
  have hb : b ≠ p := fun q => hn (q ▸ n)
  refine ⟨by rw [upd_ne hb]; exact e, ?_⟩
  unfold NM
  rw [sset_ne hb]
  exact n, fun b q => upd_th q⟩
theorem StoOk.cell {p : Addr} {o : HO} {c' : Cell} (s : StoOk K μ H) (e : Evo μ H (sset μ p c') (upd H p o)) (h : CellOk K (sset μ p c') (upd H p o) p c') : StoOk K (sset μ p c') (upd H p o) := fun a x q => by
  by_cases ha : a = p
  · subst ha
    rw [sset_same] at q
    cases q
    exact h
  · rw [sset_ne ha] at q
    exact (s a x q).mono e fun u z => by rw [upd_ne ha]; exact z
/-- fewer cells -/
def Sub (μ μ' : Sto) : Prop := ∀ a c, μ a = some c → μ' a = some c
theorem Sub.refl : Sub μ μ := fun _ _ h => h
theorem Sub.trans (a : Sub μ μ') (b : Sub μ' μ'') : Sub μ μ'' := fun c x h => b c x (a c x h)
theorem Sub.set {p : Addr} {c : Cell} (s : Sub μ μ') (h : μ p = none) : Sub μ (sset μ' p c) := fun a x e => by
  have : a ≠ p := fun q => by subst q; rw [h] at e; cases e
  rw [sset_ne this]
  exact s a x e
theorem Sub.none {p : Addr} (s : Sub μ μ') (h : μ' p = none) : μ p = none := by
  cases e : μ p with
  | none => rfl
  | some c => rw [s p c e] at h; cases h
theorem Sub.nm {a : Addr} (s : Sub μ μ') (h : NM μ' a) : NM μ a := by
  unfold NM at h ⊢
  cases e : μ a with
  | none => exact trivial
  | some c => rw [s a c e] at h; exact h
theorem Sub.evo (s : Sub μ' μ) : Evo μ H μ' H := ⟨fun b o e n => ⟨e, s.nm n⟩, fun _ q => q⟩
/-- without the cell at p -/
def sdel (μ : Sto) (p : Addr) : Sto := fun b => if b = p then none else μ b
theorem sdel_sub {p : Addr} : Sub (sdel μ p) μ := fun a c e => by
  unfold sdel at e
  split at e
  · cases e
  · exact e
theorem sdel_sset {p : Addr} {c : Cell} (h : μ p = none) : sdel (sset μ p c) p = μ := by
  funext b; unfold sdel sset; by_cases e : b = p
  · subst e; rw [if_pos rfl, h]
  · rw [if_neg e, if_neg e]
theorem sdel_same {p : Addr} : sdel μ p p = none := by unfold sdel; rw [if_pos rfl]
theorem Sub.sto (s : Sub μ' μ) (h : StoOk K μ H) : StoOk K μ' H := fun a c e => (h a c (s a c e)).mono s.evo fun _ z => z
/-- the names' values -/
abbrev DEnv := List (Option D)
structure EnvOk (K : Fg) (μ : Sto) (H : Hp) (σ : St) (δ : DEnv) : Prop where
  len : σ.length = δ.length
  at_ : ∀ (i : Nat) (d : D), δ[i]? = some (some d) → ∃ v, σ[i]? = some (some v) ∧ Rep K μ H v d
theorem EnvOk.mono {σ : St} {δ : DEnv} (e : Evo μ H μ' H') (h : EnvOk K μ H σ δ) : EnvOk K μ' H' σ δ := ⟨h.len, fun i d q => by
  obtain ⟨v, a, b⟩ := h.at_ i d q
  exact ⟨v, a, b.mono e⟩⟩
theorem EnvOk.set {σ : St} {δ : DEnv} (h : EnvOk K μ H σ δ) (r : Rep K μ H v d) (j : Nat) : EnvOk K μ H (σ.set j (some v)) (δ.set j (some d)) := ⟨by rw [List.length_set, List.length_set]; exact h.len, fun i x q => by
  rw [List.getElem?_set] at q
  rw [List.getElem?_set]
  by_cases hj : j = i
  · rw [if_pos hj] at q ⊢
    rw [h.len]
    by_cases hl : j < δ.length
    · rw [if_pos hl] at q ⊢
      cases q
      exact ⟨v, rfl, r⟩
    · rw [if_neg hl] at q
      cases q
  · rw [if_neg hj] at q ⊢
    exact h.at_ i x q⟩
/-- what is known where one stands -/
structure Sm (K : Fg) (H0 : Hp) (μ0 : Sto) (σ : St) (H : Hp) (δ : DEnv) (μ : Sto) : Prop where
  evo : Evo μ0 H0 μ H
  sto : StoOk K μ H
  env : EnvOk K μ H σ δ
theorem Sm.step {H0 : Hp} {μ0 : Sto} {σ : St} {δ : DEnv} (S : Sm K H0 μ0 σ H δ μ) (e : Evo μ H μ' H') (s : StoOk K μ' H') : Sm K H0 μ0 σ H' δ μ' := ⟨S.evo.trans e, s, S.env.mono e⟩
theorem Sm.set {H0 : Hp} {μ0 : Sto} {σ : St} {δ : DEnv} (S : Sm K H0 μ0 σ H δ μ) (r : Rep K μ H v d) (j : Nat) : Sm K H0 μ0 (σ.set j (some v)) H (δ.set j (some d)) μ := ⟨S.evo, S.sto, S.env.set r j⟩
end
end DW
set_option Elab.async false
set_option linter.all false
set_option maxRecDepth 100000
namespace DW
open PySem PySem.Spec L2
/-- an exception that is on its way: its class, its own fields -/
inductive XD where
  | mk (C : Addr) (fs : Option (List Str × List D))
abbrev XP := XD → DEnv → Sto → Prop
abbrev DK := D → Sto → Prop
def RepX (K : Fg) (μ : Sto) (H : Hp) (cls : Value) (dd : Option Addr) : XD → Prop
  | .mk C none => cls = .ref C ∧ dd = none
  | .mk C (some (ns, ds)) => cls = .ref C ∧ ∃ d us, dd = some d ∧ H d = some (.xd (ns.zip us)) ∧ NM μ d ∧ us.length = ns.length ∧ Reps K μ H us ds
/-- where a piece of code stands: the written part, the heap and the handles at the entry, what is wished of exceptions -/
structure Bx (K : Fg) where
  H0 : Hp
  μ0 : Sto
  W : WX
  Ψ : XP
  hW : ∀ cls dd σ H x δ μ, Sm K H0 μ0 σ H δ μ → RepX K μ H cls dd x → Ψ x δ μ → W cls dd σ H
/-- the same, from a later moment on -/
abbrev Bx.re {K : Fg} (B : Bx K) (H1 : Hp) (μ1 : Sto) (e : Evo B.μ0 B.H0 μ1 H1) : Bx K := ⟨H1, μ1, B.W, B.Ψ, fun cls dd σ H x δ μ S => B.hW cls dd σ H x δ μ ⟨e.trans S.evo, S.sto, S.env⟩⟩
abbrev DE := XP → DEnv → Sto → DK → Prop
abbrev DA := XP → DEnv → Sto → (List D → Sto → Prop) → Prop
abbrev DT := XP → DEnv → Sto → (Bool → Sto → Prop) → Prop
structure DEnds where
  nx : DEnv → Sto → Prop
  rt : D → Sto → Prop
  bk : DEnv → Sto → Prop
  ct : DEnv → Sto → Prop
abbrev DSt := XP → DEnds → DEnv → Sto → Prop
section
variable {K : Fg} (B : Bx K)
abbrev Bx.S {K : Fg} (B : Bx K) (σ : L2.St) (H : Hp) (δ : DEnv) (μ : Sto) : Prop := Sm K B.H0 B.μ0 σ H δ μ
/-- the reading te follows from the data's reading φ -/
def SE (te : TE) (φ : DE) : Prop := ∀ (σ : L2.St) (H : Hp) (δ : DEnv) (μ : Sto) (Φ : DK) (Q : VK), B.S σ H δ μ → φ B.Ψ δ μ Φ →
  (∀ v H' d μ', B.S σ H' δ μ' → Evo μ H μ' H' → Rep K μ' H' v d → Φ d μ' → Q v H') → te σ H Q
def SA (ta : TA) (φ : DA) : Prop := ∀ (σ : L2.St) (H : Hp) (δ : DEnv) (μ : Sto) (Φ : List D → Sto → Prop) (Q : List V → Hp → Prop), B.S σ H δ μ → φ B.Ψ δ μ Φ →
  (∀ vs H' ds μ', B.S σ H' δ μ' → Evo μ H μ' H' → Reps K μ' H' vs ds → Φ ds μ' → Q vs H') → ta σ H Q
def ST (tt : TT) (φ : DT) : Prop := ∀ (σ : L2.St) (H : Hp) (δ : DEnv) (μ : Sto) (Φ : Bool → Sto → Prop) (Q : Bool → Hp → Prop), B.S σ H δ μ → φ B.Ψ δ μ Φ →
  (∀ b H' μ', B.S σ H' δ μ' → Evo μ H μ' H' → Φ b μ' → Q b H') → tt σ H Q
structure EO (D : Ends) (Δ : DEnds) : Prop where
  nx : ∀ σ H δ μ, B.S σ H δ μ → Δ.nx δ μ → D.nx σ H
  rt : ∀ v H d μ σ δ, B.S σ H δ μ → Rep K μ H v d → Δ.rt d μ → D.rt v H
  bk : ∀ σ H δ μ, B.S σ H δ μ → Δ.bk δ μ → D.bk σ H
  ct : ∀ σ H δ μ, B.S σ H δ μ → Δ.ct δ μ → D.ct σ H
def SS (ts : TS) (φ : DSt) : Prop := ∀ (D : Ends) (Δ : DEnds) (σ : L2.St) (H : Hp) (δ : DEnv) (μ : Sto), EO B D Δ → B.S σ H δ μ → φ B.Ψ Δ δ μ → ts D σ H
end
section
variable {K : Fg} {B : Bx K} {te ta tb tc : TE} {φ φa φb φc : DE} {tt tu : TT} {θ ϑ : DT} {tas : TA} {ψ : DA} {ts tz : TS} {ω ζ : DSt}
def dVar (i : Nat) : DE := fun _ δ μ Φ => ∃ d, δ[i]? = some (some d) ∧ Φ d μ
theorem sVar {i : Nat} : SE B (tVar i) (dVar i) := fun σ H δ μ Φ Q S h k => by
  obtain ⟨d, e, h⟩ := h
  obtain ⟨v, ev, r⟩ := S.env.at_ i d e
  exact ⟨v, ev, k v H d μ S .refl r h⟩
/-- a name that holds a list's handle, read as the list: it changes no more -/
def dRest (i : Nat) : DE := fun _ δ μ Φ => ∃ a ds, δ[i]? = some (some (.hd (.ref a))) ∧ μ a = some (.lst ds) ∧ Φ (.lst ds) (sset μ a (.frz ds))
theorem Rep.hd_inv {K : Fg} {μ : Sto} {H : Hp} {v w : V} (h : Rep K μ H v (.hd w)) : v = w := by cases h; rfl
def dC (d : D) : DE := fun _ _ μ Φ => Φ d μ
theorem sC {v : V} {d : D} (r : ∀ K μ H, Rep K μ H v d) : SE B (tC v) (dC d) := fun σ H δ μ Φ Q S h k => k v H d μ S .refl (r _ _ _) h
theorem sInt {i : Int} : SE B (tC (.int i)) (dC (.int i)) := sC fun _ _ _ => .int i .nil
theorem sStr {x : Str} : SE B (tC (.str x)) (dC (.str x)) := sC fun _ _ _ => .str x .nil
theorem sBl {b : Bool} : SE B (tC (.bl b)) (dC (.bl b)) := sC fun _ _ _ => .bl b .nil
theorem sNon : SE B (tC .non) (dC .non) := sC fun _ _ _ => .non .nil
theorem sHd {v : V} : SE B (tC v) (dC (.hd v)) := sC fun _ _ _ => .hd v .nil
/-- an operator by data -/
abbrev DO := D → D → Sto → DK → Prop
def RO (K : Fg) (r : R2) (ρ : DO) : Prop := ∀ (H : Hp) (μ : Sto) (v w : V) (d e : D) (Φ : DK) (Q : VK), StoOk K μ H → Rep K μ H v d → Rep K μ H w e → ρ d e μ Φ →
  (∀ z H' c μ', Evo μ H μ' H' → StoOk K μ' H' → Rep K μ' H' z c → Φ c μ' → Q z H') → r v w H Q
def dOp (ρ : DO) (φa φb : DE) : DE := fun Ψ δ μ Φ => φa Ψ δ μ fun x μ1 => φb Ψ δ μ1 fun y μ2 => ρ x y μ2 Φ
theorem sOp {r : R2} {ρ : DO} (h : RO K r ρ) (a : SE B ta φa) (b : SE B tb φb) : SE B (tOp r ta tb) (dOp ρ φa φb) := fun σ H δ μ Φ Q S q k =>
  a σ H δ μ _ _ S q fun v H1 x μ1 S1 e1 r1 q1 => b σ H1 δ μ1 _ _ S1 q1 fun w H2 y μ2 S2 e2 r2 q2 =>
    h H2 μ2 v w x y Φ Q S2.sto (Reps.mono e2 r1) r2 q2 fun z H3 c μ3 e3 s3 r3 p => k z H3 c μ3 (S2.step e3 s3) ((e1.trans e2).trans e3) r3 p
abbrev DU := D → Sto → DK → Prop
def RU (K : Fg) (r : V → Hp → VK → Prop) (ρ : DU) : Prop := ∀ (H : Hp) (μ : Sto) (v : V) (d : D) (Φ : DK) (Q : VK), StoOk K μ H → Rep K μ H v d → ρ d μ Φ →
  (∀ z H' c μ', Evo μ H μ' H' → StoOk K μ' H' → Rep K μ' H' z c → Φ c μ' → Q z H') → r v H Q
def dUn (ρ : DU) (φa : DE) : DE := fun Ψ δ μ Φ => φa Ψ δ μ fun x μ1 => ρ x μ1 Φ
theorem sUn {r : V → Hp → VK → Prop} {ρ : DU} (h : RU K r ρ) (a : SE B ta φa) : SE B (tUn r ta) (dUn ρ φa) := fun σ H δ μ Φ Q S q k =>
  a σ H δ μ _ _ S q fun v H1 x μ1 S1 e1 r1 q1 => h H1 μ1 v x Φ Q S1.sto r1 q1 fun z H3 c μ3 e3 s3 r3 p => k z H3 c μ3 (S1.step e3 s3) (e1.trans e3) r3 p
def dTest (φ : DE) : DT := fun Ψ δ μ Φ => φ Ψ δ μ fun x μ1 => ∃ b, x = .bl b ∧ Φ b μ1
theorem Rep.bl_inv {K : Fg} {μ : Sto} {H : Hp} {v : V} {b : Bool} (h : Rep K μ H v (.bl b)) : v = .bl b := by cases h; rfl
theorem Rep.int_inv {K : Fg} {μ : Sto} {H : Hp} {v : V} {b : Int} (h : Rep K μ H v (.int b)) : v = .int b := by cases h; rfl
theorem Rep.non_inv {K : Fg} {μ : Sto} {H : Hp} {v : V} (h : Rep K μ H v .non) : v = .non := by cases h; rfl
theorem sTest (a : SE B ta φa) : ST B (tTest ta) (dTest φa) := fun σ H δ μ Φ Q S q k =>
  a σ H δ μ _ _ S q fun v H1 x μ1 S1 e1 r1 q1 => by
    obtain ⟨b, rfl, q2⟩ := q1
    obtain rfl := Rep.bl_inv r1
    exact ⟨b, rfl, k b H1 μ1 S1 e1 q2⟩
theorem sB (a : SE B ta φa) : ST B (tB ta) (dTest φa) := fun σ H δ μ Φ Q S q k =>
  a σ H δ μ _ _ S q fun v H1 x μ1 S1 e1 r1 q1 => by
    obtain ⟨b, rfl, q2⟩ := q1
    obtain rfl := Rep.bl_inv r1
    exact ⟨b, rfl, k b H1 μ1 S1 e1 q2⟩
def dAnd (θ ϑ : DT) : DT := fun Ψ δ μ Φ => θ Ψ δ μ fun b μ1 => (b = true → ϑ Ψ δ μ1 Φ) ∧ (b = false → Φ false μ1)
def dOr (θ ϑ : DT) : DT := fun Ψ δ μ Φ => θ Ψ δ μ fun b μ1 => (b = true → Φ true μ1) ∧ (b = false → ϑ Ψ δ μ1 Φ)
def dNot (θ : DT) : DT := fun Ψ δ μ Φ => θ Ψ δ μ fun b μ1 => Φ (!b) μ1
theorem sAnd (a : ST B tt θ) (b : ST B tu ϑ) : ST B (tAnd tt tu) (dAnd θ ϑ) := fun σ H δ μ Φ Q S q k =>
  a σ H δ μ _ _ S q fun v H1 μ1 S1 e1 q1 => by
    cases v with
    | true => exact b σ H1 δ μ1 _ _ S1 (q1.1 rfl) fun w H2 μ2 S2 e2 q2 => k w H2 μ2 S2 (e1.trans e2) q2
    | false => exact k false H1 μ1 S1 e1 (q1.2 rfl)
theorem sOr (a : ST B tt θ) (b : ST B tu ϑ) : ST B (tOr tt tu) (dOr θ ϑ) := fun σ H δ μ Φ Q S q k =>
  a σ H δ μ _ _ S q fun v H1 μ1 S1 e1 q1 => by
    cases v with
    | true => exact k true H1 μ1 S1 e1 (q1.1 rfl)
    | false => exact b σ H1 δ μ1 _ _ S1 (q1.2 rfl) fun w H2 μ2 S2 e2 q2 => k w H2 μ2 S2 (e1.trans e2) q2
theorem sNot (a : ST B tt θ) : ST B (tNot tt) (dNot θ) := fun σ H δ μ Φ Q S q k =>
  a σ H δ μ _ _ S q fun v H1 μ1 S1 e1 q1 => k (!v) H1 μ1 S1 e1 q1
def dAndV (φa φb : DE) : DE := fun Ψ δ μ Φ => φa Ψ δ μ fun x μ1 => ∃ b, x = .bl b ∧ (b = true → φb Ψ δ μ1 Φ) ∧ (b = false → Φ (.bl false) μ1)
def dOrV (φa φb : DE) : DE := fun Ψ δ μ Φ => φa Ψ δ μ fun x μ1 => ∃ b, x = .bl b ∧ (b = true → Φ (.bl true) μ1) ∧ (b = false → φb Ψ δ μ1 Φ)
def dNotV (φa : DE) : DE := fun Ψ δ μ Φ => φa Ψ δ μ fun x μ1 => ∃ b, x = .bl b ∧ Φ (.bl (!b)) μ1
theorem sAndV (a : SE B ta φa) (b : SE B tb φb) : SE B (tAndV ta tb) (dAndV φa φb) := fun σ H δ μ Φ Q S q k =>
  a σ H δ μ _ _ S q fun v H1 x μ1 S1 e1 r1 q1 => by
    obtain ⟨c, rfl, q2, q3⟩ := q1
    obtain rfl := Rep.bl_inv r1
    refine ⟨c, rfl, ?_⟩
    cases c with
    | true => exact b σ H1 δ μ1 _ _ S1 (q2 rfl) fun w H2 y μ2 S2 e2 r2 p => k w H2 y μ2 S2 (e1.trans e2) r2 p
    | false => exact k _ H1 _ μ1 S1 e1 (.bl false .nil) (q3 rfl)
theorem sNotV (a : SE B ta φa) : SE B (tNotV ta) (dNotV φa) := fun σ H δ μ Φ Q S q k =>
  a σ H δ μ _ _ S q fun v H1 x μ1 S1 e1 r1 q1 => by
    obtain ⟨c, rfl, q2⟩ := q1
    obtain rfl := Rep.bl_inv r1
    exact ⟨c, rfl, k _ H1 _ μ1 S1 e1 (.bl _ .nil) q2⟩
def dIf (θ : DT) (φa φb : DE) : DE := fun Ψ δ μ Φ => θ Ψ δ μ fun b μ1 => (b = true → φa Ψ δ μ1 Φ) ∧ (b = false → φb Ψ δ μ1 Φ)
/-- a comparison of three -/
def dChain (ρ ρ' : DO) (φa φb φc : DE) : DE := fun Ψ δ μ Φ => φa Ψ δ μ fun x μ1 => φb Ψ δ μ1 fun y μ2 => ρ x y μ2 fun z μ3 => ∃ b, z = .bl b ∧ (b = true → φc Ψ δ μ3 fun u μ4 => ρ' y u μ4 Φ) ∧ (b = false → Φ (.bl false) μ3)
def dNil : DA := fun _ _ μ Φ => Φ [] μ
def dCons (φ : DE) (ψ : DA) : DA := fun Ψ δ μ Φ => φ Ψ δ μ fun x μ1 => ψ Ψ δ μ1 fun xs μ2 => Φ (x :: xs) μ2
theorem sNil : SA B tNil dNil := fun σ H δ μ Φ Q S q k => k [] H [] μ S .refl .nil q
theorem sCons (a : SE B ta φa) (b : SA B tas ψ) : SA B (tCons ta tas) (dCons φa ψ) := fun σ H δ μ Φ Q S q k =>
  a σ H δ μ _ _ S q fun v H1 x μ1 S1 e1 r1 q1 => b σ H1 δ μ1 _ _ S1 q1 fun vs H2 xs μ2 S2 e2 r2 q2 => k _ H2 _ μ2 S2 (e1.trans e2) (.cons (Reps.mono e2 r1) r2) q2
def dTup (ψ : DA) : DE := fun Ψ δ μ Φ => ψ Ψ δ μ fun xs μ1 => xs.length ≤ 100000 ∧ Φ (.tup xs) μ1
theorem rep_tupN {K : Fg} {μ : Sto} {H : Hp} {p : Addr} {o : Obj} {vs : List V} {ds : List D} (s : StoOk K μ H) (hp : H p = none) (ho : o.dict = none) (hc : o.cls = .type "tuple") (r : Reps K μ H vs ds) : Rep K μ (upd H p (.frz o (.tup vs))) (.ref p) (.tup ds) :=
  .tup (.inl ⟨o, upd_same, ho, hc, .new s hp⟩) (r.mono (.new hp)) .nil
theorem rep_lst {K : Fg} {μ : Sto} {H : Hp} {p : Addr} {vs : List V} {ds : List D} (s : StoOk K μ H) (hp : H p = none) (r : Reps K μ H vs ds) : Rep K μ (upd H p (.lst vs)) (.ref p) (.lst ds) :=
  .lst ⟨upd_same, .new s hp⟩ (r.mono (.new hp)) .nil
theorem sz {n : Nat} (h : n ≤ 100000) : n ≤ sizeLine := Nat.le_trans h (by decide)
theorem sTup (b : SA B tas ψ) : SE B (tTupN tas) (dTup ψ) := fun σ H δ μ Φ Q S q k =>
  b σ H δ μ _ _ S q fun vs H1 xs μ1 S1 e1 r1 q1 => ⟨sz (by rw [r1.length]; exact q1.1), fun p o ho hc hp => k _ _ _ μ1 (S1.step (.new hp) (S1.sto.new hp)) (e1.trans (.new hp)) (rep_tupN S1.sto hp ho hc r1) q1.2⟩
def dLst (ψ : DA) : DE := fun Ψ δ μ Φ => ψ Ψ δ μ fun xs μ1 => xs.length ≤ 100000 ∧ Φ (.lst xs) μ1
theorem sLst (b : SA B tas ψ) : SE B (tLst tas) (dLst ψ) := fun σ H δ μ Φ Q S q k =>
  b σ H δ μ _ _ S q fun vs H1 xs μ1 S1 e1 r1 q1 => ⟨sz (by rw [r1.length]; exact q1.1), fun p hp => k _ _ _ μ1 (S1.step (.new hp) (S1.sto.new hp)) (e1.trans (.new hp)) (rep_lst S1.sto hp r1) q1.2⟩
/-- a list that will change: its handle -/
def dOwn (ψ : DA) : DE := fun Ψ δ μ Φ => ψ Ψ δ μ fun xs μ1 => xs.length ≤ 100000 ∧ ∀ p, μ1 p = none → Φ (.hd (.ref p)) (sset μ1 p (.lst xs))
theorem sto_own {K : Fg} {μ : Sto} {H : Hp} {p : Addr} {vs : List V} {ds : List D} (s : StoOk K μ H) (hp : H p = none) (r : Reps K μ H vs ds) : StoOk K (sset μ p (.lst ds)) (upd H p (.lst vs)) :=
  s.cell (.newC s hp) ⟨vs, upd_same, r.mono (.newC s hp)⟩
theorem sOwn (b : SA B tas ψ) : SE B (tLst tas) (dOwn ψ) := fun σ H δ μ Φ Q S q k =>
  b σ H δ μ _ _ S q fun vs H1 xs μ1 S1 e1 r1 q1 => ⟨sz (by rw [r1.length]; exact q1.1), fun p hp =>
    k _ _ _ _ (S1.step (.newC S1.sto hp) (sto_own S1.sto hp r1)) (e1.trans (.newC S1.sto hp)) (.hd _ .nil) (q1.2 p (S1.sto.fresh hp))⟩
def dSeq (ω ζ : DSt) : DSt := fun Ψ Δ δ μ => ω Ψ { Δ with nx := ζ Ψ Δ } δ μ
theorem sSeq (a : SS B ts ω) (b : SS B tz ζ) : SS B (tSeq ts tz) (dSeq ω ζ) := fun D Δ σ H δ μ E S q =>
  a { D with nx := tz D } { Δ with nx := ζ B.Ψ Δ } σ H δ μ ⟨fun σ' H' δ' μ' S' q' => b D Δ σ' H' δ' μ' E S' q', E.rt, E.bk, E.ct⟩ S q
def dNext : DSt := fun _ Δ δ μ => Δ.nx δ μ
theorem sNext : SS B tNext dNext := fun D Δ σ H δ μ E S q => E.nx σ H δ μ S q
def dBreak : DSt := fun _ Δ δ μ => Δ.bk δ μ
def dCont : DSt := fun _ Δ δ μ => Δ.ct δ μ
def dDrop (φ : DE) : DSt := fun Ψ Δ δ μ => φ Ψ δ μ fun _ μ1 => Δ.nx δ μ1
theorem sDrop (a : SE B ta φa) : SS B (tDrop ta) (dDrop φa) := fun D Δ σ H δ μ E S q => a σ H δ μ _ _ S q fun v H1 x μ1 S1 e1 r1 q1 => E.nx σ H1 δ μ1 S1 q1
def dRet (φ : DE) : DSt := fun Ψ Δ δ μ => φ Ψ δ μ Δ.rt
theorem sRet (a : SE B ta φa) : SS B (tRet ta) (dRet φa) := fun D Δ σ H δ μ E S q => a σ H δ μ _ _ S q fun v H1 x μ1 S1 e1 r1 q1 => E.rt v H1 x μ1 σ δ S1 r1 q1
def dRetN : DSt := fun _ Δ δ μ => Δ.rt .non μ
def dIfS (θ : DT) (ω ζ : DSt) : DSt := fun Ψ Δ δ μ => θ Ψ δ μ fun b μ1 => (b = true → ω Ψ Δ δ μ1) ∧ (b = false → ζ Ψ Δ δ μ1)
theorem sIfS (c : ST B tt θ) (a : SS B ts ω) (b : SS B tz ζ) : SS B (tIfS tt ts tz) (dIfS θ ω ζ) := fun D Δ σ H δ μ E S q =>
  c σ H δ μ _ _ S q fun v H1 μ1 S1 e1 q1 => by
    cases v with
    | true => exact a D Δ σ H1 δ μ1 E S1 (q1.1 rfl)
    | false => exact b D Δ σ H1 δ μ1 E S1 (q1.2 rfl)
/-- targets -/
abbrev DG := D → DEnv → Sto → (DEnv → Sto → Prop) → Prop
def SG {K : Fg} (B : Bx K) (g : TG) (γ : DG) : Prop := ∀ (v : V) (d : D) (σ : L2.St) (H : Hp) (δ : DEnv) (μ : Sto) (Φ : DEnv → Sto → Prop) (Q : L2.St → Hp → Prop), B.S σ H δ μ → Rep K μ H v d → γ d δ μ Φ →
  (∀ σ' H' δ' μ', B.S σ' H' δ' μ' → Evo μ H μ' H' → Φ δ' μ' → Q σ' H') → g v σ H Q
def eName (i : Nat) : DG := fun d δ μ Φ => Φ (δ.set i (some d)) μ
theorem sName {i : Nat} : SG B (gName i) (eName i) := fun v d σ H δ μ Φ Q S r q k => k _ H _ μ (S.set r i) .refl q
def eNil : List D → DEnv → Sto → (DEnv → Sto → Prop) → Prop := fun ds δ μ Φ => ds = [] ∧ Φ δ μ
def eCons (γ : DG) (η : List D → DEnv → Sto → (DEnv → Sto → Prop) → Prop) : List D → DEnv → Sto → (DEnv → Sto → Prop) → Prop := fun ds δ μ Φ => ∃ d r, ds = d :: r ∧ γ d δ μ fun δ' μ' => η r δ' μ' Φ
def tpl : D → Option (List D)
  | .tup ds => some ds
  | .pr ds => some ds
  | _ => none
def eTup (n : Nat) (η : List D → DEnv → Sto → (DEnv → Sto → Prop) → Prop) : DG := fun d δ μ Φ => ∃ ds, tpl d = some ds ∧ ds.length = n ∧ η ds δ μ Φ
theorem Rep.tup_inv {K : Fg} {μ : Sto} {H : Hp} {v : V} {ds : List D} (h : Rep K μ H v (.tup ds)) : ∃ a vs, v = .ref a ∧ TupAt K μ H a vs ∧ Reps K μ H vs ds := by
  cases h with
  | tup h1 h2 _ => exact ⟨_, _, rfl, h1, h2⟩
theorem Rep.lst_inv {K : Fg} {μ : Sto} {H : Hp} {v : V} {ds : List D} (h : Rep K μ H v (.lst ds)) : ∃ a vs, v = .ref a ∧ LstAt μ H a vs ∧ Reps K μ H vs ds := by
  cases h with
  | lst h1 h2 _ => exact ⟨_, _, rfl, h1, h2⟩
def dAsg (φ : DE) (γ : DG) : DSt := fun Ψ Δ δ μ => φ Ψ δ μ fun x μ1 => γ x δ μ1 Δ.nx
theorem sAsg {g : TG} {γ : DG} (a : SE B ta φa) (b : SG B g γ) : SS B (tAsg ta g) (dAsg φa γ) := fun D Δ σ H δ μ E S q =>
  a σ H δ μ _ _ S q fun v H1 x μ1 S1 e1 r1 q1 => b v x σ H1 δ μ1 _ _ S1 r1 q1 fun σ2 H2 δ2 μ2 S2 e2 q2 => E.nx σ2 H2 δ2 μ2 S2 q2
/-- x += e -/
def dAug (i : Nat) (φ : DE) (ρ : DO) : DSt := fun Ψ Δ δ μ => ∃ x, δ[i]? = some (some x) ∧ φ Ψ δ μ fun y μ1 => ρ x y μ1 fun z μ2 => Δ.nx (δ.set i (some z)) μ2
theorem sAug {i : Nat} {ip : TIp} {ρ : DO} (h : RO K ip ρ) (a : SE B ta φa) : SS B (tAug i ta ip) (dAug i φa ρ) := fun D Δ σ H δ μ E S q => by
  obtain ⟨x, ex, q⟩ := q
  obtain ⟨v, ev, rv⟩ := S.env.at_ i x ex
  exact ⟨v, ev, a σ H δ μ _ _ S q fun w H1 y μ1 S1 e1 r1 q1 => h H1 μ1 v w x y _ _ S1.sto (Reps.mono e1 rv) r1 q1 fun z H2 c μ2 e2 s2 r2 q2 => E.nx _ _ _ _ ((S1.step e2 s2).set r2 i) q2⟩
/-- while, by a word and a number that falls -/
def dWhile (θ : DT) (ω : DSt) : DSt := fun Ψ Δ δ μ => ∃ W : Nat → DEnv → Sto → Prop, (∃ m, W m δ μ) ∧ ∀ m δ μ, W m δ μ → θ Ψ δ μ fun b μ1 =>
  (b = true → ω Ψ { Δ with nx := fun δ' μ' => ∃ m', m' < m ∧ W m' δ' μ', ct := fun δ' μ' => ∃ m', m' < m ∧ W m' δ' μ', bk := Δ.nx } δ μ1) ∧ (b = false → Δ.nx δ μ1)
theorem sWhile (c : ST B tt θ) (a : SS B ts ω) : SS B (tWhile tt ts) (dWhile θ ω) := fun D Δ σ H δ μ E S q => by
  obtain ⟨W, ⟨m0, w0⟩, q⟩ := q
  refine ⟨fun m σ H => ∃ δ μ, B.S σ H δ μ ∧ W m δ μ, ⟨m0, δ, μ, S, w0⟩, fun m σ1 H1 ⟨δ1, μ1, S1, w1⟩ => ?_⟩
  refine c σ1 H1 δ1 μ1 _ _ S1 (q m δ1 μ1 w1) fun b H2 μ2 S2 e2 q2 => ?_
  cases b with
  | true =>
    refine ⟨fun σ' H' => ∃ δ' μ', B.S σ' H' δ' μ' ∧ ∃ m', m' < m ∧ W m' δ' μ', fun σ' H' ⟨δ', μ', S', m', hm, w'⟩ => ⟨m', hm, δ', μ', S', w'⟩, ?_⟩
    exact a _ { Δ with nx := fun δ' μ' => ∃ m', m' < m ∧ W m' δ' μ', ct := fun δ' μ' => ∃ m', m' < m ∧ W m' δ' μ', bk := Δ.nx } σ1 H2 δ1 μ2 ⟨fun σ' H' δ' μ' S' q' => ⟨δ', μ', S', q'⟩, E.rt, E.nx, fun σ' H' δ' μ' S' q' => ⟨δ', μ', S', q'⟩⟩ S2 (q2.1 rfl)
  | false => exact E.nx _ _ _ _ S2 (q2.2 rfl)
end
end DW
set_option Elab.async false
set_option linter.all false
set_option maxRecDepth 100000
namespace DW
open PySem PySem.Spec L2
section
variable {K : Fg}
def oI (C : Int → Int → Prop) (g : Int → Int → D) : DO := fun x y μ Φ => ∃ i j, x = .int i ∧ y = .int j ∧ C i j ∧ Φ (g i j) μ
def oI0 (g : Int → Int → D) : DO := fun x y μ Φ => ∃ i j, x = .int i ∧ y = .int j ∧ Φ (g i j) μ
theorem roI {C : Int → Int → Prop} {g : Int → Int → V} {g' : Int → Int → D} (hg : ∀ i j μ H, Rep K μ H (g i j) (g' i j)) : RO K (rI C g) (oI C g') := fun H μ v w d e Φ Q s r1 r2 q k => by
  obtain ⟨i, j, rfl, rfl, hc, q⟩ := q
  exact ⟨i, j, Rep.int_inv r1, Rep.int_inv r2, hc, k _ H _ μ .refl s (hg i j μ H) q⟩
theorem roI0 {g : Int → Int → V} {g' : Int → Int → D} (hg : ∀ i j μ H, Rep K μ H (g i j) (g' i j)) : RO K (rI0 g) (oI0 g') := fun H μ v w d e Φ Q s r1 r2 q k => by
  obtain ⟨i, j, rfl, rfl, q⟩ := q
  exact ⟨i, j, Rep.int_inv r1, Rep.int_inv r2, k _ H _ μ .refl s (hg i j μ H) q⟩
theorem roInt {C : Int → Int → Prop} {g : Int → Int → Int} : RO K (rI C fun i j => .int (g i j)) (oI C fun i j => .int (g i j)) := roI fun _ _ _ _ => .int _ .nil
theorem roInt0 {g : Int → Int → Int} : RO K (rI0 fun i j => .int (g i j)) (oI0 fun i j => .int (g i j)) := roI0 fun _ _ _ _ => .int _ .nil
theorem roBl0 {g : Int → Int → Bool} : RO K (rI0 fun i j => .bl (g i j)) (oI0 fun i j => .bl (g i j)) := roI0 fun _ _ _ _ => .bl _ .nil
theorem roIp {g : Int → Int → Int} : RO K (ipI g) (oI0 fun i j => .int (g i j)) := fun H μ v w d e Φ Q s r1 r2 q k => by
  obtain ⟨i, j, rfl, rfl, q⟩ := q
  exact ⟨i, j, Rep.int_inv r1, Rep.int_inv r2, k _ H _ μ .refl s (.int _ .nil) q⟩
def uI (g : Int → Int) : DU := fun x μ Φ => ∃ i, x = .int i ∧ Φ (.int (g i)) μ
theorem ruInt {g : Int → Int} : RU K (rU fun i => .int (g i)) (uI g) := fun H μ v d Φ Q s r q k => by
  obtain ⟨i, rfl, q⟩ := q
  exact ⟨i, Rep.int_inv r, k _ H _ μ .refl s (.int _ .nil) q⟩
def sEq : D → D → Option Bool
  | .int i, .int j => some (decide (i = j))
  | .str i, .str j => some (decide (i = j))
  | .bl i, .bl j => some (decide (i = j))
  | .non, .non => some true
  | .non, .int _ => some false
  | .int _, .non => some false
  | .non, .bl _ => some false
  | .bl _, .non => some false
  | .non, .str _ => some false
  | .str _, .non => some false
  | .int _, .str _ => some false
  | .str _, .int _ => some false
  | .bl _, .str _ => some false
  | .str _, .bl _ => some false
  | _, _ => none
theorem sEq_ok {μ : Sto} {H : Hp} {v w : V} {d e : D} {b : Bool} (r1 : Rep K μ H v d) (r2 : Rep K μ H w e) (h : sEq d e = some b) : scal v w = true ∧ decide (v = w) = b := by
  cases d <;> cases e <;> (first | (unfold sEq at h; cases h; done) | skip) <;> cases r1 <;> cases r2 <;> (injection h with h; subst h; first | exact ⟨rfl, by simp⟩ | exact ⟨rfl, rfl⟩)
def oEq : DO := fun x y μ Φ => ∃ b, sEq x y = some b ∧ Φ (.bl b) μ
def oNe : DO := fun x y μ Φ => ∃ b, sEq x y = some b ∧ Φ (.bl (!b)) μ
theorem roEq : RO K rEq oEq := fun H μ v w d e Φ Q s r1 r2 q k => by
  obtain ⟨b, hb, q⟩ := q
  obtain ⟨h1, h2⟩ := sEq_ok r1 r2 hb
  exact ⟨h1, by rw [h2]; exact k _ H _ μ .refl s (.bl _ .nil) q⟩
theorem roNe : RO K rNe oNe := fun H μ v w d e Φ Q s r1 r2 q k => by
  obtain ⟨b, hb, q⟩ := q
  obtain ⟨h1, h2⟩ := sEq_ok r1 r2 hb
  exact ⟨h1, by rw [h2]; exact k _ H _ μ .refl s (.bl _ .nil) q⟩
def isNone : D → Option Bool
  | .non => some true
  | .bl _ => some false
  | .int _ => some false
  | .str _ => some false
  | .tup _ => some false
  | .lst _ => some false
  | .obj _ _ _ => some false
  | _ => none
theorem isNone_ok {μ : Sto} {H : Hp} {v : V} {d : D} {b : Bool} (r1 : Rep K μ H v d) (h : isNone d = some b) : decide (v = .non) = b := by
  cases d <;> unfold isNone at h <;> first | (cases h; done) | (cases h; cases r1; rfl) | (cases h; cases r1; simp)
def oIsN : DO := fun x y μ Φ => y = .non ∧ ∃ b, isNone x = some b ∧ Φ (.bl b) μ
def oNotN : DO := fun x y μ Φ => y = .non ∧ ∃ b, isNone x = some b ∧ Φ (.bl (!b)) μ
theorem roIsN : RO K (fun x y H Q => y = .non ∧ Q (.bl (decide (x = .non))) H) oIsN := fun H μ v w d e Φ Q s r1 r2 q k => by
  obtain ⟨rfl, b, hb, q⟩ := q
  exact ⟨Rep.non_inv r2, by rw [isNone_ok r1 hb]; exact k _ H _ μ .refl s (.bl _ .nil) q⟩
def flatD : D → Bool
  | .non => true
  | .bl _ => true
  | .int _ => true
  | .str _ => true
  | _ => false
def eqF : D → D → Bool
  | .non, .non => true
  | .bl a, .bl b => a == b
  | .bl a, .int b => (if a then 1 else 0) == b
  | .int a, .bl b => a == (if b then 1 else 0)
  | .int a, .int b => a == b
  | .str a, .str b => a == b
  | _, _ => false
/-- the items of a tuple, of a list, of a handle's list -/
inductive Items (μ : Sto) : D → List D → Prop
  | tup (ds) : Items μ (.tup ds) ds
  | lst (ds) : Items μ (.lst ds) ds
  | own {a ds} : μ a = some (.lst ds) → Items μ (.hd (.ref a)) ds
  | frz {a ds} : μ a = some (.frz ds) → Items μ (.hd (.ref a)) ds
  | scr (ns) : Items μ (.scr ns) (ns.map .int)
theorem reps_ints {μ : Sto} {H : Hp} : ∀ (ns : List Int), Reps K μ H (ns.map V.int) (ns.map D.int)
  | [] => .nil
  | n :: ns => .int n (reps_ints ns)
theorem Items.ok {μ : Sto} {H : Hp} {v : V} {d : D} {ds : List D} (s : StoOk K μ H) (r : Rep K μ H v d) (h : Items μ d ds) : ∃ a vs, v = .ref a ∧ (SqL K H a vs ∨ SqT K H a vs) ∧ Reps K μ H vs ds := by
  cases h with
  | tup => obtain ⟨a, vs, rfl, h1, h2⟩ := Rep.tup_inv r; exact ⟨a, vs, rfl, .inr h1.sq, h2⟩
  | lst => obtain ⟨a, vs, rfl, h1, h2⟩ := Rep.lst_inv r; exact ⟨a, vs, rfl, .inl h1.sq, h2⟩
  | own h => obtain rfl := Rep.hd_inv r; obtain ⟨vs, h1, h2⟩ := s _ _ h; exact ⟨_, vs, rfl, .inl (.of h1), h2⟩
  | frz h => obtain rfl := Rep.hd_inv r; obtain ⟨vs, h1, h2⟩ := s _ _ h; exact ⟨_, vs, rfl, .inl (.of h1), h2⟩
  | scr ns =>
    cases r with
    | scr h1 _ => exact ⟨_, _, rfl, .inl h1.sq, reps_ints ns⟩
theorem atI_reps {μ : Sto} {H : Hp} {vs : List V} {ds : List D} (r : Reps K μ H vs ds) {i : Int} {d : D} (h : atI ds i = some d) : ∃ v, atI vs i = some v ∧ Rep K μ H v d := by
  unfold atI at h ⊢
  rw [r.length]
  cases e : ixN ds.length i with
  | none => rw [e] at h; cases h
  | some j => rw [e] at h; exact r.get h
def isTup : D → Bool
  | .tup _ => true
  | _ => false
def oIxT : DO := fun x y μ Φ => ∃ ds i d, x = .tup ds ∧ y = .int i ∧ atI ds i = some d ∧ Φ d μ
theorem roIxT : RO K (rIxT K) oIxT := fun H μ v w d e Φ Q s r1 r2 q k => by
  obtain ⟨ds, i, c, rfl, rfl, hi, q⟩ := q
  obtain ⟨a, vs, rfl, h1, h2⟩ := Rep.tup_inv r1
  obtain ⟨z, hz, rz⟩ := atI_reps h2 hi
  exact ⟨a, vs, i, z, rfl, Rep.int_inv r2, h1.sq, hz, k _ H _ μ .refl s rz q⟩
def oIxL : DO := fun x y μ Φ => ∃ ds i d, Items μ x ds ∧ isTup x = false ∧ y = .int i ∧ atI ds i = some d ∧ Φ d μ
theorem Items.okL {μ : Sto} {H : Hp} {v : V} {d : D} {ds : List D} (s : StoOk K μ H) (r : Rep K μ H v d) (h : Items μ d ds) (n : isTup d = false) : ∃ a vs, v = .ref a ∧ SqL K H a vs ∧ Reps K μ H vs ds := by
  cases h with
  | tup => cases n
  | lst => obtain ⟨a, vs, rfl, h1, h2⟩ := Rep.lst_inv r; exact ⟨a, vs, rfl, h1.sq, h2⟩
  | own h => obtain rfl := Rep.hd_inv r; obtain ⟨vs, h1, h2⟩ := s _ _ h; exact ⟨_, vs, rfl, .of h1, h2⟩
  | frz h => obtain rfl := Rep.hd_inv r; obtain ⟨vs, h1, h2⟩ := s _ _ h; exact ⟨_, vs, rfl, .of h1, h2⟩
  | scr ns =>
    cases r with
    | scr h1 _ => exact ⟨_, _, rfl, h1.sq, reps_ints ns⟩
theorem roIxL : RO K (rIxL K) oIxL := fun H μ v w d e Φ Q s r1 r2 q k => by
  obtain ⟨ds, i, c, hi, hn, rfl, ha, q⟩ := q
  obtain ⟨a, vs, rfl, h1, h2⟩ := hi.okL s r1 hn
  obtain ⟨z, hz, rz⟩ := atI_reps h2 ha
  exact ⟨a, vs, i, z, rfl, Rep.int_inv r2, h1, hz, k _ H _ μ .refl s rz q⟩
/-- t + u, tuples -/
def oCatT : DO := fun x y μ Φ => ∃ xs ys, x = .tup xs ∧ y = .tup ys ∧ xs.length + ys.length ≤ 100000 ∧ Φ (.tup (xs ++ ys)) μ
theorem roCatT : RO K (rCatN K) oCatT := fun H μ v w d e Φ Q s r1 r2 q k => by
  obtain ⟨xs, ys, rfl, rfl, hz, q⟩ := q
  obtain ⟨a, vs, rfl, h1, h2⟩ := Rep.tup_inv r1
  obtain ⟨b, us, rfl, h3, h4⟩ := Rep.tup_inv r2
  refine ⟨a, b, vs, us, rfl, rfl, h1.sq, h3.sq, sz (by rw [h2.length, h4.length]; exact hz), fun e => ?_, fun _ e => ?_, fun _ _ p o ho hc hp => ?_⟩
  · subst e
    have ex : xs = [] := List.eq_nil_of_length_eq_zero (by rw [← h2.length]; rfl)
    subst ex
    exact k _ H _ μ .refl s r2 q
  · subst e
    have ex : ys = [] := List.eq_nil_of_length_eq_zero (by rw [← h4.length]; rfl)
    subst ex
    rw [List.append_nil] at q
    exact k _ H _ μ .refl s r1 q
  · exact k _ _ _ μ (.new hp) (s.new hp) (rep_tupN s hp ho hc (h2.append h4)) q
/-- xs + ys, lists -/
def oCatL : DO := fun x y μ Φ => ∃ xs ys, x = .lst xs ∧ y = .lst ys ∧ xs.length + ys.length ≤ 100000 ∧ Φ (.lst (xs ++ ys)) μ
/-- t * k for k of two or more -/
theorem reps_rep {μ : Sto} {H : Hp} {vs : List V} {ds : List D} (r : Reps K μ H vs ds) : ∀ n, Reps K μ H (List.replicate n vs).flatten (List.replicate n ds).flatten
  | 0 => .nil
  | n + 1 => by
    rw [List.replicate_succ, List.replicate_succ, List.flatten_cons, List.flatten_cons]
    exact r.append (reps_rep r n)
def dNoPart : XP → DEnv → Sto → (Option Int → Sto → Prop) → Prop := fun _ _ μ Φ => Φ none μ
def dPart (φ : DE) : XP → DEnv → Sto → (Option Int → Sto → Prop) → Prop := fun Ψ δ μ Φ => φ Ψ δ μ fun x μ1 => ∃ i, x = .int i ∧ Φ (some i) μ1
def SO (B : Bx K) (to : TO) (φ : XP → DEnv → Sto → (Option Int → Sto → Prop) → Prop) : Prop := ∀ (σ : L2.St) (H : Hp) (δ : DEnv) (μ : Sto) (Φ : Option Int → Sto → Prop) (Q : Option Int → Hp → Prop), B.S σ H δ μ → φ B.Ψ δ μ Φ →
  (∀ o H' μ', B.S σ H' δ μ' → Evo μ H μ' H' → Φ o μ' → Q o H') → to σ H Q
theorem sNoPart {B : Bx K} : SO B tNoPart dNoPart := fun σ H δ μ Φ Q S q k => k none H μ S .refl q
theorem sPart {B : Bx K} {te : TE} {φ : DE} (a : SE B te φ) : SO B (tPart te) (dPart φ) := fun σ H δ μ Φ Q S q k =>
  a σ H δ μ _ _ S q fun v H1 x μ1 S1 e1 r1 q1 => by
    obtain ⟨i, rfl, q2⟩ := q1
    obtain rfl := Rep.int_inv r1
    exact ⟨i, rfl, k (some i) H1 μ1 S1 e1 q2⟩
def cutD (xs : List D) (lo hi : Option Int) : List D := (xs.drop (HT.sIx xs.length 0 lo)).take (HT.sIx xs.length xs.length hi - HT.sIx xs.length 0 lo)
theorem cut_reps {μ : Sto} {H : Hp} {vs : List V} {ds : List D} (r : Reps K μ H vs ds) (lo hi : Option Int) : Reps K μ H (cutV vs lo hi) (cutD ds lo hi) := by
  unfold cutV cutD
  rw [r.length]
  exact (r.drop _).take _
def dSlT (φ : DE) (ol oh : XP → DEnv → Sto → (Option Int → Sto → Prop) → Prop) : DE := fun Ψ δ μ Φ => φ Ψ δ μ fun x μ1 => ol Ψ δ μ1 fun lo μ2 => oh Ψ δ μ2 fun hi μ3 => ∃ ds, x = .tup ds ∧ Φ (.tup (cutD ds lo hi)) μ3
theorem cutD_whole {ds : List D} {lo hi : Option Int} (h : HT.sIx ds.length 0 lo = 0 ∧ HT.sIx ds.length ds.length hi = ds.length) : cutD ds lo hi = ds := by
  unfold cutD
  rw [h.1, h.2, List.drop_zero, Nat.sub_zero, List.take_length]
theorem sSlT {B : Bx K} {te : TE} {tl th : TO} {φ : DE} {ol oh : XP → DEnv → Sto → (Option Int → Sto → Prop) → Prop} (a : SE B te φ) (b : SO B tl ol) (c : SO B th oh) : SE B (tSl (rSlN K) te tl th) (dSlT φ ol oh) := fun σ H δ μ Φ Q S q k =>
  a σ H δ μ _ _ S q fun v H1 x μ1 S1 e1 r1 q1 => b σ H1 δ μ1 _ _ S1 q1 fun lo H2 μ2 S2 e2 q2 => c σ H2 δ μ2 _ _ S2 q2 fun hi H3 μ3 S3 e3 q3 => by
    obtain ⟨ds, rfl, q3⟩ := q3
    obtain ⟨p, vs, rfl, h1, h2⟩ := Rep.tup_inv ((r1.mono e2).mono e3)
    refine ⟨p, vs, rfl, h1.sq, fun w => ?_, fun w o ob hd hc ho => ?_⟩
    · rw [h2.length] at w
      rw [cutD_whole w] at q3
      exact k _ H3 _ μ3 S3 ((e1.trans e2).trans e3) (.tup h1 h2 .nil) q3
    · exact k _ _ _ μ3 (S3.step (.new ho) (S3.sto.new ho)) (((e1.trans e2).trans e3).trans (.new ho)) (rep_tupN S3.sto ho hd hc (cut_reps h2 lo hi)) q3
def dSlL (φ : DE) (ol oh : XP → DEnv → Sto → (Option Int → Sto → Prop) → Prop) : DE := fun Ψ δ μ Φ => φ Ψ δ μ fun x μ1 => ol Ψ δ μ1 fun lo μ2 => oh Ψ δ μ2 fun hi μ3 => ∃ ds, Items μ3 x ds ∧ isTup x = false ∧ Φ (.lst (cutD ds lo hi)) μ3
/-- xs[::-1], lists -/
def dRevL (φ : DE) : DE := fun Ψ δ μ Φ => φ Ψ δ μ fun x μ1 => ∃ ds, Items μ1 x ds ∧ isTup x = false ∧ Φ (.lst ds.reverse) μ1
abbrev DC := List D → Sto → DK → Prop
def RC (K : Fg) (r : List V → Hp → VK → Prop) (ρ : DC) : Prop := ∀ (H : Hp) (μ : Sto) (vs : List V) (ds : List D) (Φ : DK) (Q : VK), StoOk K μ H → Reps K μ H vs ds → ρ ds μ Φ →
  (∀ z H' c μ', Evo μ H μ' H' → StoOk K μ' H' → Rep K μ' H' z c → Φ c μ' → Q z H') → r vs H Q
def dCB (ρ : DC) (ψ : DA) : DE := fun Ψ δ μ Φ => ψ Ψ δ μ fun xs μ1 => ρ xs μ1 Φ
theorem sCB {B : Bx K} {r : List V → Hp → VK → Prop} {ρ : DC} {tas : TA} {ψ : DA} (h : RC K r ρ) (a : SA B tas ψ) : SE B (tCB r tas) (dCB ρ ψ) := fun σ H δ μ Φ Q S q k =>
  a σ H δ μ _ _ S q fun vs H1 xs μ1 S1 e1 r1 q1 => h H1 μ1 vs xs Φ Q S1.sto r1 q1 fun z H3 c μ3 e3 s3 r3 p => k z H3 c μ3 (S1.step e3 s3) (e1.trans e3) r3 p
theorem reps1 {μ : Sto} {H : Hp} {vs : List V} {d : D} (r : Reps K μ H vs [d]) : ∃ v, vs = [v] ∧ Rep K μ H v d := by
  cases vs with
  | nil => have := r.length; simp at this
  | cons v vs =>
    cases vs with
    | nil => exact ⟨v, rfl, r⟩
    | cons w vs => have := r.length; simp at this
theorem reps2 {μ : Sto} {H : Hp} {vs : List V} {d e : D} (r : Reps K μ H vs [d, e]) : ∃ v w, vs = [v, w] ∧ Rep K μ H v d ∧ Rep K μ H w e := by
  cases vs with
  | nil => have := r.length; simp at this
  | cons v vs =>
    obtain ⟨w, rfl, r2⟩ := reps1 r.split.2
    exact ⟨v, w, rfl, r.split.1, r2⟩
def cLen : DC := fun xs μ Φ => ∃ x ds, xs = [x] ∧ Items μ x ds ∧ Φ (.int ds.length) μ
theorem rcLen : RC K (fun xs H Q => ∃ p ys, xs = [.ref p] ∧ (SqL K H p ys ∨ SqT K H p ys) ∧ Q (.int ys.length) H) cLen := fun H μ vs ds Φ Q s r q k => by
  obtain ⟨x, es, rfl, hi, q⟩ := q
  obtain ⟨v, rfl, r⟩ := reps1 r
  obtain ⟨a, us, rfl, h1, h2⟩ := hi.ok s r
  refine ⟨a, us, rfl, h1, ?_⟩
  rw [h2.length]
  exact k _ H _ μ .refl s (.int _ .nil) q
/-- list(..) of a list or tuple -/
def cList : DC := fun xs μ Φ => ∃ x ds, xs = [x] ∧ Items μ x ds ∧ Φ (.lst ds) μ
theorem rcList : RC K (fun xs H Q => ∃ p ys, xs = [.ref p] ∧ (SqL K H p ys ∨ SqT K H p ys) ∧ ∀ l, H l = none → Q (.ref l) (upd H l (.lst ys))) cList := fun H μ vs ds Φ Q s r q k => by
  obtain ⟨x, es, rfl, hi, q⟩ := q
  obtain ⟨v, rfl, r⟩ := reps1 r
  obtain ⟨a, us, rfl, h1, h2⟩ := hi.ok s r
  exact ⟨a, us, rfl, h1, fun p hp => k _ _ _ μ (.new hp) (s.new hp) (rep_lst s hp h2) q⟩
/-- the same, a handle -/
def cListOwn : DC := fun xs μ Φ => ∃ x ds, xs = [x] ∧ Items μ x ds ∧ ∀ p, μ p = none → Φ (.hd (.ref p)) (sset μ p (.lst ds))
def cTuple : DC := fun xs μ Φ => ∃ x ds, xs = [x] ∧ Items μ x ds ∧ Φ (.tup ds) μ
theorem rcTuple : RC K (fun xs H Q => ∃ p ys, xs = [.ref p] ∧ ((SqL K H p ys ∧ NewT H ys Q) ∨ (SqT K H p ys ∧ Q (.ref p) H))) cTuple := fun H μ vs ds Φ Q s r q k => by
  obtain ⟨x, es, rfl, hi, q⟩ := q
  obtain ⟨v, rfl, r⟩ := reps1 r
  cases hi with
  | tup => obtain ⟨a, us, rfl, h1, h2⟩ := Rep.tup_inv r; exact ⟨a, us, rfl, .inr ⟨h1.sq, k _ H _ μ .refl s r q⟩⟩
  | lst => obtain ⟨a, us, rfl, h1, h2⟩ := (Items.lst es).okL s r rfl; exact ⟨a, us, rfl, .inl ⟨h1, fun p o ho hc hp => k _ _ _ μ (.new hp) (s.new hp) (rep_tupN s hp ho hc h2) q⟩⟩
  | own h => obtain ⟨a, us, rfl, h1, h2⟩ := (Items.own h).okL s r rfl; exact ⟨a, us, rfl, .inl ⟨h1, fun p o ho hc hp => k _ _ _ μ (.new hp) (s.new hp) (rep_tupN s hp ho hc h2) q⟩⟩
  | frz h => obtain ⟨a, us, rfl, h1, h2⟩ := (Items.frz h).okL s r rfl; exact ⟨a, us, rfl, .inl ⟨h1, fun p o ho hc hp => k _ _ _ μ (.new hp) (s.new hp) (rep_tupN s hp ho hc h2) q⟩⟩
  | scr ns => obtain ⟨a, us, rfl, h1, h2⟩ := (Items.scr ns).okL s r rfl; exact ⟨a, us, rfl, .inl ⟨h1, fun p o ho hc hp => k _ _ _ μ (.new hp) (s.new hp) (rep_tupN s hp ho hc h2) q⟩⟩
def cInt : DC := fun xs μ Φ => ∃ i, xs = [.int i] ∧ Φ (.int i) μ ∨ ∃ b, xs = [.bl b] ∧ Φ (.int (if b then 1 else 0)) μ
theorem rcInt : RC K (fun xs H Q => (∃ i, xs = [.int i] ∧ Q (.int i) H) ∨ ∃ k, xs = [.bl k] ∧ Q (.int (if k then 1 else 0)) H) cInt := fun H μ vs ds Φ Q s r q k => by
  obtain ⟨i, q⟩ := q
  rcases q with ⟨rfl, q⟩ | ⟨b, rfl, q⟩
  · obtain ⟨v, rfl, r⟩ := reps1 r
    obtain rfl := Rep.int_inv r
    exact .inl ⟨i, rfl, k _ H _ μ .refl s r q⟩
  · obtain ⟨v, rfl, r⟩ := reps1 r
    obtain rfl := Rep.bl_inv r
    exact .inr ⟨b, rfl, k _ H _ μ .refl s (.int _ .nil) q⟩
theorem reps_bls {μ : Sto} {H : Hp} : ∀ {vs : List V} {bs : List Bool}, Reps K μ H vs (bs.map .bl) → vs = bs.map .bl
  | [], [], _ => rfl
  | [], _ :: _, r => by have := r.length; simp at this
  | _ :: _, [], r => by have := r.length; simp at this
  | v :: vs, b :: bs, r => by
    have e := Rep.bl_inv r.split.1
    have ih := reps_bls r.split.2
    rw [e, ih, List.map_cons]
def cAll : DC := fun xs μ Φ => ∃ bs : List Bool, xs = [.lst (bs.map .bl)] ∧ Φ (.bl (bs.all id)) μ
def cAny : DC := fun xs μ Φ => ∃ bs : List Bool, xs = [.lst (bs.map .bl)] ∧ Φ (.bl (bs.any id)) μ
theorem rcAll : RC K (rAll K) cAll := fun H μ vs ds Φ Q s r q k => by
  obtain ⟨bs, rfl, q⟩ := q
  obtain ⟨v, rfl, r⟩ := reps1 r
  obtain ⟨a, us, rfl, h1, h2⟩ := Rep.lst_inv r
  have e := reps_bls h2
  subst e
  exact ⟨a, bs, rfl, h1.sq, k _ H _ μ .refl s (.bl _ .nil) q⟩
def cMin2 : DC := fun xs μ Φ => ∃ i j, xs = [.int i, .int j] ∧ Φ (.int (if j < i then j else i)) μ
theorem rcMin2 : RC K (fun xs H Q => ∃ i j, xs = [.int i, .int j] ∧ Q (.int (if j < i then j else i)) H) cMin2 := fun H μ vs ds Φ Q s r q k => by
  obtain ⟨i, j, rfl, q⟩ := q
  obtain ⟨v, w, rfl, r1, r2⟩ := reps2 r
  obtain rfl := Rep.int_inv r1
  obtain rfl := Rep.int_inv r2
  exact ⟨i, j, rfl, k _ H _ μ .refl s (.int _ .nil) q⟩
def cMax2 : DC := fun xs μ Φ => ∃ i j, xs = [.int i, .int j] ∧ Φ (.int (if j > i then j else i)) μ
theorem rcMax2 : RC K (fun xs H Q => ∃ i j, xs = [.int i, .int j] ∧ Q (.int (if j > i then j else i)) H) cMax2 := fun H μ vs ds Φ Q s r q k => by
  obtain ⟨i, j, rfl, q⟩ := q
  obtain ⟨v, w, rfl, r1, r2⟩ := reps2 r
  obtain rfl := Rep.int_inv r1
  obtain rfl := Rep.int_inv r2
  exact ⟨i, j, rfl, k _ H _ μ .refl s (.int _ .nil) q⟩
def cDivmod : DC := fun xs μ Φ => ∃ i j, xs = [.int i, .int j] ∧ CDivP i j ∧ Φ (.pr [.int (i / j), .int (i % j)]) μ
def tyD : D → Option String
  | .non => some "NoneType"
  | .bl _ => some "bool"
  | .int _ => some "int"
  | .str _ => some "str"
  | .tup _ => some "tuple"
  | .lst _ => some "list"
  | _ => none
theorem tyD_ok {μ : Sto} {H : Hp} {v : V} {d : D} {n : String} (r : Rep K μ H v d) (h : tyD d = some n) : TyX K H v (.type n) := by
  cases d with
  | non => cases h; cases r; exact .base .non
  | bl b => cases h; cases r; exact .base (.bl b)
  | int i => cases h; cases r; exact .base (.int i)
  | str i => cases h; cases r; exact .base (.str i)
  | tup ds =>
    cases h
    obtain ⟨a, vs, rfl, h1, h2⟩ := Rep.tup_inv r
    rcases h1 with ⟨o, h1, _⟩ | ⟨o, its, n, h1, h3, _⟩
    · exact .fTuple h1
    · exact .kTuple h1 h3
  | lst ds =>
    cases h
    obtain ⟨a, vs, rfl, h1, h2⟩ := Rep.lst_inv r
    exact .base (.lst h1.1)
  | obj C ns ds => cases h
  | hd v => cases h
  | scr ns => cases h
  | pr ns => cases h
def instB : D → String → Option Bool
  | .non, "int" => some false | .non, "bool" => some false | .non, "str" => some false | .non, "tuple" => some false | .non, "list" => some false
  | .int _, "int" => some true | .int _, "bool" => some false | .int _, "str" => some false | .int _, "tuple" => some false | .int _, "list" => some false
  | .bl _, "int" => some true | .bl _, "bool" => some true | .bl _, "str" => some false | .bl _, "tuple" => some false | .bl _, "list" => some false
  | .str _, "int" => some false | .str _, "bool" => some false | .str _, "str" => some true | .str _, "tuple" => some false | .str _, "list" => some false
  | .tup _, "int" => some false | .tup _, "bool" => some false | .tup _, "str" => some false | .tup _, "tuple" => some true | .tup _, "list" => some false
  | .lst _, "int" => some false | .lst _, "bool" => some false | .lst _, "str" => some false | .lst _, "tuple" => some false | .lst _, "list" => some true
  | _, _ => none
theorem instB_ok {d : D} {T : String} {b : Bool} (h : instB d T = some b) : ∃ n, tyD d = some n ∧ kitB n T = some b := by
  unfold instB at h
  split at h <;> first | (cases h; done) | (cases h; exact ⟨_, rfl, by decide +kernel⟩)
def cIsi (T : String) : DC := fun xs μ Φ => ∃ x b, xs = [x, .hd (.ty T)] ∧ instB x T = some b ∧ Φ (.bl b) μ
theorem rcIsi {T : String} : RC K (rIsi K) (cIsi T) := fun H μ vs ds Φ Q s r q k => by
  obtain ⟨x, b, rfl, hi, q⟩ := q
  obtain ⟨n, hn, hk⟩ := instB_ok hi
  obtain ⟨v, w, rfl, r1, r2⟩ := reps2 r
  obtain rfl := Rep.hd_inv r2
  exact ⟨v, _, _, _, b, rfl, .ty T, tyD_ok r1 hn, kit_ty hk, k _ H _ μ .refl s (.bl _ .nil) q⟩
def dApp (φa φb : DE) : DE := fun Ψ δ μ Φ => φa Ψ δ μ fun x μ1 => ∃ a ds, x = .hd (.ref a) ∧ μ1 a = some (.lst ds) ∧ φb Ψ δ μ1 fun y μ2 => ∃ es, μ2 a = some (.lst es) ∧ es.length ≤ 100000 ∧ Φ .non (sset μ2 a (.lst (es ++ [y])))
theorem own_upd {μ : Sto} {H : Hp} {a : Addr} {ds es : List D} {us : List V} (s : StoOk K μ H) (h : μ a = some (.lst ds)) (r : Reps K (sset μ a (.lst es)) (upd H a (.lst us)) us es) : Evo μ H (sset μ a (.lst es)) (upd H a (.lst us)) ∧ StoOk K (sset μ a (.lst es)) (upd H a (.lst us)) := by
  have e : Evo μ H (sset μ a (.lst es)) (upd H a (.lst us)) := .cell h fun n => n.notL h
  exact ⟨e, s.cell e ⟨us, upd_same, r⟩⟩
theorem own_evo {μ : Sto} {H : Hp} {a : Addr} {ds es : List D} {us : List V} (h : μ a = some (.lst ds)) : Evo μ H (sset μ a (.lst es)) (upd H a (.lst us)) := .cell h fun n => n.notL h
/-- o[i] = e, o a handle of a list -/
def eSub (φo φi : DE) : XP → D → DEnv → Sto → (DEnv → Sto → Prop) → Prop := fun Ψ d δ μ Φ => φo Ψ δ μ fun x μ1 => φi Ψ δ μ1 fun y μ2 => ∃ a ds i j, x = .hd (.ref a) ∧ y = .int i ∧ μ2 a = some (.lst ds) ∧ ixN ds.length i = some j ∧ Φ δ (sset μ2 a (.lst (ds.set j d)))
theorem sSub {B : Bx K} {ta tb : TE} {φa φb : DE} (a : SE B ta φa) (b : SE B tb φb) : SG B (gSub ta tb rSetL) (eSub φa φb B.Ψ) := fun v d σ H δ μ Φ Q S r q k =>
  a σ H δ μ _ _ S q fun o H1 x μ1 S1 e1 r1 q1 => b σ H1 δ μ1 _ _ S1 q1 fun i H2 y μ2 S2 e2 r2 q2 => by
    obtain ⟨p, ds, i, j, rfl, rfl, hp, hj, q2⟩ := q2
    obtain rfl := Rep.hd_inv r1
    obtain rfl := Rep.int_inv r2
    obtain ⟨us, h1, h2⟩ := S2.sto _ _ hp
    refine ⟨p, us, i, j, rfl, rfl, h1, by rw [h2.length]; exact hj, ?_⟩
    have e3 : Evo μ2 H2 (sset μ2 p (.lst (ds.set j d))) (upd H2 p (.lst (us.set j v))) := own_evo hp
    obtain ⟨e4, s4⟩ := own_upd S2.sto hp ((h2.set ((r.mono e1).mono e2) j).mono e3)
    exact k σ _ δ _ (S2.step e4 s4) ((e1.trans e2).trans e4) q2
def dAsgS (φ φo φi : DE) : DSt := fun Ψ Δ δ μ => φ Ψ δ μ fun x μ1 => eSub φo φi Ψ x δ μ1 Δ.nx
theorem sAsgS {B : Bx K} {te ta tb : TE} {φ φa φb : DE} (e : SE B te φ) (a : SE B ta φa) (b : SE B tb φb) : SS B (tAsg te (gSub ta tb rSetL)) (dAsgS φ φa φb) := fun D Δ σ H δ μ E S q =>
  e σ H δ μ _ _ S q fun v H1 x μ1 S1 e1 r1 q1 => sSub a b v x σ H1 δ μ1 _ _ S1 r1 q1 fun σ2 H2 δ2 μ2 S2 e2 q2 => E.nx σ2 H2 δ2 μ2 S2 q2
end
end DW
set_option Elab.async false
set_option linter.all false
set_option maxRecDepth 100000
namespace DW
open PySem PySem.Spec L2
section
variable {K : Fg} {B : Bx K}
abbrev DI := XP → DEnv → Sto → (List D → Sto → Prop) → Prop
/-- the iterator hands out the items, as long as what stood still stands -/
def IterOk (K : Fg) (μ1 : Sto) (H1 : Hp) (J : It) (xs : List D) : Prop := ∀ (i : Nat) (H : Hp) (μ : Sto), StoOk K μ H → Evo μ1 H1 μ H →
  (i < xs.length → J.go i H ∧ ∀ x H', J.yld i H x H' → ∃ d, xs[i]? = some d ∧ StoOk K μ H' ∧ Evo μ H μ H' ∧ Rep K μ H' x d) ∧ (xs.length ≤ i → J.stop i H)
def SI (B : Bx K) (wi : TI) (ι : DI) : Prop := ∀ (σ : L2.St) (H : Hp) (δ : DEnv) (μ : Sto) (Φ : List D → Sto → Prop) (R : It → Hp → Prop), B.S σ H δ μ → ι B.Ψ δ μ Φ →
  (∀ xs J H' μ', B.S σ H' δ μ' → Evo μ H μ' H' → IterOk K μ' H' J xs → Φ xs μ' → R J H') → wi σ H R
def iSeqT (φ : DE) : DI := fun Ψ δ μ Φ => φ Ψ δ μ fun x μ1 => ∃ ds, x = .tup ds ∧ Φ ds μ1
def iSeqL (φ : DE) : DI := fun Ψ δ μ Φ => φ Ψ δ μ fun x μ1 => ∃ ds, x = .lst ds ∧ Φ ds μ1
theorem siT {te : TE} {φ : DE} (a : SE B te φ) : SI B (iTup K te) (iSeqT φ) := fun σ H δ μ Φ R S q k =>
  a σ H δ μ _ _ S q fun v H1 x μ1 S1 e1 r1 q1 => by
    obtain ⟨ds, rfl, q2⟩ := q1
    obtain ⟨p, vs, rfl, h1, h2⟩ := Rep.tup_inv r1
    refine ⟨p, rfl, ⟨vs, h1.sq⟩, k ds _ H1 μ1 S1 e1 (fun i H2 μ2 s2 e2 => ⟨fun hi => ?_, fun hi => ⟨vs, (h1.mono e2).sq, by rw [h2.length]; exact hi⟩⟩) q2⟩
    have hv : i < vs.length := by rw [h2.length]; exact hi
    refine ⟨⟨vs, vs[i], (h1.mono e2).sq, List.getElem?_eq_getElem hv⟩, fun x H' ⟨eH, hy⟩ => ?_⟩
    subst eH
    obtain ⟨d, hd, rd⟩ := (h2.mono e2).getV (hy vs (h1.mono e2).sq)
    exact ⟨d, hd, s2, .refl, rd⟩
theorem siL {te : TE} {φ : DE} (a : SE B te φ) : SI B (iList K te) (iSeqL φ) := fun σ H δ μ Φ R S q k =>
  a σ H δ μ _ _ S q fun v H1 x μ1 S1 e1 r1 q1 => by
    obtain ⟨ds, rfl, q2⟩ := q1
    obtain ⟨p, vs, rfl, h1, h2⟩ := Rep.lst_inv r1
    refine ⟨p, rfl, ⟨vs, h1.sq⟩, k ds _ H1 μ1 S1 e1 (fun i H2 μ2 s2 e2 => ⟨fun hi => ?_, fun hi => ⟨vs, (h1.mono e2).sq, by rw [h2.length]; exact hi⟩⟩) q2⟩
    have hv : i < vs.length := by rw [h2.length]; exact hi
    refine ⟨⟨vs, vs[i], (h1.mono e2).sq, List.getElem?_eq_getElem hv⟩, fun x H' ⟨eH, hy⟩ => ?_⟩
    subst eH
    obtain ⟨d, hd, rd⟩ := (h2.mono e2).getV (hy vs (h1.mono e2).sq)
    exact ⟨d, hd, s2, .refl, rd⟩
def rngD (lo : Int) (n : Nat) : List D := (List.range n).map fun (i : Nat) => .int (lo + (i : Int))
theorem rngD_len {lo : Int} {n : Nat} : (rngD lo n).length = n := by unfold rngD; rw [List.length_map, List.length_range]
theorem rngD_at {lo : Int} {n i : Nat} (h : i < n) : (rngD lo n)[i]? = some (.int (lo + (i : Int))) := by
  unfold rngD
  rw [List.getElem?_map, List.getElem?_range h]
  rfl
theorem iter_rng {μ : Sto} {H : Hp} {lo : Int} {n : Nat} : IterOk K μ H (Itr lo n) (rngD lo n) := fun i H2 μ2 s2 e2 => by
  rw [rngD_len]
  refine ⟨fun hi => ⟨hi, fun x H' ⟨eH, hy⟩ => ?_⟩, fun hi => hi⟩
  subst eH hy
  exact ⟨_, rngD_at hi, s2, .refl, .int _ .nil⟩
def iR1 (φ : DE) : DI := fun Ψ δ μ Φ => φ Ψ δ μ fun x μ1 => ∃ j, x = .int j ∧ j < 4611686018427387904 ∧ -4611686018427387904 ≤ j ∧ Φ (rngD 0 j.toNat) μ1
theorem siR1 {te : TE} {φ : DE} (a : SE B te φ) : SI B (iRng1 (tCons te tNil)) (iR1 φ) := fun σ H δ μ Φ R S q k =>
  a σ H δ μ _ _ S q fun v H1 x μ1 S1 e1 r1 q1 => by
    obtain ⟨j, rfl, h1, h2, q2⟩ := q1
    obtain rfl := Rep.int_inv r1
    exact ⟨j, rfl, by omega, by omega, k _ _ H1 μ1 S1 e1 iter_rng q2⟩
def iR2 (φ φ' : DE) : DI := fun Ψ δ μ Φ => φ Ψ δ μ fun x μ1 => φ' Ψ δ μ1 fun y μ2 => ∃ i j, x = .int i ∧ y = .int j ∧ (-4611686018427387904 ≤ i ∧ i < 4611686018427387904 ∧ -4611686018427387904 ≤ j ∧ j < 4611686018427387904) ∧ Φ (rngD i (j - i).toNat) μ2
/-- zip of two tuples -/
def iZipT (φ φ' : DE) : DI := fun Ψ δ μ Φ => φ Ψ δ μ fun x μ1 => φ' Ψ δ μ1 fun y μ2 => ∃ xs ys, x = .tup xs ∧ y = .tup ys ∧ Φ ((xs.zip ys).map fun p => .pr [p.1, p.2]) μ2
/-- a text, sign by sign -/
def iText (φ : DE) : DI := fun Ψ δ μ Φ => φ Ψ δ μ fun x μ1 => ∃ s, x = .str s ∧ Φ (s.cps.toList.map fun c => .str ⟨#[c]⟩) μ1
/-- a loop -/
def dFor (ι : DI) (γ : DG) (ω : DSt) : DSt := fun Ψ Δ δ μ => ι Ψ δ μ fun xs μ1 => ∃ W : Nat → DEnv → Sto → Prop, W 0 δ μ1 ∧
  (∀ i d δ' μ', xs[i]? = some d → W i δ' μ' → γ d δ' μ' fun δ2 μ2 => ω Ψ { Δ with nx := W (i + 1), ct := W (i + 1), bk := Δ.nx } δ2 μ2) ∧ ∀ δ' μ', W xs.length δ' μ' → Δ.nx δ' μ'
theorem sFor {wi : TI} {g : TG} {tb : TS} {ι : DI} {γ : DG} {ω : DSt} (a : SI B wi ι) (b : ∀ H1 μ1 e, SG (B.re H1 μ1 e) g γ) (c : ∀ H1 μ1 e, SS (B.re H1 μ1 e) tb ω) : SS B (tFor wi g tb) (dFor ι γ ω) := fun D Δ σ H δ μ E S q =>
  a σ H δ μ _ _ S q fun xs J H1 μ1 S1 e1 it q1 => by
    obtain ⟨W, w0, ws, wd⟩ := q1
    refine ⟨fun i m σ' H' => m = xs.length - i ∧ i ≤ xs.length ∧ ∃ δ' μ', (B.re H1 μ1 S1.evo).S σ' H' δ' μ' ∧ W i δ' μ', ⟨xs.length, by simp, Nat.zero_le _, δ, μ1, ⟨.refl, S1.sto, S1.env⟩, w0⟩, ?_⟩
    rintro i m σ' H' ⟨rfl, hi, δ', μ', S', w⟩
    by_cases hlt : i < xs.length
    · obtain ⟨hgo, hy⟩ := (it i H' μ' S'.sto S'.evo).1 hlt
      refine .inr ⟨hgo, fun σ2 H2 => ∃ δ2 μ2, (B.re H1 μ1 S1.evo).S σ2 H2 δ2 μ2 ∧ W (i + 1) δ2 μ2, fun σ2 H2 ⟨δ2, μ2, S2, w2⟩ => ⟨xs.length - (i + 1), by omega, rfl, by omega, δ2, μ2, S2, w2⟩, fun x H2 y => ?_⟩
      obtain ⟨d, hd, s2, e2, r2⟩ := hy x H2 y
      refine b H1 μ1 S1.evo x d σ' H2 δ' μ' _ _ (S'.step e2 s2) r2 (ws i d δ' μ' hd w) fun σ3 H3 δ3 μ3 S3 e3 q3 => ?_
      exact c H1 μ1 S1.evo _ { Δ with nx := W (i + 1), ct := W (i + 1), bk := Δ.nx } σ3 H3 δ3 μ3 ⟨fun σ4 H4 δ4 μ4 S4 q4 => ⟨δ4, μ4, S4, q4⟩, fun v4 H4 d4 μ4 σ4 δ4 S4 r4 q4 => E.rt v4 H4 d4 μ4 σ4 δ4 ⟨S1.evo.trans S4.evo, S4.sto, S4.env⟩ r4 q4, fun σ4 H4 δ4 μ4 S4 q4 => E.nx σ4 H4 δ4 μ4 ⟨S1.evo.trans S4.evo, S4.sto, S4.env⟩ q4, fun σ4 H4 δ4 μ4 S4 q4 => ⟨δ4, μ4, S4, q4⟩⟩ S3 q3
    · have e : i = xs.length := by omega
      subst e
      exact .inl ⟨(it _ H' μ' S'.sto S'.evo).2 (Nat.le_refl _), E.nx σ' H' δ' μ' ⟨S1.evo.trans S'.evo, S'.sto, S'.env⟩ (wd δ' μ' w)⟩
def dwipe (δ : DEnv) : List Nat → DEnv
  | [] => δ
  | v :: vs => (dwipe δ vs).set v none
theorem EnvOk.unset {μ : Sto} {H : Hp} {σ : L2.St} {δ : DEnv} (h : EnvOk K μ H σ δ) (j : Nat) : EnvOk K μ H (σ.set j none) (δ.set j none) := ⟨by rw [List.length_set, List.length_set]; exact h.len, fun i x q => by
  rw [List.getElem?_set] at q
  by_cases hj : j = i
  · rw [if_pos hj] at q
    split at q <;> cases q
  · rw [if_neg hj] at q
    obtain ⟨v, e, r⟩ := h.at_ i x q
    exact ⟨v, by rw [List.getElem?_set, if_neg hj]; exact e, r⟩⟩
theorem EnvOk.wipe {μ : Sto} {H : Hp} {σ : L2.St} {δ : DEnv} (h : EnvOk K μ H σ δ) : ∀ vs, EnvOk K μ H (L2.wipe σ vs) (dwipe δ vs)
  | [] => h
  | v :: vs => (EnvOk.wipe h vs).unset v
theorem wipe_get (σ : L2.St) : ∀ (vs : List Nat) (i : Nat), (L2.wipe σ vs)[i]? = if i ∈ vs ∧ i < σ.length then some none else σ[i]?
  | [], i => by simp [L2.wipe]
  | v :: vs, i => by
    have ih := wipe_get σ vs i
    show ((L2.wipe σ vs).set v none)[i]? = _
    rw [List.getElem?_set, L2.wipe_length, ih]
    by_cases h : v = i
    · subst h
      rw [if_pos rfl]
      by_cases hl : v < σ.length
      · rw [if_pos hl, if_pos ⟨List.mem_cons_self, hl⟩]
      · rw [if_neg hl, if_neg fun z => hl z.2, List.getElem?_eq_none (by omega)]
    · rw [if_neg h]
      have : (i ∈ v :: vs ∧ i < σ.length) ↔ (i ∈ vs ∧ i < σ.length) := by
        constructor
        · rintro ⟨a, b⟩
          rcases List.mem_cons.mp a with e | e
          · exact absurd e.symm h
          · exact ⟨e, b⟩
        · rintro ⟨a, b⟩
          exact ⟨List.mem_cons_of_mem _ a, b⟩
      simp only [this]
theorem wipe_set {σ : L2.St} {vs : List Nat} {j : Nat} {x : Option V} (h : j ∈ vs) : L2.wipe (σ.set j x) vs = L2.wipe σ vs := by
  apply List.ext_getElem?
  intro i
  rw [wipe_get, wipe_get, List.length_set, List.getElem?_set]
  by_cases hi : i ∈ vs ∧ i < σ.length
  · rw [if_pos hi, if_pos hi]
  · rw [if_neg hi, if_neg hi]
    by_cases e : j = i
    · subst e
      rw [if_pos rfl, if_neg (fun z => hi ⟨h, z⟩), List.getElem?_eq_none (Nat.le_of_not_lt fun z => hi ⟨h, z⟩)]
    · rw [if_neg e]
theorem wipe_wipe {σ : L2.St} {vs : List Nat} : L2.wipe (L2.wipe σ vs) vs = L2.wipe σ vs := by
  apply List.ext_getElem?
  intro i
  rw [wipe_get, L2.wipe_length, wipe_get]
  split <;> rfl
/-- a target stores nothing but own names -/
def GW (vs : List Nat) (g : TG) : Prop := ∀ (v : V) (σ W : L2.St) (H : Hp) (Q : L2.St → Hp → Prop), L2.wipe σ vs = W → g v σ H Q → g v σ H fun σ2 H2 => L2.wipe σ2 vs = W ∧ Q σ2 H2
theorem gwName {vs : List Nat} {j : Nat} (h : j ∈ vs) : GW vs (gName j) := fun v σ W H Q e q => ⟨by rw [wipe_set h]; exact e, q⟩
def dLc (ι : DI) (γ : DG) (θ : DT) (φ : DE) (vs : List Nat) : DE := fun Ψ δ μ Φ => ι Ψ δ μ fun xs μ1 => ∀ p, μ1 p = none → ∃ W : Nat → Sto → Prop, W 0 (sset μ1 p (.lst [])) ∧
  (∀ i d μ2, xs[i]? = some d → W i μ2 → γ d (dwipe δ vs) μ2 fun δ3 μ3 => θ Ψ δ3 μ3 fun b μ4 =>
    (b = true → φ Ψ δ3 μ4 fun y μ5 => ∃ acc, μ5 p = some (.lst acc) ∧ acc.length ≤ 100000 ∧ W (i + 1) (sset μ5 p (.lst (acc ++ [y])))) ∧ (b = false → W (i + 1) μ4)) ∧
  ∀ μ2, W xs.length μ2 → ∃ acc, μ2 p = some (.lst acc) ∧ Φ (.lst acc) (sdel μ2 p)
theorem sLc {wi : TI} {g : TG} {tt : TT} {te : TE} {vs : List Nat} {ι : DI} {γ : DG} {θ : DT} {φ : DE} (a : SI B wi ι) (w : GW vs g) (b : ∀ H1 μ1 e, SG (B.re H1 μ1 e) g γ) (c : ∀ H1 μ1 e, ST (B.re H1 μ1 e) tt θ) (d : ∀ H1 μ1 e, SE (B.re H1 μ1 e) te φ) :
    SE B (tLc wi g tt te vs) (dLc ι γ θ φ vs) := fun σ H δ μ Φ Q S q k =>
  a σ H δ μ _ _ S q fun xs J H1 μ1 S1 e1 it q1 => fun p hp => by
    have hμp : μ1 p = none := S1.sto.fresh hp
    obtain ⟨W, w0, ws, wd⟩ := q1 p hμp
    refine ⟨fun i m H' => m = xs.length - i ∧ i ≤ xs.length ∧ ∃ μ', Evo μ1 H1 μ' H' ∧ StoOk K μ' H' ∧ W i μ', ⟨xs.length, by simp, Nat.zero_le _, _, .newC S1.sto hp, sto_own S1.sto hp .nil, w0⟩, ?_⟩
    rintro i m H' ⟨rfl, hi, μ', e', s', wi'⟩
    by_cases hlt : i < xs.length
    · obtain ⟨hgo, hy⟩ := (it i H' μ' s' e').1 hlt
      refine .inr ⟨hgo, fun H2 => ∃ μ2, Evo μ1 H1 μ2 H2 ∧ StoOk K μ2 H2 ∧ W (i + 1) μ2, fun H2 ⟨μ2, e2, s2, w2⟩ => ⟨xs.length - (i + 1), by omega, rfl, by omega, μ2, e2, s2, w2⟩, fun x H2 y => ?_⟩
      obtain ⟨dd, hd, s2, e2, r2⟩ := hy x H2 y
      have S2 : (B.re H1 μ1 S1.evo).S (L2.wipe σ vs) H2 (dwipe δ vs) μ' := ⟨e'.trans e2, s2, ((S1.env.mono e').mono e2).wipe vs⟩
      refine w x (L2.wipe σ vs) (L2.wipe σ vs) H2 _ wipe_wipe ?_
      refine b H1 μ1 S1.evo x dd (L2.wipe σ vs) H2 (dwipe δ vs) μ' _ _ S2 r2 (ws i dd μ' hd wi') fun σ3 H3 δ3 μ3 S3 e3 q3 => ?_
      refine c H1 μ1 S1.evo σ3 H3 δ3 μ3 _ _ S3 q3 fun b4 H4 μ4 S4 e4 q4 => ?_
      cases b4 with
      | true =>
        rw [if_pos rfl]
        refine d H1 μ1 S1.evo σ3 H4 δ3 μ4 _ _ S4 (q4.1 rfl) fun v5 H5 y5 μ5 S5 e5 r5 q5 => ?_
        obtain ⟨acc, hacc, hz, w5⟩ := q5
        obtain ⟨us, h5, hr5⟩ := S5.sto _ _ hacc
        have e6 : Evo μ5 H5 (sset μ5 p (.lst (acc ++ [y5]))) (upd H5 p (.lst (us ++ [v5]))) := own_evo hacc
        obtain ⟨e7, s7⟩ := own_upd S5.sto hacc ((hr5.append r5).mono e6)
        exact ⟨us, h5, Nat.lt_of_le_of_lt (by rw [hr5.length]; exact hz) (by decide), _, S5.evo.trans e7, s7, w5⟩
      | false =>
        rw [if_neg Bool.false_ne_true]
        exact ⟨μ4, S4.evo, S4.sto, q4.2 rfl⟩
    · have e : i = xs.length := by omega
      subst e
      obtain ⟨acc, hacc, q2⟩ := wd μ' wi'
      obtain ⟨us, h5, hr5⟩ := s' _ _ hacc
      refine .inl ⟨(it _ H' μ' s' e').2 (Nat.le_refl _), ?_⟩
      have e8 : Evo μ1 H1 (sdel μ' p) H' := e'.trans sdel_sub.evo
      exact k (.ref p) H' (.lst acc) (sdel μ' p) (S1.step e8 (sdel_sub.sto s')) (e1.trans e8) (.lst ⟨h5, .of sdel_same⟩ (hr5.mono sdel_sub.evo) .nil) q2
def dYes : DT := fun _ _ μ Φ => Φ true μ
theorem sYes : ST B tYes dYes := fun σ H δ μ Φ Q S q k => k true H μ S .refl q
abbrev Con := List D → Sto → DK → (XD → Sto → Prop) → Prop
def spOf (K : Fg) (c : Con) : Sp := fun vs H Q E => ∃ μ ds Φ Ψ, StoOk K μ H ∧ Reps K μ H vs ds ∧ c ds μ Φ Ψ ∧
  (∀ v H' d μ', Evo μ H μ' H' → StoOk K μ' H' → Rep K μ' H' v d → Φ d μ' → Q v H') ∧
  ∀ cls dd H' x μ', Evo μ H μ' H' → StoOk K μ' H' → RepX K μ' H' cls dd x → Ψ x μ' → E cls dd H'
/-- a call that raises nothing -/
def dCall (c : Con) (ψ : DA) : DE := fun Ψ δ μ Φ => ψ Ψ δ μ fun xs μ1 => c xs μ1 Φ fun _ _ => False
theorem sCall {c : Con} {tas : TA} {ψ : DA} (a : SA B tas ψ) : SE B (tCall (spOf K c) [] E0 tas) (dCall c ψ) := fun σ H δ μ Φ Q S q k =>
  a σ H δ μ _ _ S q fun vs H1 xs μ1 S1 e1 r1 q1 => by
    rw [List.append_nil]
    exact ⟨μ1, xs, Φ, fun _ _ => False, S1.sto, r1, q1, fun v H2 d μ2 e2 s2 r2 q2 => k v H2 d μ2 (S1.step e2 s2) (e1.trans e2) r2 q2, fun _ _ _ _ _ _ _ _ z => z⟩
/-- a call that may raise -/
def dCallS (c : Con) (ψ : DA) : DE := fun Ψ δ μ Φ => ψ Ψ δ μ fun xs μ1 => c xs μ1 Φ fun x μ2 => Ψ x δ μ2
theorem sCallS {c : Con} {tas : TA} {ψ : DA} (a : SA B tas ψ) : SE B (tCallS (spOf K c) (WE B.W) tas) (dCallS c ψ) := fun σ H δ μ Φ Q S q k =>
  a σ H δ μ _ _ S q fun vs H1 xs μ1 S1 e1 r1 q1 =>
    ⟨μ1, xs, Φ, fun x μ2 => B.Ψ x δ μ2, S1.sto, r1, q1, fun v H2 d μ2 e2 s2 r2 q2 => k v H2 d μ2 (S1.step e2 s2) (e1.trans e2) r2 q2, fun cls dd H2 x μ2 e2 s2 r2 q2 => B.hW cls dd σ H2 x δ μ2 (S1.step e2 s2) r2 q2⟩
/-- raise C('..'), a class without own fields -/
def dRaise0 (C : Addr) : DSt := fun Ψ _ δ μ => Ψ (.mk C none) δ μ
theorem sRaise0 {C : Addr} : SS B (fun _ σ H => (fun (_ : L2.St) (H : Hp) (Q : XK) => Q (.ref C) none H) σ H fun cls d H' => B.W cls d σ H') (dRaise0 C) := fun D Δ σ H δ μ E S q => B.hW _ _ σ H (.mk C none) δ μ S ⟨rfl, rfl⟩ q
def dstart (N : List Str) (ds : List D) : DEnv := ds.map some ++ List.replicate (N.length - ds.length) none
theorem env_start {μ : Sto} {H : Hp} {N : List Str} {vs : List V} {ds : List D} (r : Reps K μ H vs ds) : EnvOk K μ H (L2.start N vs) (dstart N ds) := by
  have hl := r.length
  refine ⟨by unfold L2.start dstart; simp [hl], fun i d q => ?_⟩
  unfold dstart at q
  unfold L2.start
  by_cases h : i < ds.length
  · rw [List.getElem?_append_left (by simpa using h), List.getElem?_map] at q
    cases e : ds[i]? with
    | none => rw [e] at q; cases q
    | some y =>
      rw [e] at q
      cases q
      obtain ⟨v, ev, rv⟩ := r.get e
      exact ⟨v, by rw [List.getElem?_append_left (by simpa [hl] using h), List.getElem?_map, ev]; rfl, rv⟩
  · rw [List.getElem?_append_right (by simpa using h), List.getElem?_replicate] at q
    split at q <;> cases q
/-- what a def's body must bring about -/
abbrev goalE (Φ : DK) : DEnds := ⟨fun _ μ' => ∃ μ2, Sub μ2 μ' ∧ Φ .non μ2, fun d μ' => ∃ μ2, Sub μ2 μ' ∧ Φ d μ2, fun _ _ => False, fun _ _ => False⟩
abbrev goalX (Ψ : XD → Sto → Prop) : XP := fun x _ μ' => ∃ μ2, Sub μ2 μ' ∧ Ψ x μ2
theorem RepX.mono {μ μ' : Sto} {H H' : Hp} {cls : Value} {dd : Option Addr} {x : XD} (e : Evo μ H μ' H') (h : RepX K μ H cls dd x) : RepX K μ' H' cls dd x := by
  obtain ⟨C, fs⟩ := x
  cases fs with
  | none => exact h
  | some f =>
    obtain ⟨ns, ds⟩ := f
    obtain ⟨h1, d, us, h2, h3, h4, h5, h6⟩ := h
    exact ⟨h1, d, us, h2, (e.st _ _ h3 h4).1, (e.st _ _ h3 h4).2, h5, h6.mono e⟩
end
end DW
set_option Elab.async false
set_option linter.all false
set_option maxRecDepth 100000
namespace DW
open PySem PySem.Spec L2
section
variable {α : Type} {μ μ' : Sto} {Φ : DK} {i j : Int} {x y : D} {xs ys ds : List D} {δ : DEnv} {Ψ : XP} {Δ : DEnds} {b : Bool} {s t : Str}
theorem ex_some {a : α} {P : α → Prop} : (∃ d, some (some a) = some (some d) ∧ P d) = P a := propext ⟨fun ⟨d, e, p⟩ => by cases e; exact p, fun p => ⟨a, rfl, p⟩⟩
theorem w_I0 {g : Int → Int → D} : oI0 g (.int i) (.int j) μ Φ = Φ (g i j) μ := propext ⟨fun ⟨a, b, e1, e2, q⟩ => by cases e1; cases e2; exact q, fun q => ⟨i, j, rfl, rfl, q⟩⟩
theorem w_I {C : Int → Int → Prop} {g : Int → Int → D} : oI C g (.int i) (.int j) μ Φ = (C i j ∧ Φ (g i j) μ) := propext ⟨fun ⟨a, b, e1, e2, q⟩ => by cases e1; cases e2; exact q, fun q => ⟨i, j, rfl, rfl, q⟩⟩
theorem w_uI {g : Int → Int} : uI g (.int i) μ Φ = Φ (.int (g i)) μ := propext ⟨fun ⟨a, e1, q⟩ => by cases e1; exact q, fun q => ⟨i, rfl, q⟩⟩
theorem w_int : cInt [.int i] μ Φ = Φ (.int i) μ := propext (Iff.intro (by
  rintro ⟨a, q⟩
  rcases q with ⟨e, q⟩ | ⟨_, e, q⟩
  · cases e; exact q
  · cases e) (fun q => ⟨i, .inl ⟨rfl, q⟩⟩))
theorem w_bl {P : Bool → Prop} : (∃ c, D.bl b = .bl c ∧ P c) = P b := propext ⟨fun ⟨c, e, q⟩ => by cases e; exact q, fun q => ⟨b, rfl, q⟩⟩
theorem w_isi {T : String} : cIsi T [x, .hd (.ty T)] μ Φ = ∃ b, instB x T = some b ∧ Φ (.bl b) μ := propext ⟨fun ⟨y, b, e, q⟩ => by cases e; exact ⟨b, q⟩, fun ⟨b, q⟩ => ⟨x, b, rfl, q⟩⟩
theorem w_someb {P : Bool → Prop} : (∃ c, some b = some c ∧ P c) = P b := propext ⟨fun ⟨c, e, q⟩ => by cases e; exact q, fun q => ⟨b, rfl, q⟩⟩
theorem w_eqI : oEq (.int i) (.int j) μ Φ = Φ (.bl (decide (i = j))) μ := w_someb
theorem w_neI : oNe (.int i) (.int j) μ Φ = Φ (.bl (!decide (i = j))) μ := w_someb
theorem w_eqS : oEq (.str s) (.str t) μ Φ = Φ (.bl (decide (s = t))) μ := w_someb
theorem w_neS : oNe (.str s) (.str t) μ Φ = Φ (.bl (!decide (s = t))) μ := w_someb
theorem w_lenT : cLen [.tup ds] μ Φ = Φ (.int ds.length) μ := propext ⟨fun ⟨x, es, e, h, q⟩ => by cases e; cases h; exact q, fun q => ⟨_, _, rfl, .tup ds, q⟩⟩
theorem w_lenL : cLen [.lst ds] μ Φ = Φ (.int ds.length) μ := propext ⟨fun ⟨x, es, e, h, q⟩ => by cases e; cases h; exact q, fun q => ⟨_, _, rfl, .lst ds, q⟩⟩
theorem w_lenS {ns : List Int} : cLen [.scr ns] μ Φ = Φ (.int ns.length) μ := propext ⟨fun ⟨x, es, e, h, q⟩ => by cases e; cases h; rw [List.length_map] at q; exact q, fun q => ⟨_, _, rfl, .scr ns, by rw [List.length_map]; exact q⟩⟩
theorem w_tupL : cTuple [.lst ds] μ Φ = Φ (.tup ds) μ := propext ⟨fun ⟨x, es, e, h, q⟩ => by cases e; cases h; exact q, fun q => ⟨_, _, rfl, .lst ds, q⟩⟩
theorem w_tupT : cTuple [.tup ds] μ Φ = Φ (.tup ds) μ := propext ⟨fun ⟨x, es, e, h, q⟩ => by cases e; cases h; exact q, fun q => ⟨_, _, rfl, .tup ds, q⟩⟩
theorem w_ixT : oIxT (.tup ds) (.int i) μ Φ = ∃ d, atI ds i = some d ∧ Φ d μ := propext ⟨fun ⟨x, es, d, e1, e2, q⟩ => by cases e1; cases e2; exact ⟨d, q⟩, fun ⟨d, q⟩ => ⟨_, _, d, rfl, rfl, q⟩⟩
theorem w_ixL : oIxL (.lst ds) (.int i) μ Φ = ∃ d, atI ds i = some d ∧ Φ d μ := propext ⟨fun ⟨x, es, d, e1, _, e2, q⟩ => by cases e1; cases e2; exact ⟨d, q⟩, fun ⟨d, q⟩ => ⟨_, _, d, .lst ds, rfl, rfl, q⟩⟩
theorem w_ixS {ns : List Int} : oIxL (.scr ns) (.int i) μ Φ = ∃ d, atI (ns.map D.int) i = some d ∧ Φ d μ := propext ⟨fun ⟨x, es, d, e1, _, e2, q⟩ => by cases e1; cases e2; exact ⟨d, q⟩, fun ⟨d, q⟩ => ⟨_, _, d, .scr ns, rfl, rfl, q⟩⟩
theorem w_catT : oCatT (.tup xs) (.tup ys) μ Φ = (xs.length + ys.length ≤ 100000 ∧ Φ (.tup (xs ++ ys)) μ) := propext ⟨fun ⟨x, es, e1, e2, q⟩ => by cases e1; cases e2; exact q, fun q => ⟨_, _, rfl, rfl, q⟩⟩
theorem w_catL : oCatL (.lst xs) (.lst ys) μ Φ = (xs.length + ys.length ≤ 100000 ∧ Φ (.lst (xs ++ ys)) μ) := propext ⟨fun ⟨x, es, e1, e2, q⟩ => by cases e1; cases e2; exact q, fun q => ⟨_, _, rfl, rfl, q⟩⟩
theorem w_all {bs : List Bool} : cAll [.lst (bs.map .bl)] μ Φ = Φ (.bl (bs.all id)) μ := propext (Iff.intro (by
  rintro ⟨cs, e, q⟩
  have e2 : bs = cs := by
    injection e with e _
    injection e with e
    exact (List.map_inj_right (fun _ _ z => by cases z; rfl)).mp e
  subst e2
  exact q) (fun q => ⟨bs, rfl, q⟩))
theorem w_any {bs : List Bool} : cAny [.lst (bs.map .bl)] μ Φ = Φ (.bl (bs.any id)) μ := propext (Iff.intro (by
  rintro ⟨cs, e, q⟩
  have e2 : bs = cs := by
    injection e with e _
    injection e with e
    exact (List.map_inj_right (fun _ _ z => by cases z; rfl)).mp e
  subst e2
  exact q) (fun q => ⟨bs, rfl, q⟩))
theorem w_min2 : cMin2 [.int i, .int j] μ Φ = Φ (.int (if j < i then j else i)) μ := propext ⟨fun ⟨a, b, e, q⟩ => by cases e; exact q, fun q => ⟨_, _, rfl, q⟩⟩
theorem w_divmod : cDivmod [.int i, .int j] μ Φ = (CDivP i j ∧ Φ (.pr [.int (i / j), .int (i % j)]) μ) := propext ⟨fun ⟨a, b, e, q⟩ => by cases e; exact q, fun q => ⟨_, _, rfl, q⟩⟩
theorem w_listS {ns : List Int} : cList [.scr ns] μ Φ = Φ (.lst (ns.map .int)) μ := propext ⟨fun ⟨x, es, e, h, q⟩ => by cases e; cases h; exact q, fun q => ⟨_, _, rfl, .scr ns, q⟩⟩
theorem w_listL : cList [.lst ds] μ Φ = Φ (.lst ds) μ := propext ⟨fun ⟨x, es, e, h, q⟩ => by cases e; cases h; exact q, fun q => ⟨_, _, rfl, .lst ds, q⟩⟩
theorem w_listT : cList [.tup ds] μ Φ = Φ (.lst ds) μ := propext ⟨fun ⟨x, es, e, h, q⟩ => by cases e; cases h; exact q, fun q => ⟨_, _, rfl, .tup ds, q⟩⟩
theorem w_isN {x : D} : oIsN x .non μ Φ = ∃ b, isNone x = some b ∧ Φ (.bl b) μ := propext ⟨fun ⟨_, q⟩ => q, fun q => ⟨rfl, q⟩⟩
theorem w_notN {x : D} : oNotN x .non μ Φ = ∃ b, isNone x = some b ∧ Φ (.bl (!b)) μ := propext ⟨fun ⟨_, q⟩ => q, fun q => ⟨rfl, q⟩⟩
section
variable {φ φa φb φc : DE} {γ : DG} {ω ζ : DSt} {θ ϑ : DT} {ψ : DA} {ρ ρ' : DO} {σ : DU} {κ : DC} {c : Con} {n : Nat} {C : Addr} {d : D} {Th : Bool → Sto → Prop} {Ls : List D → Sto → Prop} {Pn : DEnv → Sto → Prop} {η : List D → DEnv → Sto → (DEnv → Sto → Prop) → Prop} {ol oh : XP → DEnv → Sto → (Option Int → Sto → Prop) → Prop} {Xo : Option Int → Sto → Prop}
theorem u_seq : dSeq ω ζ Ψ Δ δ μ = ω Ψ { Δ with nx := ζ Ψ Δ } δ μ := rfl
theorem u_asg : dAsg φ γ Ψ Δ δ μ = φ Ψ δ μ fun x μ1 => γ x δ μ1 Δ.nx := rfl
theorem u_asgS : dAsgS φ φa φb Ψ Δ δ μ = φ Ψ δ μ fun x μ1 => eSub φa φb Ψ x δ μ1 Δ.nx := rfl
theorem u_ret : dRet φ Ψ Δ δ μ = φ Ψ δ μ Δ.rt := rfl
theorem u_retN : dRetN Ψ Δ δ μ = Δ.rt .non μ := rfl
theorem u_if : dIfS θ ω ζ Ψ Δ δ μ = θ Ψ δ μ fun b μ1 => (b = true → ω Ψ Δ δ μ1) ∧ (b = false → ζ Ψ Δ δ μ1) := rfl
theorem u_next : dNext Ψ Δ δ μ = Δ.nx δ μ := rfl
theorem u_break : dBreak Ψ Δ δ μ = Δ.bk δ μ := rfl
theorem u_cont : dCont Ψ Δ δ μ = Δ.ct δ μ := rfl
theorem u_drop : dDrop φ Ψ Δ δ μ = φ Ψ δ μ fun _ μ1 => Δ.nx δ μ1 := rfl
theorem u_raise : dRaise0 C Ψ Δ δ μ = Ψ (.mk C none) δ μ := rfl
theorem u_aug : dAug n φ ρ Ψ Δ δ μ = ∃ x, δ[n]? = some (some x) ∧ φ Ψ δ μ fun y μ1 => ρ x y μ1 fun z μ2 => Δ.nx (δ.set n (some z)) μ2 := rfl
theorem u_var : dVar n Ψ δ μ Φ = ∃ d, δ[n]? = some (some d) ∧ Φ d μ := rfl
theorem u_rest : dRest n Ψ δ μ Φ = ∃ a ds, δ[n]? = some (some (.hd (.ref a))) ∧ μ a = some (.lst ds) ∧ Φ (.lst ds) (sset μ a (.frz ds)) := rfl
theorem u_c : dC d Ψ δ μ Φ = Φ d μ := rfl
theorem u_op : dOp ρ φa φb Ψ δ μ Φ = φa Ψ δ μ fun x μ1 => φb Ψ δ μ1 fun y μ2 => ρ x y μ2 Φ := rfl
theorem u_un : dUn σ φa Ψ δ μ Φ = φa Ψ δ μ fun x μ1 => σ x μ1 Φ := rfl
theorem u_test : dTest φ Ψ δ μ Th = φ Ψ δ μ fun x μ1 => ∃ b, x = .bl b ∧ Th b μ1 := rfl
theorem u_and : dAnd θ ϑ Ψ δ μ Th = θ Ψ δ μ fun b μ1 => (b = true → ϑ Ψ δ μ1 Th) ∧ (b = false → Th false μ1) := rfl
theorem u_or : dOr θ ϑ Ψ δ μ Th = θ Ψ δ μ fun b μ1 => (b = true → Th true μ1) ∧ (b = false → ϑ Ψ δ μ1 Th) := rfl
theorem u_not : dNot θ Ψ δ μ Th = θ Ψ δ μ fun b μ1 => Th (!b) μ1 := rfl
theorem u_yes : dYes Ψ δ μ Th = Th true μ := rfl
theorem u_andV : dAndV φa φb Ψ δ μ Φ = φa Ψ δ μ fun x μ1 => ∃ b, x = .bl b ∧ (b = true → φb Ψ δ μ1 Φ) ∧ (b = false → Φ (.bl false) μ1) := rfl
theorem u_orV : dOrV φa φb Ψ δ μ Φ = φa Ψ δ μ fun x μ1 => ∃ b, x = .bl b ∧ (b = true → Φ (.bl true) μ1) ∧ (b = false → φb Ψ δ μ1 Φ) := rfl
theorem u_notV : dNotV φa Ψ δ μ Φ = φa Ψ δ μ fun x μ1 => ∃ b, x = .bl b ∧ Φ (.bl (!b)) μ1 := rfl
theorem u_ifE : dIf θ φa φb Ψ δ μ Φ = θ Ψ δ μ fun b μ1 => (b = true → φa Ψ δ μ1 Φ) ∧ (b = false → φb Ψ δ μ1 Φ) := rfl
theorem u_chain : dChain ρ ρ' φa φb φc Ψ δ μ Φ = φa Ψ δ μ fun x μ1 => φb Ψ δ μ1 fun y μ2 => ρ x y μ2 fun z μ3 => ∃ b, z = .bl b ∧ (b = true → φc Ψ δ μ3 fun u μ4 => ρ' y u μ4 Φ) ∧ (b = false → Φ (.bl false) μ3) := rfl
theorem u_nil : dNil Ψ δ μ Ls = Ls [] μ := rfl
theorem u_cons : dCons φ ψ Ψ δ μ Ls = φ Ψ δ μ fun x μ1 => ψ Ψ δ μ1 fun xs μ2 => Ls (x :: xs) μ2 := rfl
theorem u_tup : dTup ψ Ψ δ μ Φ = ψ Ψ δ μ fun xs μ1 => xs.length ≤ 100000 ∧ Φ (.tup xs) μ1 := rfl
theorem u_lst : dLst ψ Ψ δ μ Φ = ψ Ψ δ μ fun xs μ1 => xs.length ≤ 100000 ∧ Φ (.lst xs) μ1 := rfl
theorem u_own : dOwn ψ Ψ δ μ Φ = ψ Ψ δ μ fun xs μ1 => xs.length ≤ 100000 ∧ ∀ p, μ1 p = none → Φ (.hd (.ref p)) (sset μ1 p (.lst xs)) := rfl
theorem u_cb : dCB κ ψ Ψ δ μ Φ = ψ Ψ δ μ fun xs μ1 => κ xs μ1 Φ := rfl
theorem u_call : dCall c ψ Ψ δ μ Φ = ψ Ψ δ μ fun xs μ1 => c xs μ1 Φ fun _ _ => False := rfl
theorem u_callS : dCallS c ψ Ψ δ μ Φ = ψ Ψ δ μ fun xs μ1 => c xs μ1 Φ fun x μ2 => Ψ x δ μ2 := rfl
theorem u_name : eName n d δ μ Pn = Pn (δ.set n (some d)) μ := rfl
theorem u_etup : eTup n η d δ μ Pn = ∃ ds, tpl d = some ds ∧ ds.length = n ∧ η ds δ μ Pn := rfl
theorem w_tplT {P : List D → Prop} : (∃ es, tpl (.tup ds) = some es ∧ P es) = P ds := propext ⟨fun ⟨c, e, q⟩ => by cases e; exact q, fun q => ⟨ds, rfl, q⟩⟩
theorem w_tplP {P : List D → Prop} : (∃ es, tpl (.pr ds) = some es ∧ P es) = P ds := propext ⟨fun ⟨c, e, q⟩ => by cases e; exact q, fun q => ⟨ds, rfl, q⟩⟩
theorem u_enil : eNil xs δ μ Pn = (xs = [] ∧ Pn δ μ) := rfl
theorem u_econs : eCons γ η xs δ μ Pn = ∃ d r, xs = d :: r ∧ γ d δ μ fun δ' μ' => η r δ' μ' Pn := rfl
theorem u_sub : eSub φa φb Ψ d δ μ Pn = φa Ψ δ μ fun x μ1 => φb Ψ δ μ1 fun y μ2 => ∃ a ds i j, x = .hd (.ref a) ∧ y = .int i ∧ μ2 a = some (.lst ds) ∧ ixN ds.length i = some j ∧ Pn δ (sset μ2 a (.lst (ds.set j d))) := rfl
theorem u_app : dApp φa φb Ψ δ μ Φ = φa Ψ δ μ fun x μ1 => ∃ a ds, x = .hd (.ref a) ∧ μ1 a = some (.lst ds) ∧ φb Ψ δ μ1 fun y μ2 => ∃ es, μ2 a = some (.lst es) ∧ es.length ≤ 100000 ∧ Φ .non (sset μ2 a (.lst (es ++ [y]))) := rfl
theorem u_slT : dSlT φ ol oh Ψ δ μ Φ = φ Ψ δ μ fun x μ1 => ol Ψ δ μ1 fun lo μ2 => oh Ψ δ μ2 fun hi μ3 => ∃ ds, x = .tup ds ∧ Φ (.tup (cutD ds lo hi)) μ3 := rfl
theorem u_slL : dSlL φ ol oh Ψ δ μ Φ = φ Ψ δ μ fun x μ1 => ol Ψ δ μ1 fun lo μ2 => oh Ψ δ μ2 fun hi μ3 => ∃ ds, Items μ3 x ds ∧ isTup x = false ∧ Φ (.lst (cutD ds lo hi)) μ3 := rfl
theorem u_noPart : dNoPart Ψ δ μ Xo = Xo none μ := rfl
theorem u_part : dPart φ Ψ δ μ Xo = φ Ψ δ μ fun x μ1 => ∃ i, x = .int i ∧ Xo (some i) μ1 := rfl
theorem u_revL : dRevL φ Ψ δ μ Φ = φ Ψ δ μ fun x μ1 => ∃ ds, Items μ1 x ds ∧ isTup x = false ∧ Φ (.lst ds.reverse) μ1 := rfl
end
theorem w_tupE {P : List D → Prop} : (∃ es, D.tup ds = .tup es ∧ P es) = P ds := propext ⟨fun ⟨c, e, q⟩ => by cases e; exact q, fun q => ⟨ds, rfl, q⟩⟩
theorem w_intE {P : Int → Prop} : (∃ j, D.int i = .int j ∧ P j) = P i := propext ⟨fun ⟨c, e, q⟩ => by cases e; exact q, fun q => ⟨i, rfl, q⟩⟩
theorem w_consE {P : D → List D → Prop} : (∃ d r, x :: xs = d :: r ∧ P d r) = P x xs := propext ⟨fun ⟨c, r, e, q⟩ => by cases e; exact q, fun q => ⟨x, xs, rfl, q⟩⟩
theorem w_hdE {a : Addr} {P : Addr → List D → Prop} : (∃ b es, D.hd (.ref a) = .hd (.ref b) ∧ P b es) = ∃ es, P a es := propext ⟨fun ⟨b, es, e, q⟩ => by cases e; exact ⟨es, q⟩, fun ⟨es, q⟩ => ⟨a, es, rfl, q⟩⟩
theorem w_cell {a : Addr} {P : List D → Prop} (h : μ a = some (.lst ds)) : (∃ es, μ a = some (.lst es) ∧ P es) = P ds := propext ⟨fun ⟨es, e, q⟩ => by rw [h] at e; cases e; exact q, fun q => ⟨ds, h, q⟩⟩
theorem w_cellS {a : Addr} {P : List D → Prop} : (∃ es, sset μ a (.lst ds) a = some (.lst es) ∧ P es) = P ds := w_cell sset_same
theorem w_set {a : Addr} {P' : Addr → List D → Nat → Prop} : (∃ b es k j, D.hd (.ref a) = .hd (.ref b) ∧ D.int i = .int k ∧ μ b = some (.lst es) ∧ ixN es.length k = some j ∧ P' b es j) = (∃ es, μ a = some (.lst es) ∧ ∃ j, ixN es.length i = some j ∧ P' a es j) := propext ⟨fun ⟨b, es, k, j, e1, e2, q1, q2⟩ => by cases e1; cases e2; exact ⟨es, q1, j, q2⟩, fun ⟨es, q1, j, q2⟩ => ⟨a, es, i, j, rfl, rfl, q1, q2⟩⟩
theorem at0 {P : D → Prop} {x0 : D} : (∃ d, atI (x0 :: xs) 0 = some d ∧ P d) = P x0 := propext ⟨fun ⟨d, e, q⟩ => by rw [show (0 : Int) = ((0 : Nat) : Int) from rfl, atI_nat (j := 0) rfl] at e; cases e; exact q, fun q => ⟨x0, atI_nat (j := 0) rfl, q⟩⟩
theorem at1 {P : D → Prop} {x0 x1 : D} : (∃ d, atI (x0 :: x1 :: xs) 1 = some d ∧ P d) = P x1 := propext ⟨fun ⟨d, e, q⟩ => by rw [show (1 : Int) = ((1 : Nat) : Int) from rfl, atI_nat (j := 1) rfl] at e; cases e; exact q, fun q => ⟨x1, atI_nat (j := 1) rfl, q⟩⟩
theorem at2 {P : D → Prop} {x0 x1 x2 : D} : (∃ d, atI (x0 :: x1 :: x2 :: xs) 2 = some d ∧ P d) = P x2 := propext ⟨fun ⟨d, e, q⟩ => by rw [show (2 : Int) = ((2 : Nat) : Int) from rfl, atI_nat (j := 2) rfl] at e; cases e; exact q, fun q => ⟨x2, atI_nat (j := 2) rfl, q⟩⟩
theorem at3 {P : D → Prop} {x0 x1 x2 x3 : D} : (∃ d, atI (x0 :: x1 :: x2 :: x3 :: xs) 3 = some d ∧ P d) = P x3 := propext ⟨fun ⟨d, e, q⟩ => by rw [show (3 : Int) = ((3 : Nat) : Int) from rfl, atI_nat (j := 3) rfl] at e; cases e; exact q, fun q => ⟨x3, atI_nat (j := 3) rfl, q⟩⟩
theorem ix40 {P : Nat → Prop} : (∃ j, ixN 4 0 = some j ∧ P j) = P 0 := propext ⟨fun ⟨j, e, q⟩ => by cases e; exact q, fun q => ⟨0, rfl, q⟩⟩
theorem ix42 {P : Nat → Prop} : (∃ j, ixN 4 2 = some j ∧ P j) = P 2 := propext ⟨fun ⟨j, e, q⟩ => by cases e; exact q, fun q => ⟨2, rfl, q⟩⟩
theorem ix43 {P : Nat → Prop} : (∃ j, ixN 4 3 = some j ∧ P j) = P 3 := propext ⟨fun ⟨j, e, q⟩ => by cases e; exact q, fun q => ⟨3, rfl, q⟩⟩
theorem mapI_get {ws : List Int} {i : Nat} {d : D} (h : (ws.map D.int)[i]? = some d) : ∃ z, ws[i]? = some z ∧ d = .int z := by
  rw [List.getElem?_map] at h
  cases e : ws[i]? with
  | none => rw [e] at h; cases h
  | some z => rw [e] at h; cases h; exact ⟨z, rfl, rfl⟩
theorem v_ixH {a : Addr} : oIxL (.hd (.ref a)) (.int i) μ Φ = ((∃ es, μ a = some (.lst es) ∧ ∃ d, atI es i = some d ∧ Φ d μ) ∨ (∃ es, μ a = some (.frz es) ∧ ∃ d, atI es i = some d ∧ Φ d μ)) := propext (Iff.intro (by
  rintro ⟨es, k, d, hi, _, e, q⟩
  cases e
  cases hi with
  | own h => exact .inl ⟨es, h, d, q⟩
  | frz h => exact .inr ⟨es, h, d, q⟩) (by
  rintro (⟨es, h, d, q⟩ | ⟨es, h, d, q⟩)
  · exact ⟨es, i, d, .own h, rfl, rfl, q⟩
  · exact ⟨es, i, d, .frz h, rfl, rfl, q⟩))
theorem v_items {a : Addr} {P : List D → Prop} : (∃ es, Items μ (.hd (.ref a)) es ∧ P es) = ((∃ es, μ a = some (.lst es) ∧ P es) ∨ (∃ es, μ a = some (.frz es) ∧ P es)) := propext (Iff.intro (by
  rintro ⟨es, hi, q⟩
  cases hi with
  | own h => exact .inl ⟨es, h, q⟩
  | frz h => exact .inr ⟨es, h, q⟩) (by
  rintro (⟨es, h, q⟩ | ⟨es, h, q⟩)
  · exact ⟨es, .own h, q⟩
  · exact ⟨es, .frz h, q⟩))
theorem v_itemsT {P : List D → Prop} : (∃ es, Items μ (.tup ds) es ∧ P es) = P ds := propext ⟨fun ⟨es, h, q⟩ => by cases h; exact q, fun q => ⟨ds, .tup ds, q⟩⟩
theorem v_itemsL {P : List D → Prop} : (∃ es, Items μ (.lst ds) es ∧ P es) = P ds := propext ⟨fun ⟨es, h, q⟩ => by cases h; exact q, fun q => ⟨ds, .lst ds, q⟩⟩
theorem v_itemsS {ns : List Int} {P : List D → Prop} : (∃ es, Items μ (.scr ns) es ∧ P es) = P (ns.map .int) := propext ⟨fun ⟨es, h, q⟩ => by cases h; exact q, fun q => ⟨_, .scr ns, q⟩⟩
theorem v_len : cLen [x] μ Φ = ∃ es, Items μ x es ∧ Φ (.int es.length) μ := propext ⟨fun ⟨y, es, e, h, q⟩ => by cases e; exact ⟨es, h, q⟩, fun ⟨es, h, q⟩ => ⟨x, es, rfl, h, q⟩⟩
theorem v_tuple : cTuple [x] μ Φ = ∃ es, Items μ x es ∧ Φ (.tup es) μ := propext ⟨fun ⟨y, es, e, h, q⟩ => by cases e; exact ⟨es, h, q⟩, fun ⟨es, h, q⟩ => ⟨x, es, rfl, h, q⟩⟩
theorem v_list : cList [x] μ Φ = ∃ es, Items μ x es ∧ Φ (.lst es) μ := propext ⟨fun ⟨y, es, e, h, q⟩ => by cases e; exact ⟨es, h, q⟩, fun ⟨es, h, q⟩ => ⟨x, es, rfl, h, q⟩⟩
theorem v_listOwn : cListOwn [x] μ Φ = ∃ es, Items μ x es ∧ ∀ p, μ p = none → Φ (.hd (.ref p)) (sset μ p (.lst es)) := propext ⟨fun ⟨y, es, e, h, q⟩ => by cases e; exact ⟨es, h, q⟩, fun ⟨es, h, q⟩ => ⟨x, es, rfl, h, q⟩⟩
section
variable {T : String}
theorem i_tT : instB (.tup xs) "tuple" = some true := rfl
theorem i_tI : instB (.tup xs) "int" = some false := rfl
theorem i_tB : instB (.tup xs) "bool" = some false := rfl
theorem i_tS : instB (.tup xs) "str" = some false := rfl
theorem i_nT : instB .non "tuple" = some false := rfl
theorem i_nI : instB .non "int" = some false := rfl
theorem i_nB : instB .non "bool" = some false := rfl
theorem i_nS : instB .non "str" = some false := rfl
theorem i_iT : instB (.int i) "tuple" = some false := rfl
theorem i_iI : instB (.int i) "int" = some true := rfl
theorem i_iB : instB (.int i) "bool" = some false := rfl
theorem i_iS : instB (.int i) "str" = some false := rfl
theorem i_bT : instB (.bl b) "tuple" = some false := rfl
theorem i_bI : instB (.bl b) "int" = some true := rfl
theorem i_bB : instB (.bl b) "bool" = some true := rfl
theorem i_bS : instB (.bl b) "str" = some false := rfl
theorem i_sT : instB (.str s) "tuple" = some false := rfl
theorem i_sI : instB (.str s) "int" = some false := rfl
theorem i_sB : instB (.str s) "bool" = some false := rfl
theorem i_sS : instB (.str s) "str" = some true := rfl
end
theorem w_eqB {c : Bool} : oEq (.bl b) (.bl c) μ Φ = Φ (.bl (decide (b = c))) μ := w_someb
/-- the turns of a comprehension that changes nothing -/
def givenD (n : Nat) (f : Nat → Bool) (v : Nat → D) : List D := ((List.range n).filter f).map v
theorem givenD_yes {n : Nat} {f : Nat → Bool} {v : Nat → D} (h : f n = true) : givenD (n + 1) f v = givenD n f v ++ [v n] := by
  unfold givenD
  rw [List.range_succ, List.filter_append, List.map_append, List.filter_cons, if_pos h] <;> rfl
theorem givenD_no {n : Nat} {f : Nat → Bool} {v : Nat → D} (h : f n = false) : givenD (n + 1) f v = givenD n f v := by
  unfold givenD
  rw [List.range_succ, List.filter_append, List.map_append, List.filter_cons, if_neg (by rw [h]; decide)]
  exact List.append_nil _
theorem givenD_len (n : Nat) (f : Nat → Bool) (v : Nat → D) : (givenD n f v).length ≤ n := by
  unfold givenD
  rw [List.length_map]
  have h := List.length_filter_le f (List.range n)
  rw [List.length_range] at h
  exact h
theorem givenD_all (n : Nat) (v : Nat → D) : givenD n (fun _ => true) v = (List.range n).map v := by
  unfold givenD
  rw [List.filter_eq_self.mpr fun _ _ => rfl]
theorem lc_go {γ : DG} {θ : DT} {φ : DE} {δw : DEnv} {μ1 : Sto} {xs : List D} (f : Nat → Bool) (v : Nat → D) (hz : xs.length ≤ 100000)
    (hs : ∀ (i : Nat) (d : D) (μ2 : Sto) (X : DK) (Y : Sto → Prop), xs[i]? = some d → Sub μ1 μ2 → (f i = true → X (v i) μ2) → (f i = false → Y μ2) →
      γ d δw μ2 fun δ3 μ3 => θ Ψ δ3 μ3 fun b μ4 => (b = true → φ Ψ δ3 μ4 X) ∧ (b = false → Y μ4))
    (hd : Φ (.lst (givenD xs.length f v)) μ1) : ∀ p, μ1 p = none → ∃ W : Nat → Sto → Prop, W 0 (sset μ1 p (.lst [])) ∧
  (∀ i d μ2, xs[i]? = some d → W i μ2 → γ d δw μ2 fun δ3 μ3 => θ Ψ δ3 μ3 fun b μ4 =>
    (b = true → φ Ψ δ3 μ4 fun y μ5 => ∃ acc, μ5 p = some (.lst acc) ∧ acc.length ≤ 100000 ∧ W (i + 1) (sset μ5 p (.lst (acc ++ [y])))) ∧ (b = false → W (i + 1) μ4)) ∧
  ∀ μ2, W xs.length μ2 → ∃ acc, μ2 p = some (.lst acc) ∧ Φ (.lst acc) (sdel μ2 p) := fun p hp => by
  refine ⟨fun i μ' => μ' = sset μ1 p (.lst (givenD i f v)), rfl, fun i d μ2 hi e => ?_, fun μ2 e => ?_⟩
  · subst e
    have hl : i < xs.length := (List.getElem?_eq_some_iff.mp hi).1
    refine hs i d _ _ _ hi (.set Sub.refl hp) (fun hf => ⟨_, sset_same, ?_, ?_⟩) fun hf => ?_
    · have := givenD_len i f v; omega
    · show sset (sset μ1 p (.lst (givenD i f v))) p (.lst (givenD i f v ++ [v i])) = sset μ1 p (.lst (givenD (i + 1) f v))
      rw [sset_sset, givenD_yes hf]
    · show sset μ1 p (.lst (givenD i f v)) = sset μ1 p (.lst (givenD (i + 1) f v))
      rw [givenD_no hf]
  · subst e
    refine ⟨_, sset_same, ?_⟩
    rw [sdel_sset hp]
    exact hd
/-- the list of a comprehension -/
def LcG (γ : DG) (θ : DT) (φ : DE) (δw : DEnv) (Ψ : XP) (xs : List D) (μ1 : Sto) (Φ : DK) : Prop := ∀ p, μ1 p = none → ∃ W : Nat → Sto → Prop, W 0 (sset μ1 p (.lst [])) ∧
  (∀ i d μ2, xs[i]? = some d → W i μ2 → γ d δw μ2 fun δ3 μ3 => θ Ψ δ3 μ3 fun b μ4 =>
    (b = true → φ Ψ δ3 μ4 fun y μ5 => ∃ acc, μ5 p = some (.lst acc) ∧ acc.length ≤ 100000 ∧ W (i + 1) (sset μ5 p (.lst (acc ++ [y])))) ∧ (b = false → W (i + 1) μ4)) ∧
  ∀ μ2, W xs.length μ2 → ∃ acc, μ2 p = some (.lst acc) ∧ Φ (.lst acc) (sdel μ2 p)
theorem u_lc {ι : DI} {γ : DG} {θ : DT} {φ : DE} {vs : List Nat} : dLc ι γ θ φ vs Ψ δ μ Φ = ι Ψ δ μ fun xs μ1 => LcG γ θ φ (dwipe δ vs) Ψ xs μ1 Φ := rfl
theorem lcG_pure {γ : DG} {θ : DT} {φ : DE} {δw : DEnv} {μ1 : Sto} {xs : List D} (f : Nat → Bool) (v : Nat → D) (hz : xs.length ≤ 100000)
    (hs : ∀ (i : Nat) (d : D) (μ2 : Sto) (X : DK) (Y : Sto → Prop), xs[i]? = some d → Sub μ1 μ2 → (f i = true → X (v i) μ2) → (f i = false → Y μ2) →
      γ d δw μ2 fun δ3 μ3 => θ Ψ δ3 μ3 fun b μ4 => (b = true → φ Ψ δ3 μ4 X) ∧ (b = false → Y μ4))
    (hd : Φ (.lst (givenD xs.length f v)) μ1) : LcG γ θ φ δw Ψ xs μ1 Φ := lc_go f v hz hs hd
/-- each item gives one -/
theorem lcG_map {γ : DG} {φ : DE} {δw : DEnv} {μ1 : Sto} {xs : List D} (v : Nat → D) (hz : xs.length ≤ 100000)
    (hs : ∀ (i : Nat) (d : D) (μ2 : Sto) (X : DK), xs[i]? = some d → Sub μ1 μ2 → X (v i) μ2 → γ d δw μ2 fun δ3 μ3 => φ Ψ δ3 μ3 X)
    (hd : Φ (.lst ((List.range xs.length).map v)) μ1) (mono : ∀ d δ μ (P Q : DEnv → Sto → Prop), (∀ a b, P a b → Q a b) → γ d δ μ P → γ d δ μ Q) : LcG γ dYes φ δw Ψ xs μ1 Φ := by
  refine lcG_pure (fun _ => true) v hz (fun i d μ2 X Y hi hsub hx hy => ?_) (by rw [givenD_all]; exact hd)
  exact mono _ _ _ _ _ (fun δ3 μ3 h => ⟨fun _ => h, fun z => nomatch z⟩) (hs i d μ2 X hi hsub (hx rfl))
theorem lcG_mapN {n : Nat} {φ : DE} {δw : DEnv} {μ1 : Sto} {xs : List D} (v : Nat → D) (hz : xs.length ≤ 100000)
    (hs : ∀ (i : Nat) (d : D) (μ2 : Sto) (X : DK), xs[i]? = some d → Sub μ1 μ2 → X (v i) μ2 → φ Ψ (δw.set n (some d)) μ2 X)
    (hd : Φ (.lst ((List.range xs.length).map v)) μ1) : LcG (eName n) dYes φ δw Ψ xs μ1 Φ :=
  lcG_map v hz hs hd fun d δ μ P Q h q => h _ _ q
theorem u_for {ι : DI} {γ : DG} {ω : DSt} : dFor ι γ ω Ψ Δ δ μ = ι Ψ δ μ fun xs μ1 => ∃ W : Nat → DEnv → Sto → Prop, W 0 δ μ1 ∧
  (∀ i d δ' μ', xs[i]? = some d → W i δ' μ' → γ d δ' μ' fun δ2 μ2 => ω Ψ { Δ with nx := W (i + 1), ct := W (i + 1), bk := Δ.nx } δ2 μ2) ∧ ∀ δ' μ', W xs.length δ' μ' → Δ.nx δ' μ' := rfl
section
variable {φ φ' : DE} {Ls : List D → Sto → Prop}
theorem u_iT : iSeqT φ Ψ δ μ Ls = φ Ψ δ μ fun x μ1 => ∃ ds, x = .tup ds ∧ Ls ds μ1 := rfl
theorem u_iL : iSeqL φ Ψ δ μ Ls = φ Ψ δ μ fun x μ1 => ∃ ds, x = .lst ds ∧ Ls ds μ1 := rfl
theorem u_iR1 : iR1 φ Ψ δ μ Ls = φ Ψ δ μ fun x μ1 => ∃ j, x = .int j ∧ j < 4611686018427387904 ∧ -4611686018427387904 ≤ j ∧ Ls (rngD 0 j.toNat) μ1 := rfl
theorem u_iR2 : iR2 φ φ' Ψ δ μ Ls = φ Ψ δ μ fun x μ1 => φ' Ψ δ μ1 fun y μ2 => ∃ i j, x = .int i ∧ y = .int j ∧ (-4611686018427387904 ≤ i ∧ i < 4611686018427387904 ∧ -4611686018427387904 ≤ j ∧ j < 4611686018427387904) ∧ Ls (rngD i (j - i).toNat) μ2 := rfl
theorem u_iZ : iZipT φ φ' Ψ δ μ Ls = φ Ψ δ μ fun x μ1 => φ' Ψ δ μ1 fun y μ2 => ∃ xs ys, x = .tup xs ∧ y = .tup ys ∧ Ls ((xs.zip ys).map fun p => .pr [p.1, p.2]) μ2 := rfl
theorem u_iS : iText φ Ψ δ μ Ls = φ Ψ δ μ fun x μ1 => ∃ s, x = .str s ∧ Ls (s.cps.toList.map fun c => .str ⟨#[c]⟩) μ1 := rfl
end
theorem w_lstE {P : List D → Prop} : (∃ es, D.lst ds = .lst es ∧ P es) = P ds := propext ⟨fun ⟨c, e, q⟩ => by cases e; exact q, fun q => ⟨ds, rfl, q⟩⟩
theorem rngD_get {lo : Int} {n i : Nat} {d : D} (h : (rngD lo n)[i]? = some d) : i < n ∧ d = .int (lo + (i : Int)) := by
  have hl := (List.getElem?_eq_some_iff.mp h).1
  rw [rngD_len] at hl
  rw [rngD_at hl] at h
  cases h
  exact ⟨hl, rfl⟩
theorem w_allB {P : List Bool} (e : ds = P.map .bl) (h : Φ (.bl (P.all id)) μ) : cAll [.lst ds] μ Φ := ⟨P, by rw [e], h⟩
/-- one statement, what follows named -/
theorem q_seq {ω ζ : DSt} (h : ∀ nx, nx = ζ Ψ Δ → ω Ψ ⟨nx, Δ.rt, Δ.bk, Δ.ct⟩ δ μ) : dSeq ω ζ Ψ Δ δ μ := h _ rfl
theorem atI_n {α : Type} {xs : List α} {j : Nat} {v : α} (h : xs[j]? = some v) : atI xs (j : Int) = some v := atI_nat h
theorem ret_same {Φ : DK} {d : D} {μ : Sto} (h : Φ d μ) : ∃ μ2, Sub μ2 μ ∧ Φ d μ2 := ⟨μ, Sub.refl, h⟩
theorem mulx (a b : Nat) (h1 : i.natAbs < 2 ^ a) (h2 : j.natAbs < 2 ^ b) (h : a + b ≤ 134217728) : CMulX i j := mulx_ok h1 h2 h
end
end DW
set_option Elab.async false
set_option linter.all false
set_option maxRecDepth 100000
set_option maxHeartbeats 4000000
namespace DW
open PySem PySem.Spec PyProof.Rows L2 HT
def dRevT (φ : DE) : DE := fun Ψ δ μ Φ => φ Ψ δ μ fun x μ1 => ∃ ds, x = .tup ds ∧ Φ (.tup ds.reverse) μ1
theorem tuple_mul1 (l : Addr) (items : Array Value) (n : Nat) (sl : Array (Option Value)) (dd : Option Addr) (x : Int) (u : Tok) (c0 : (decide (x < -(2 ^ 63)) || decide (x ≥ 2 ^ 63)) = false) (c1 : (items.isEmpty || x == 1) = true) :
    Meets (Builtin.«tuple.__mul__» ⟨[.ref l, .int x u], []⟩) (fun _ R s => s.heap.get? l = some { cls := .type "tuple", dict := dd, data := .seq items n, slots := sl } ∧ R (.ok (.ret (Value.ref l))) s) :=
  .of_wp fun prog w A R s h => by
    obtain ⟨hp, g, d, tk, os⟩ := s
    obtain ⟨hl, h⟩ := h
    have f1 := AutoSeq1.idx_int
    wp_walk using wpAny_loadPart' hl
    repeat (first
      | (refine wpAny_ite_false (decide_eq_false (by rw [c0]; exact Bool.false_ne_true)) ?_; wp_walk using wpAny_loadPart' hl)
      | (refine wpAny_ite_true (decide_eq_true (by rw [c1])) ?_; wp_walk using wpAny_loadPart' hl))
    exact ⟨_, rfl, h⟩
theorem tuple_mul0 (l : Addr) (items : Array Value) (n : Nat) (sl : Array (Option Value)) (dd : Option Addr) (x : Int) (u : Tok) (c0 : (decide (x < -(2 ^ 63)) || decide (x ≥ 2 ^ 63)) = false) (c1 : (items.isEmpty || x == 1) = false) (c2 : (decide (x ≤ 0) || items.isEmpty) = true) :
    Meets (Builtin.«tuple.__mul__» ⟨[.ref l, .int x u], []⟩) (fun _ R s => s.heap.get? l = some { cls := .type "tuple", dict := dd, data := .seq items n, slots := sl } ∧
      R (.ok (.ret (Value.ref s.heap.objs.size))) { s with heap := s.heap.push { cls := Value.type "tuple", data := Data.seq #[] }, toks := s.toks }) :=
  .of_wp fun prog w A R s h => by
    obtain ⟨hp, g, d, tk, os⟩ := s
    obtain ⟨hl, h⟩ := h
    have f1 := AutoSeq1.idx_int
    wp_walk using wpAny_loadPart' hl
    repeat (first
      | (refine wpAny_ite_false (decide_eq_false (by rw [c0]; exact Bool.false_ne_true)) ?_; wp_walk using wpAny_loadPart' hl)
      | (refine wpAny_ite_false (decide_eq_false (by rw [c1]; exact Bool.false_ne_true)) ?_; wp_walk using wpAny_loadPart' hl)
      | (refine wpAny_ite_true (decide_eq_true (by rw [c2])) ?_; wp_walk using wpAny_loadPart' hl))
    exact ⟨_, rfl, h⟩
def rRepBig (K : Fg) : R2 := fun x y H Q => ∃ l k xs, x = .ref l ∧ y = .int k ∧ SqT K H l xs ∧ xs ≠ [] ∧ 2 ≤ k ∧ k ≤ 1000 ∧ xs.length ≤ 1000 ∧ NewT H (List.replicate k.toNat xs).flatten Q
theorem op_repBig {X : Cx} : OpR X (binaryOp .Mult) (rRepBig X.K) := by
  intro pins s σ H x y v u Q I rx ry h
  obtain ⟨l, k, xs, rfl, rfl, hT, hne, g2, g3, hz, q⟩ := h
  cases rx
  obtain ⟨t, rfl⟩ := ry
  obtain ⟨its, r, ⟨⟨cls, dd, data, sl⟩, ho, hc, n, hd⟩, hs⟩ := I.tuple hT
  simp only at hc hd
  subst hc hd
  have many : its.length = xs.length := r.length.symm
  have some' : its.toArray.isEmpty = false := by
    cases its with
    | nil => exact absurd (List.eq_nil_of_length_eq_zero (l := xs) (by simpa using many.symm)) hne
    | cons a b => rfl
  have wide : (its.toArray.size : Int) * k ≤ 1000000 := by
    have z : ((xs.length : Nat) : Int) * k ≤ 1000 * k := Int.mul_le_mul_of_nonneg_right (by omega) (by omega)
    rw [List.size_toArray, many]; omega
  have fl : (List.replicate k.toNat xs).flatten.length ≤ sizeLine := by
    have z : k.toNat * xs.length ≤ 1000 * 1000 := Nat.mul_le_mul (by omega) hz
    rw [PyProof.Rows.lm_len_rep_flat, sizeLine_eq]; omega
  have fl2 : (List.replicate k.toNat its).flatten.length ≤ sizeLine := by rw [PyProof.Rows.lm_len_rep_flat, many, ← PyProof.Rows.lm_len_rep_flat]; exact fl
  have z0 : (decide (k < -(2 ^ 63)) || decide (k ≥ 2 ^ 63)) = false := by rw [decide_eq_false (by omega), decide_eq_false (by omega)]; rfl
  have z1 : (its.toArray.isEmpty || k == 1) = false := by rw [some', Bool.false_or]; exact beq_eq_false_iff_ne.mpr (by omega)
  have z2 : (decide (k ≤ 0) || its.toArray.isEmpty) = false := by rw [some', Bool.or_false]; exact decide_eq_false (by omega)
  have z4 : Builtin.Tuple.tupleTooMany ((its.toArray.size : Int) * k) = false := by unfold Builtin.Tuple.tupleTooMany; rw [sizeLine_eq]; exact decide_eq_false (by omega)
  have mul := tuple_mulW l its.toArray n dd sl k t z0 z1 z2 (by omega) z4 (by rw [size_rep, List.size_toArray]; exact fl2)
  have one : s.TypeIs (.ref l) "tuple" := ⟨_, ho, rfl⟩
  refine wpAny_binaryOp_repeat_ref (T := "tuple") (U := "int") (by decide) one (fun s' => typeIs_int s' k t) noFill_tuple_mul F.fills_int_mul F.slot_int_rmul repeat_tuple F.slot_int_index.lookup ?_
  refine call_meets F.slot_int_rmul (typeIs_int s k t) F.entry_int_rmul (F.args_int_rmul_2 _ _) (int_rmul_tuple k t l its.toArray n dd sl) ⟨ho, rfl, one, ?_⟩
  refine call_meets F.slot_tuple_mul one F.entry_tuple_mul (F.args_tuple_mul_2 _ _) mul ⟨ho, ?_⟩
  rw [size_rep]
  exact new_tup I fl (r.rep k.toNat) q
def rRepA (K : Fg) : R2 := fun x y H Q => ∃ l k xs, x = .ref l ∧ y = .int k ∧ SqT K H l xs ∧ k ≤ 1000 ∧ -1000000 ≤ k ∧ xs.length ≤ 1000 ∧ (xs = [] ∨ k = 1 → Q (.ref l) H) ∧ (xs ≠ [] → k ≤ 0 → NewT H [] Q) ∧
  (xs ≠ [] → 2 ≤ k → NewT H (List.replicate k.toNat xs).flatten Q)
theorem op_repA {X : Cx} : OpR X (binaryOp .Mult) (rRepA X.K) := by
  intro pins s σ H x y v u Q I rx ry h
  obtain ⟨l, k, xs, ex, ey, hT, h1, h2, hz, q1, q2, q3⟩ := h
  by_cases hbig : xs ≠ [] ∧ 2 ≤ k
  · exact op_repBig pins s σ H _ _ v u Q I rx ry ⟨l, k, xs, ex, ey, hT, hbig.1, hbig.2, h1, hz, q3 hbig.1 hbig.2⟩
  · subst ex ey
    cases rx
    obtain ⟨t, rfl⟩ := ry
    obtain ⟨its, r, ⟨⟨cls, dd, data, sl⟩, ho, hc, n, hd⟩, hs⟩ := I.tuple hT
    simp only at hc hd
    subst hc hd
    have hle : its.length = xs.length := r.length.symm
    have c0 : (decide (k < -(2 ^ 63)) || decide (k ≥ 2 ^ 63)) = false := by
      rw [decide_eq_false (by omega), decide_eq_false (by omega)] <;> rfl
    have hemp : its.toArray.isEmpty = decide (xs = []) := by
      cases its with
      | nil => rw [List.eq_nil_of_length_eq_zero (l := xs) (by simpa using hle.symm)]; rfl
      | cons a b =>
        have : xs ≠ [] := fun z => by rw [z] at hle; simp at hle
        rw [decide_eq_false this]; rfl
    by_cases hs1 : xs = [] ∨ k = 1
    · have c1 : (its.toArray.isEmpty || k == 1) = true := by
        rw [hemp]
        rcases hs1 with z | z
        · rw [decide_eq_true z]; rfl
        · rw [z]; simp
      refine wpAny_binaryOp_repeat_ref (T := "tuple") (U := "int") (by decide) ⟨_, ho, rfl⟩ (fun s' => typeIs_int s' k t) noFill_tuple_mul F.fills_int_mul F.slot_int_rmul repeat_tuple F.slot_int_index.lookup
        (call_meets F.slot_int_rmul (typeIs_int s k t) F.entry_int_rmul (F.args_int_rmul_2 _ _) (int_rmul_tuple k t l its.toArray n dd sl)
          ⟨ho, rfl, ⟨_, ho, rfl⟩, call_meets F.slot_tuple_mul ⟨_, ho, rfl⟩ F.entry_tuple_mul (F.args_tuple_mul_2 _ _) (tuple_mul1 l its.toArray n sl dd k t c0 c1) ⟨ho, ?_⟩⟩)
      exact ⟨.ref l, H, I, rfl, q1 hs1⟩
    · have hx : xs ≠ [] := fun z => hs1 (.inl z)
      have hk : k ≤ 0 := by
        have : ¬ 2 ≤ k := fun z => hbig ⟨hx, z⟩
        have : k ≠ 1 := fun z => hs1 (.inr z)
        omega
      have c1 : (its.toArray.isEmpty || k == 1) = false := by
        rw [hemp, decide_eq_false hx, Bool.false_or]
        exact beq_eq_false_iff_ne.mpr (by omega)
      have c2 : (decide (k ≤ 0) || its.toArray.isEmpty) = true := by rw [decide_eq_true hk]; rfl
      refine wpAny_binaryOp_repeat_ref (T := "tuple") (U := "int") (by decide) ⟨_, ho, rfl⟩ (fun s' => typeIs_int s' k t) noFill_tuple_mul F.fills_int_mul F.slot_int_rmul repeat_tuple F.slot_int_index.lookup
        (call_meets F.slot_int_rmul (typeIs_int s k t) F.entry_int_rmul (F.args_int_rmul_2 _ _) (int_rmul_tuple k t l its.toArray n dd sl)
          ⟨ho, rfl, ⟨_, ho, rfl⟩, call_meets F.slot_tuple_mul ⟨_, ho, rfl⟩ F.entry_tuple_mul (F.args_tuple_mul_2 _ _) (tuple_mul0 l its.toArray n sl dd k t c0 c1 c2) ⟨ho, ?_⟩⟩)
      exact new_tup (its := []) I (by decide) .nil (q2 hx hk)
def oRepT : DO := fun x y μ Φ => ∃ ds k, x = .tup ds ∧ y = .int k ∧ k ≤ 1000 ∧ -1000000 ≤ k ∧ ds.length ≤ 1000 ∧ Φ (.tup (List.replicate k.toNat ds).flatten) μ
theorem roRepT {K : Fg} : RO K (rRepA K) oRepT := fun H μ v w d e Φ Q s0 r1 r2 h k => by
  obtain ⟨ds, i, rfl, rfl, h1, h2, h3, q⟩ := h
  obtain ⟨p, vs, rfl, t1, t2⟩ := Rep.tup_inv r1
  obtain rfl := Rep.int_inv r2
  have hl := t2.length
  have nil : vs = [] → ds = [] := fun z => by rw [z] at hl; exact List.eq_nil_of_length_eq_zero hl.symm
  have rnil : ∀ n, (List.replicate n ([] : List D)).flatten = [] := fun n => by induction n <;> simp_all [List.replicate_succ]
  refine ⟨p, i, vs, rfl, rfl, t1.sq, h1, h2, by omega, fun z => ?_, fun z z2 q0 o ho hc hp => ?_, fun z z2 q0 o ho hc hp => ?_⟩
  · refine k _ H _ μ .refl s0 ?_ q
    have e : (List.replicate i.toNat ds).flatten = ds := by
      rcases z with z | z
      · rw [nil z, rnil]
      · subst z; simp
    rw [e]
    exact r1
  · refine k _ _ _ μ (.new hp) (s0.new hp) ?_ q
    have e : i.toNat = 0 := by omega
    rw [e]
    exact rep_tupN s0 hp ho hc .nil
  · exact k _ _ _ μ (.new hp) (s0.new hp) (rep_tupN s0 hp ho hc (reps_rep t2 _)) q
end DW
set_option Elab.async false
set_option linter.all false
set_option maxRecDepth 100000
set_option maxHeartbeats 4000000
namespace DW
open PySem PySem.Spec PyProof.Rows L2 GenW
end DW
set_option Elab.async false
set_option linter.all false
set_option maxRecDepth 100000
set_option maxHeartbeats 4000000
namespace DW
open PySem PySem.Spec PyProof.Rows L2 HotX
def kitD (K : Fg) : XD → V → Option Bool
  | .mk C none, .ref T => PySem.W.kitOne K (.ref C) (.ref T)
  | .mk C none, .ty T => PySem.W.kitOne K (.ref C) (.type T)
  | _, _ => none
def excOk (K : Fg) : XD → Prop
  | .mk C none => L2.ExcC K C
  | _ => False
def cIsX (K : Fg) (a : Addr) (x : XD) : DC := fun xs μ Φ => ∃ c b, xs = [.hd (.ref a), .hd c] ∧ kitD K x c = some b ∧ excOk K x ∧ Φ (.bl b) μ
section
variable {K : Fg} {B : Bx K}
theorem sCallSW {W : WX} {c : Con} {tas : TA} {ψ : DA} (hW : B.W = W) (a : SA B tas ψ) : SE B (tCallS (spOf K c) (WE W) tas) (dCallS c ψ) := by
  subst hW; exact sCallS a
theorem sRaise0W {W : WX} {C : Addr} (hW : B.W = W) : SS B (fun _ σ H => (fun (_ : L2.St) (H : Hp) (Q : XK) => Q (.ref C) none H) σ H fun cls d H' => W cls d σ H') (dRaise0 C) := by
  subst hW; exact sRaise0
def dTryAs (K : Fg) (c : Value) (i : Nat) (ω : DSt) (ζ : Addr → XD → DSt) : DSt := fun Ψ Δ δ μ => ω (fun x δ' μ' => ∃ b, (match x with | .mk D _ => PySem.W.exmOne K (.ref D) c) = some b ∧
  (b = true → ∀ a, μ' a = none → ζ a x Ψ ⟨fun δ2 μ2 => Δ.nx (δ2.set i none) μ2, Δ.rt, fun δ2 μ2 => Δ.bk (δ2.set i none) μ2, fun δ2 μ2 => Δ.ct (δ2.set i none) μ2⟩ (δ'.set i (some (.hd (.ref a)))) μ') ∧ (b = false → Ψ x δ' μ')) Δ δ μ
theorem sTryAs {c : Value} {i : Nat} {W : WX} {tb : WX → TS} {ts : Addr → Value → Option Addr → TS} {ω : DSt} {ζ : Addr → XD → DSt} (hW : B.W = W) (hb : ∀ (W' : WX) (B' : Bx K), B'.W = W' → SS B' (tb W') ω)
    (hs : ∀ (a : Addr) (cls : Value) (dd : Option Addr) (x : XD) (B' : Bx K), B'.W = W → RepX K B'.μ0 B'.H0 cls dd x → SS B' (ts a cls dd) (ζ a x)) :
    SS B (fun D σ H => tb (wAs K c i ts W D) D σ H) (dTryAs K c i ω ζ) := fun D Δ σ H δ μ E S q => by
  subst hW
  refine hb _ ⟨B.H0, B.μ0, wAs K c i ts B.W D, _, fun cls dd σ1 H1 x δ1 μ1 S1 rx q1 => ?_⟩ rfl D Δ σ H δ μ ⟨E.nx, E.rt, E.bk, E.ct⟩ S q
  obtain ⟨b, e1, hy, hn⟩ := q1
  have ec : ∃ C fs, x = .mk C fs ∧ cls = .ref C := by
    obtain ⟨C, fs⟩ := x
    cases fs with
    | none => exact ⟨C, _, rfl, rx.1⟩
    | some f => exact ⟨C, _, rfl, rx.1⟩
  obtain ⟨C, fs, rfl, rfl⟩ := ec
  refine ⟨b, e1, fun hb1 a ha => ?_, fun hb1 => B.hW _ _ σ1 H1 _ δ1 μ1 S1 rx (hn hb1)⟩
  have hfr := S1.sto.fresh ha
  refine hs a (.ref C) dd (.mk C fs) (B.re H1 μ1 S1.evo) rfl rx _ _ _ H1 _ μ1 ⟨fun σ2 H2 δ2 μ2 S2 q2 => ?_, fun v H2 d μ2 σ2 δ2 S2 r2 q2 => ?_, fun σ2 H2 δ2 μ2 S2 q2 => ?_, fun σ2 H2 δ2 μ2 S2 q2 => ?_⟩ ⟨.refl, S1.sto, S1.env.set (.hd _ .nil) i⟩ (hy hb1 a hfr)
  · exact E.nx _ H2 _ μ2 ⟨S1.evo.trans S2.evo, S2.sto, S2.env.unset i⟩ q2
  · exact E.rt v H2 d μ2 σ2 δ2 ⟨S1.evo.trans S2.evo, S2.sto, S2.env⟩ r2 q2
  · exact E.bk _ H2 _ μ2 ⟨S1.evo.trans S2.evo, S2.sto, S2.env.unset i⟩ q2
  · exact E.ct _ H2 _ μ2 ⟨S1.evo.trans S2.evo, S2.sto, S2.env.unset i⟩ q2
abbrev ConG := List D → Sto → (List D → Sto → Prop) → Prop
def dTupG (c : ConG) (ψ : DA) : DE := fun Ψ δ μ Φ => ψ Ψ δ μ fun xs μ1 => c xs μ1 fun es μ2 => Φ (.tup es) μ2
end
/-- what is wanted behind a statement of a generator -/
structure GDs where
  nx : List DW.D → DEnv → Sto → Prop
  rt : List DW.D → DW.D → Sto → Prop
  bk : List DW.D → DEnv → Sto → Prop
  ct : List DW.D → DEnv → Sto → Prop
abbrev DGn := XP → GDs → List DW.D → DEnv → Sto → Prop
section
variable {K : Fg} {B : Bx K}
def dGPlain (ω : DSt) : DGn := fun Ψ Δ es δ μ => ω Ψ ⟨Δ.nx es, Δ.rt es, Δ.bk es, Δ.ct es⟩ δ μ
def dGThen (ω ζ : DGn) : DGn := fun Ψ Δ es δ μ => ω Ψ ⟨fun es' δ' μ' => ζ Ψ Δ es' δ' μ', Δ.rt, Δ.bk, Δ.ct⟩ es δ μ
def dGNil : DGn := fun _ Δ es δ μ => Δ.nx es δ μ
def dYield (φ : DE) : DGn := fun Ψ Δ es δ μ => es.length ≤ 100000 ∧ φ Ψ δ μ fun x μ1 => Δ.nx (es ++ [x]) δ μ1
def dGWhile (θ : DT) (ω : DGn) : DGn := fun Ψ Δ es δ μ => ∃ W : Nat → List DW.D → DEnv → Sto → Prop, (∃ m, W m es δ μ) ∧ ∀ m es δ μ, W m es δ μ → θ Ψ δ μ fun b μ1 =>
  (b = true → ω Ψ ⟨fun es' δ' μ' => ∃ m', m' < m ∧ W m' es' δ' μ', Δ.rt, Δ.nx, fun es' δ' μ' => ∃ m', m' < m ∧ W m' es' δ' μ'⟩ es δ μ1) ∧ (b = false → Δ.nx es δ μ1)
end
theorem passN {X : Cx} : Passes (L2N.CX X.prog X.w) X E0 := fun _ _ _ _ _ _ _ h => by
  obtain ⟨_, _, _, _, _, _, _, _, _, _, _, _, z⟩ := h
  exact z.elim
/-- THE RULE for a def, whatever the air -/
theorem def_okC {CX : CXT} {P : Program} {w : World} {K : Fg} {mg : Str → Option Value} {base : Heap} {x qual : Str} {st : Stmt} {f : Addr} {fd : FuncData} {N ps : List Str} {k : Nat} {c : Con} (F : Fun K x qual st f fd) (Sc : FnScope N ps (defScope st)) (φ : DSt)
    (hl : ∀ ds μ Φ Ψ, c ds μ Φ Ψ → ds.length = ps.length)
    (hb : ∀ (cdv : Value) (A : Around) (outer : List Env) (s : Shared) (H : Hp) (E : XK) (B : Bx K), B.W = (fun cls d _ H => E cls d H) → Room k (A.deeper (PyProof.Rows.envOfC qual (defScope st) s.heap.objs.size f cdv)) →
      ∃ t, PSs (cxOf CX P w K mg base N qual (defScope st) f cdv A outer s H E) (defBody st) t ∧ SS B t φ)
    (hv : ∀ ds μ Φ Ψ, c ds μ Φ Ψ → φ (goalX Ψ) (goalE Φ) (dstart N ds) μ) : FnOk P w K mg base CX (k + 1) f fd ps (spOf K c) := by
  obtain ⟨oc, od, kV, doc, pm, an, cdv, ct, osl, rfl, lk, hcd⟩ := F.ex
  refine fn_of lk hcd Sc (fun vs H Q E h => ?_) (fun A outer s H vs Q E hr h => ?_)
  · obtain ⟨μ, ds, Φ, Ψ, _, r, hc, _⟩ := h
    rw [r.length]
    exact hl ds μ Φ Ψ hc
  · obtain ⟨μ, ds, Φ, Ψ, s0, r, hc, hq, hx⟩ := h
    let B : Bx K := ⟨H, μ, fun cls d _ H => E cls d H, goalX Ψ, fun cls dd σ H' x δ μ' S rx ⟨μ2, hs, q⟩ => hx cls dd H' x μ2 (S.evo.trans hs.evo) (hs.sto S.sto) (rx.mono hs.evo) q⟩
    obtain ⟨t, ht, hs⟩ := hb cdv A outer s H E B rfl hr
    refine ⟨t, ht, hs { nx := fun _ H' => Q .non H', rt := Q } (goalE Φ) (L2.start N vs) H (dstart N ds) μ ⟨fun σ H' δ μ' S ⟨μ2, h2, q⟩ => ?_, fun v H' d μ' σ δ S rv ⟨μ2, h2, q⟩ => ?_, fun _ _ _ _ _ z => z, fun _ _ _ _ _ z => z⟩ ⟨.refl, s0, env_start r⟩ (hv ds μ Φ Ψ hc)⟩
    · exact hq .non H' .non μ2 (S.evo.trans h2.evo) (h2.sto S.sto) (.non .nil) q
    · exact hq v H' d μ2 (S.evo.trans h2.evo) (h2.sto S.sto) (rv.mono h2.evo) q
section
variable {K : Fg} {φ : DE} {ψ : DA} {Ψ : XP} {δ : DEnv} {μ : Sto} {Φ : DK} {ω ζ : DSt} {Δ : DEnds} {ds es : List DW.D} {k : Int} {Γ : GDs} {α β : DGn} {θ : DT} {c : ConG} {cv : Value} {i : Nat} {ξ : Addr → XD → DSt}
theorem u_revT : dRevT φ Ψ δ μ Φ = φ Ψ δ μ fun x μ1 => ∃ ds, x = .tup ds ∧ Φ (.tup ds.reverse) μ1 := rfl
theorem w_repT : oRepT (.tup ds) (.int k) μ Φ = (k ≤ 1000 ∧ -1000000 ≤ k ∧ ds.length ≤ 1000 ∧ Φ (.tup (List.replicate k.toNat ds).flatten) μ) := propext ⟨fun ⟨a, b, e1, e2, q⟩ => by cases e1; cases e2; exact q, fun q => ⟨_, _, rfl, rfl, q⟩⟩
theorem u_tupG : dTupG c ψ Ψ δ μ Φ = ψ Ψ δ μ fun xs μ1 => c xs μ1 fun es μ2 => Φ (.tup es) μ2 := rfl
theorem u_try : dTryAs K cv i ω ξ Ψ Δ δ μ = ω (fun x δ' μ' => ∃ b, (match x with | .mk D _ => PySem.W.exmOne K (.ref D) cv) = some b ∧
  (b = true → ∀ a, μ' a = none → ξ a x Ψ ⟨fun δ2 μ2 => Δ.nx (δ2.set i none) μ2, Δ.rt, fun δ2 μ2 => Δ.bk (δ2.set i none) μ2, fun δ2 μ2 => Δ.ct (δ2.set i none) μ2⟩ (δ'.set i (some (.hd (.ref a)))) μ') ∧ (b = false → Ψ x δ' μ')) Δ δ μ := rfl
theorem u_gPlain : dGPlain ω Ψ Γ es δ μ = ω Ψ ⟨Γ.nx es, Γ.rt es, Γ.bk es, Γ.ct es⟩ δ μ := rfl
theorem u_gThen : dGThen α β Ψ Γ es δ μ = α Ψ ⟨fun es' δ' μ' => β Ψ Γ es' δ' μ', Γ.rt, Γ.bk, Γ.ct⟩ es δ μ := rfl
theorem u_gNil : dGNil Ψ Γ es δ μ = Γ.nx es δ μ := rfl
theorem u_yield : dYield φ Ψ Γ es δ μ = (es.length ≤ 100000 ∧ φ Ψ δ μ fun x μ1 => Γ.nx (es ++ [x]) δ μ1) := rfl
theorem u_gWhile : dGWhile θ α Ψ Γ es δ μ = ∃ W : Nat → List DW.D → DEnv → Sto → Prop, (∃ m, W m es δ μ) ∧ ∀ m es δ μ, W m es δ μ → θ Ψ δ μ fun b μ1 =>
  (b = true → α Ψ ⟨fun es' δ' μ' => ∃ m', m' < m ∧ W m' es' δ' μ', Γ.rt, Γ.nx, fun es' δ' μ' => ∃ m', m' < m ∧ W m' es' δ' μ'⟩ es δ μ1) ∧ (b = false → Γ.nx es δ μ1) := rfl
theorem u_while : dWhile θ ω Ψ Δ δ μ = ∃ W : Nat → DEnv → Sto → Prop, (∃ m, W m δ μ) ∧ ∀ m δ μ, W m δ μ → θ Ψ δ μ fun b μ1 =>
  (b = true → ω Ψ { Δ with nx := fun δ' μ' => ∃ m', m' < m ∧ W m' δ' μ', ct := fun δ' μ' => ∃ m', m' < m ∧ W m' δ' μ', bk := Δ.nx } δ μ1) ∧ (b = false → Δ.nx δ μ1) := rfl
theorem u_isX {a : Addr} {x : XD} {c : V} : cIsX K a x [.hd (.ref a), .hd c] μ Φ = ∃ b, kitD K x c = some b ∧ excOk K x ∧ Φ (.bl b) μ := propext ⟨fun ⟨c', b, e, q⟩ => by cases e; exact ⟨b, q⟩, fun ⟨b, q⟩ => ⟨c, b, rfl, q⟩⟩
theorem u_kitR {C T : Addr} : kitD K (.mk C none) (.ref T) = PySem.W.kitOne K (.ref C) (.ref T) := rfl
theorem u_kitT {C : Addr} {T : String} : kitD K (.mk C none) (.ty T) = PySem.W.kitOne K (.ref C) (.type T) := rfl
theorem u_excOk {C : Addr} : excOk K (.mk C none) = L2.ExcC K C := rfl
theorem w_zipE {P : List DW.D → List DW.D → Prop} : (∃ xs ys, D.tup ds = D.tup xs ∧ D.tup es = D.tup ys ∧ P xs ys) = P ds es := propext ⟨fun ⟨a, b, e1, e2, q⟩ => by cases e1; cases e2; exact q, fun q => ⟨_, _, rfl, rfl, q⟩⟩
theorem u_goalX {G : XD → Sto → Prop} {x : XD} : goalX G x δ μ = ∃ μ2, Sub μ2 μ ∧ G x μ2 := rfl
theorem cut_to (p : Nat) : cutD ds none (some (p : Int)) = ds.take p := by
  unfold cutD
  show (ds.drop 0).take (min (p : Int).toNat ds.length - 0) = _
  rw [List.drop_zero, Nat.sub_zero, Int.toNat_natCast]
  by_cases h : p ≤ ds.length
  · rw [Nat.min_eq_left h]
  · rw [Nat.min_eq_right (by omega), List.take_length, List.take_of_length_le (by omega)]
theorem cut_from (p : Nat) : cutD ds (some (p : Int)) none = ds.drop p := by
  unfold cutD
  show (ds.drop (min (p : Int).toNat ds.length)).take (ds.length - min (p : Int).toNat ds.length) = _
  rw [Int.toNat_natCast]
  by_cases h : p ≤ ds.length
  · rw [Nat.min_eq_left h, List.take_of_length_le (by rw [List.length_drop]; omega)]
  · rw [Nat.min_eq_right (by omega), List.drop_length, List.take_nil, List.drop_eq_nil_of_le (by omega)]
theorem cut_from1 (p : Nat) : cutD ds (some ((p : Int) + 1)) none = ds.drop (p + 1) := cut_from (p + 1)
end
end DW
set_option Elab.async false
set_option linter.all false
set_option maxRecDepth 100000
set_option maxHeartbeats 4000000
namespace DW
open PySem PySem.Spec PyProof.Rows L2
section
variable {K : Fg} {B : Bx K} {te ta tb : TE} {φ φa φb : DE} {tl th : TO} {ol oh : XP → DEnv → Sto → (Option Int → Sto → Prop) → Prop}
def oCatS : DO := fun x y μ Φ => ∃ s t, x = .str s ∧ y = .str t ∧ s.length + t.length ≤ 100000 ∧ Φ (.str (s ++ t)) μ
def oInS (neg : Bool) : DO := fun x y μ Φ => ∃ (c : Nat) (z : Str), x = .str ⟨#[c]⟩ ∧ y = .str z ∧ Φ (.bl (if neg then !decide (c ∈ z.cps.toList) else decide (c ∈ z.cps.toList))) μ
def oIxS : DO := fun x y μ Φ => ∃ z i c, x = .str z ∧ y = .int i ∧ z.length ≤ 100000 ∧ atI z.cps.toList i = some c ∧ Φ (.str ⟨#[c]⟩) μ
def dSlS (φ : DE) (ol oh : XP → DEnv → Sto → (Option Int → Sto → Prop) → Prop) : DE := fun Ψ δ μ Φ => φ Ψ δ μ fun x μ1 => ol Ψ δ μ1 fun lo μ2 => oh Ψ δ μ2 fun hi μ3 => ∃ z, x = .str z ∧ z.length ≤ 100000 ∧ Φ (.str (cutS z lo hi)) μ3
def cStr : DC := fun xs μ Φ => (∃ i, xs = [.int i] ∧ i.natAbs.log2 < 1920 ∧ Φ (.str (toString i)) μ) ∨ ∃ a, xs = [.str a] ∧ Φ (.str a) μ
end
end DW
set_option Elab.async false
set_option linter.all false
set_option maxRecDepth 100000
set_option maxHeartbeats 4000000
namespace DW
open PySem PySem.Spec PyProof.Rows L2
def iEnD (φ : DE) (c : Int) : DI := fun Ψ δ μ Φ => φ Ψ δ μ fun x μ1 => ∃ ds, x = .tup ds ∧ Φ ((List.range ds.length).map fun (i : Nat) => .pr [.int (c + (i : Int)), ds.getD i .non]) μ1
end DW
set_option Elab.async false
set_option linter.all false
set_option maxRecDepth 100000
set_option maxHeartbeats 4000000
namespace DW
open PySem PySem.Spec PyProof.Rows L2 NdefX PySem.W
end DW
set_option Elab.async false
set_option linter.all false
set_option maxRecDepth 100000
set_option maxHeartbeats 4000000
namespace DW
open PySem PySem.Spec PyProof.Rows L2 NdefX PySem.W
end DW
set_option Elab.async false
set_option linter.all false
set_option maxRecDepth 100000
set_option maxHeartbeats 4000000
namespace DW
open PySem PySem.Spec PyProof.Rows L2 NdefX PySem.W
end DW
set_option Elab.async false
set_option linter.all false
set_option maxRecDepth 100000
set_option maxHeartbeats 4000000
namespace DW
open PySem PySem.Spec PyProof.Rows L2
section
variable {K : Fg} {B : Bx K}
def dRaise1 (C : Addr) (fld : Str) (okd : D → Prop) (φ : DE) : DSt := fun Ψ _ δ μ => φ Ψ δ μ fun x μ1 => okd x ∧ Ψ (.mk C (some ([fld], [x]))) δ μ1
/-- n.f, n the error that a suite holds -/
def dXf (a : Addr) (x : XD) (C : Addr) (f : Str) (φ : DE) : DE := fun Ψ δ μ Φ => φ Ψ δ μ fun y μ1 => y = .hd (.ref a) ∧ ∃ (ns : List Str) (ds : List DW.D) (i : Nat) (d : DW.D), x = .mk C (some (ns, ds)) ∧ ns[i]? = some f ∧ ns.Nodup ∧ ds[i]? = some d ∧ Φ d μ1
theorem zip_lookup : ∀ {ns : List Str} {us : List V} {i : Nat} {f : Str} {v : V}, ns.Nodup → ns[i]? = some f → us[i]? = some v → (ns.zip us).lookup f = some v
  | [], us, i, f, v, _, h, _ => by cases h
  | n :: ns, [], i, f, v, _, _, h => by cases h
  | n :: ns, u :: us, 0, f, v, _, h1, h2 => by
    have e1 := Option.some.inj h1
    have e2 := Option.some.inj h2
    subst e1 e2
    simp [List.lookup]
  | n :: ns, u :: us, i + 1, f, v, hn, h1, h2 => by
    have hne : ¬ (f = n) := fun z => by
      have : f ∈ ns := List.mem_of_getElem? h1
      rw [z] at this
      exact (List.nodup_cons.mp hn).1 this
    have hb : (f == n) = false := by simp [hne]
    show (match f == n with | true => some u | false => (ns.zip us).lookup f) = some v
    rw [hb]
    exact zip_lookup (List.nodup_cons.mp hn).2 h1 h2
def rIsH (K : Fg) (cls : Value) (dd : Option Addr) (a : Addr) : List V → Hp → VK → Prop := fun xs H Q => ∃ C, cls = .ref C ∧ L2.ExcC K C ∧ (dd = none ∨ ∃ p fs, dd = some p ∧ H p = some (.xd fs)) ∧
  ∃ (c : V) (cv : Value) (b : Bool), xs = [.ref a, c] ∧ (∀ u, RelV c u → u = cv) ∧ PySem.W.kitOne K (.ref C) cv = some b ∧ Q (.bl b) H
theorem call_isH {X : Cx} {a : Addr} {cls : Value} {dd : Option Addr} {oe : Obj} {pn : List (Addr × Obj)} (hz : L2N.Zn cls dd oe) (hf : ∃ vs, oe.data = .fields vs) : CallR (X.suite a ((a, oe) :: pn)) (.builtin "isinstance") (rIsH X.K cls dd a) := by
  intro pins s σ H xs us Q I r h
  obtain ⟨C, rfl, hC, hdd, c, cv, b, rfl, hcv, e, q⟩ := h
  obtain ⟨hget, _⟩ := I.pin (a, oe) (List.mem_append.mpr (.inl List.mem_cons_self))
  obtain ⟨vs, hv⟩ := hf
  obtain ⟨u1, u2, rfl, r1, r2⟩ := vals2 r
  obtain rfl : u1 = Value.ref a := r1
  have ec := hcv _ r2
  subst ec
  obtain ⟨od, J⟩ : ∃ od, PySem.W.InstAt s.heap a oe C od := by
    obtain ⟨oc, od, oda, osl⟩ := oe
    obtain ⟨h1, h2, _⟩ := hz
    dsimp only at h1 h2 hv
    subst h1 hv
    rcases hdd with z | ⟨p, fs, z, hp⟩
    · subst z; subst h2; exact ⟨none, hget, rfl, rfl, trivial⟩
    · subst z; subst h2
      obtain ⟨mA, ⟨o, es, ep, ho, _⟩, _⟩ := (I.hok p _ hp)
      exact ⟨some o, hget, rfl, rfl, ho⟩
  have hcl : (PySem.W.clsIn X.K C).isSome = true := by
    obtain ⟨cd, q, _⟩ := PySem.W.any_some hC.hd
    rw [q]; rfl
  exact PySem.W.kia_one (PySem.W.kitx_exc hcl hC.hg hC.hk hC.hs hC.ha hC.hn hC.ht hC.hm) I.kIn J e (fun z => nomatch z) fun tk => ⟨.bl b, H, I.kept (t' := tk) fun _ _ z => z, rfl, q⟩
def kitE (K : Fg) : XD → V → Option Bool
  | .mk C _, .ref T => PySem.W.kitOne K (.ref C) (.ref T)
  | .mk C _, .ty T => PySem.W.kitOne K (.ref C) (.type T)
  | _, _ => none
def excE (K : Fg) : XD → Prop
  | .mk C _ => L2.ExcC K C
def dIsE (K : Fg) (a : Addr) (x : XD) (ψ : DA) : DE := fun Ψ δ μ Φ => ψ Ψ δ μ fun xs μ1 => ∃ c b, xs = [.hd (.ref a), .hd c] ∧ kitE K x c = some b ∧ excE K x ∧ Φ (.bl b) μ1
theorem sIsE {a : Addr} {cls : Value} {dd : Option Addr} {x : XD} {tas : TA} {ψ : DA} (rx : RepX K B.μ0 B.H0 cls dd x) (s : SA B tas ψ) : SE B (tCB (rIsH K cls dd a) tas) (dIsE K a x ψ) := fun σ H δ μ Φ Q S q k =>
  s σ H δ μ _ _ S q fun vs H1 xs μ1 S1 e1 r1 q1 => by
    obtain ⟨c, b, rfl, hk, hx, q2⟩ := q1
    obtain ⟨v, w, rfl, ra, rb⟩ := reps2 r1
    obtain rfl := Rep.hd_inv ra
    obtain rfl := Rep.hd_inv rb
    obtain ⟨C, fs⟩ := x
    have hcd : cls = .ref C ∧ (dd = none ∨ ∃ p fs', dd = some p ∧ H1 p = some (.xd fs')) := by
      cases fs with
      | none => exact ⟨rx.1, .inl rx.2⟩
      | some f =>
        obtain ⟨ns, ds⟩ := f
        obtain ⟨hc, p, us, hp, hH, hn, _⟩ := rx
        exact ⟨hc, .inr ⟨p, _, hp, (S1.evo.st _ _ hH hn).1⟩⟩
    obtain ⟨rfl, hdd⟩ := hcd
    refine ⟨C, rfl, hx, hdd, ?_⟩
    cases w with
    | ref T => exact ⟨_, .ref T, b, rfl, fun u h => by cases h; rfl, hk, k _ H1 _ μ1 S1 e1 (.bl _ .nil) q2⟩
    | ty T => exact ⟨_, .type T, b, rfl, fun u h => by cases h; rfl, hk, k _ H1 _ μ1 S1 e1 (.bl _ .nil) q2⟩
    | _ => cases hk
end
end DW
set_option Elab.async false
set_option linter.all false
set_option maxRecDepth 100000
set_option maxHeartbeats 4000000
namespace DW
open PySem PySem.Spec PyProof.Rows L2
end DW
set_option Elab.async false
set_option linter.all false
set_option maxRecDepth 100000
namespace DW
open PySem PySem.Spec PyProof.Rows L2
section
variable {K : Fg} {μ : Sto} {Φ : DK}
/-- len of a text -/
def cLenStr : DC := fun xs μ Φ => ∃ z, xs = [.str z] ∧ z.length ≤ 100000 ∧ Φ (.int z.length) μ
theorem w_lenStr {s : Str} : cLenStr [.str s] μ Φ = ((TL.tl s).length ≤ 100000 ∧ Φ (.int (TL.tl s).length) μ) := propext ⟨fun ⟨z, e, h1, q⟩ => by cases e; exact ⟨h1, q⟩, fun ⟨h1, q⟩ => ⟨s, rfl, h1, q⟩⟩
theorem w_catStr {s t : Str} : oCatS (.str s) (.str t) μ Φ = ((TL.tl s).length + (TL.tl t).length ≤ 100000 ∧ Φ (.str (s ++ t)) μ) := propext ⟨fun ⟨a, b, e1, e2, h, q⟩ => by cases e1; cases e2; exact ⟨h, q⟩, fun ⟨h, q⟩ => ⟨s, t, rfl, rfl, h, q⟩⟩
theorem w_ixStr {s : Str} {i : Int} : oIxS (.str s) (.int i) μ Φ = ((TL.tl s).length ≤ 100000 ∧ ∃ c, atI (TL.tl s) i = some c ∧ Φ (.str ⟨#[c]⟩) μ) := propext ⟨fun ⟨z, j, c, e1, e2, h, h2, q⟩ => by cases e1; cases e2; exact ⟨h, c, h2, q⟩, fun ⟨h, c, h2, q⟩ => ⟨s, i, c, rfl, rfl, h, h2, q⟩⟩
theorem w_inStr {c : Nat} {z : Str} : oInS false (.str ⟨#[c]⟩) (.str z) μ Φ = Φ (.bl (decide (c ∈ TL.tl z))) μ := propext ⟨fun ⟨c', z', e1, e2, q⟩ => by cases e1; cases e2; exact q, fun q => ⟨c, z, rfl, rfl, q⟩⟩
theorem w_strE {s : Str} {P : Str → Prop} : (∃ z, D.str s = D.str z ∧ P z) = P s := propext ⟨fun ⟨z, e, h⟩ => by cases e; exact h, fun h => ⟨s, rfl, h⟩⟩
theorem w_strI {i : Int} : cStr [.int i] μ Φ = (i.natAbs.log2 < 1920 ∧ Φ (.str (toString i)) μ) := propext ⟨(fun h => by
  rcases h with ⟨j, e, h1, q⟩ | ⟨a, e, q⟩
  · cases e; exact ⟨h1, q⟩
  · cases e), fun ⟨h1, q⟩ => .inl ⟨i, rfl, h1, q⟩⟩
theorem w_strS {s : Str} : cStr [.str s] μ Φ = Φ (.str s) μ := propext ⟨(fun h => by
  rcases h with ⟨j, e, h1, q⟩ | ⟨a, e, q⟩
  · cases e
  · cases e; exact q), fun q => .inr ⟨s, rfl, q⟩⟩
end
end DW
set_option Elab.async false
set_option linter.all false
set_option maxRecDepth 100000
namespace DW
open PySem PySem.Spec PyProof.Rows L2
section
variable {K : Fg} {μ : Sto} {Φ : DK} {Ψ : XP} {δ : DEnv}
theorem u_iEn {φ : DE} {c : Int} {Ls : List D → Sto → Prop} : iEnD φ c Ψ δ μ Ls = φ Ψ δ μ fun x μ1 => ∃ ds, x = .tup ds ∧ Ls ((List.range ds.length).map fun (i : Nat) => .pr [.int (c + (i : Int)), ds.getD i .non]) μ1 := rfl
theorem u_raise1 {C : Addr} {fld : Str} {okd : D → Prop} {φ : DE} {Δ : DEnds} : dRaise1 C fld okd φ Ψ Δ δ μ = φ Ψ δ μ fun x μ1 => okd x ∧ Ψ (.mk C (some ([fld], [x]))) δ μ1 := rfl
theorem u_slS {φ : DE} {ol oh : XP → DEnv → Sto → (Option Int → Sto → Prop) → Prop} : dSlS φ ol oh Ψ δ μ Φ = φ Ψ δ μ fun x μ1 => ol Ψ δ μ1 fun lo μ2 => oh Ψ δ μ2 fun hi μ3 => ∃ z, x = .str z ∧ z.length ≤ 100000 ∧ Φ (.str (cutS z lo hi)) μ3 := rfl
def cListStr : DC := fun xs μ Φ => ∃ z : Str, xs = [.str z] ∧ z.length ≤ 100000 ∧ Φ (.lst (z.cps.toList.map fun c => .str ⟨#[c]⟩)) μ
theorem w_listStr {s : Str} : cListStr [.str s] μ Φ = ((TL.tl s).length ≤ 100000 ∧ Φ (.lst ((TL.tl s).map fun c => .str ⟨#[c]⟩)) μ) := propext ⟨fun ⟨z, e, h1, q⟩ => by cases e; exact ⟨h1, q⟩, fun ⟨h1, q⟩ => ⟨s, rfl, h1, q⟩⟩
end
end DW
set_option Elab.async false
set_option linter.all false
set_option maxRecDepth 100000
namespace DW
open PySem PySem.Spec PyProof.Rows L2
structure Two (μ : Sto) (p st : Addr) (L c : List D) (μ' : Sto) : Prop where
  hp : μ p = none
  ne : st ≠ p
  pL : μ' p = some (.lst L)
  sc : μ' st = some (.lst c)
  ot : ∀ a, a ≠ p → a ≠ st → μ' a = μ a
theorem Two.start {μ : Sto} {p st : Addr} {L c : List D} (hp : μ p = none) (hs : μ st = some (.lst c)) : Two μ p st L c (sset μ p (.lst L)) := by
  have ne : st ≠ p := fun z => by rw [z, hp] at hs; cases hs
  exact ⟨hp, ne, sset_same, by rw [sset_ne ne]; exact hs, fun a h _ => sset_ne h⟩
theorem Two.setS {μ μ' : Sto} {p st : Addr} {L c c2 : List D} (T : Two μ p st L c μ') : Two μ p st L c2 (sset μ' st (.lst c2)) :=
  ⟨T.hp, T.ne, by rw [sset_ne (Ne.symm T.ne)]; exact T.pL, sset_same, fun a h1 h2 => by rw [sset_ne h2]; exact T.ot a h1 h2⟩
theorem Two.setP {μ μ' : Sto} {p st : Addr} {L L2 c : List D} (T : Two μ p st L c μ') : Two μ p st L2 c (sset μ' p (.lst L2)) :=
  ⟨T.hp, T.ne, sset_same, by rw [sset_ne T.ne]; exact T.sc, fun a h1 h2 => by rw [sset_ne h1]; exact T.ot a h1 h2⟩
theorem Two.del {μ μ' : Sto} {p st : Addr} {L c : List D} (T : Two μ p st L c μ') : sdel μ' p = sset μ st (.lst c) := by
  funext a
  unfold sdel
  by_cases h : a = p
  · subst h; rw [if_pos rfl, sset_ne (Ne.symm T.ne), T.hp]
  · rw [if_neg h]
    by_cases h2 : a = st
    · subst h2; rw [sset_same, T.sc]
    · rw [sset_ne h2]; exact T.ot a h h2
/-- a comprehension whose items are drawn from the state at st -/
theorem lcG_drawN {Ψ : XP} {Φ : DK} {n : Nat} {φ : DE} {δw : DEnv} {μ1 : Sto} {xs : List D} {st : Addr} (Sc : List D → Prop) (Inv : Nat → List D → Prop) {c : List D} (hz : xs.length ≤ 100000)
    (hst : μ1 st = some (.lst c)) (h0 : Sc c) (hI : Inv 0 [])
    (hs : ∀ (i : Nat) (d : D) (μ2 : Sto) (X : DK) (acc c : List D), xs[i]? = some d → μ2 st = some (.lst c) → Sc c → Inv i acc → acc.length = i →
      (∀ y c', Sc c' → Inv (i + 1) (acc ++ [y]) → X y (sset μ2 st (.lst c'))) → φ Ψ (δw.set n (some d)) μ2 X)
    (hd : ∀ acc c, Inv xs.length acc → acc.length = xs.length → Sc c → Φ (.lst acc) (sset μ1 st (.lst c))) : LcG (eName n) dYes φ δw Ψ xs μ1 Φ := fun p hp => by
  refine ⟨fun i μ' => ∃ acc c, Two μ1 p st acc c μ' ∧ Sc c ∧ Inv i acc ∧ acc.length = i, ⟨[], c, .start hp hst, h0, hI, rfl⟩, ?_, ?_⟩
  · rintro i d μ2 hi ⟨acc, c, T, s, I, hl⟩
    have hlt : i < xs.length := (List.getElem?_eq_some_iff.mp hi).1
    refine ⟨fun _ => ?_, fun z => nomatch z⟩
    exact hs i d μ2 _ acc c hi T.sc s I hl fun y c' s' I' => ⟨acc, T.setS.pL, by omega, _, c', T.setS.setP, s', I', by simp [hl]⟩
  · rintro μ2 ⟨acc, c, T, s, I, hl⟩
    exact ⟨acc, T.pL, by rw [T.del]; exact hd acc c I hl s⟩
section
variable {K : Fg} {μ : Sto} {Φ : DK} {Ψ : XP} {δ : DEnv}
theorem u_isE {a : Addr} {x : XD} {ψ : DA} : dIsE K a x ψ Ψ δ μ Φ = ψ Ψ δ μ fun xs μ1 => ∃ c b, xs = [.hd (.ref a), .hd c] ∧ kitE K x c = some b ∧ excE K x ∧ Φ (.bl b) μ1 := rfl
theorem w_isE {a : Addr} {c : V} {P : V → Bool → Prop} : (∃ c' b, [D.hd (.ref a), D.hd c] = [.hd (.ref a), .hd c'] ∧ P c' b) = ∃ b, P c b := propext ⟨fun ⟨c', b, e, q⟩ => by cases e; exact ⟨b, q⟩, fun ⟨b, q⟩ => ⟨c, b, rfl, q⟩⟩
theorem u_kitER {C T : Addr} {f : Option (List Str × List D)} : kitE K (.mk C f) (.ref T) = PySem.W.kitOne K (.ref C) (.ref T) := rfl
theorem u_kitET {C : Addr} {T : String} {f : Option (List Str × List D)} : kitE K (.mk C f) (.ty T) = PySem.W.kitOne K (.ref C) (.type T) := rfl
theorem u_excE {C : Addr} {f : Option (List Str × List D)} : excE K (.mk C f) = L2.ExcC K C := rfl
theorem u_xf {a C : Addr} {x : XD} {f : Str} {φ : DE} : dXf a x C f φ Ψ δ μ Φ = φ Ψ δ μ fun y μ1 => y = .hd (.ref a) ∧ ∃ (ns : List Str) (ds : List D) (i : Nat) (d : D), x = .mk C (some (ns, ds)) ∧ ns[i]? = some f ∧ ns.Nodup ∧ ds[i]? = some d ∧ Φ d μ1 := rfl
theorem w_xf1 {C : Addr} {f : Str} {d : D} {P : D → Prop} : (∃ (ns : List Str) (ds : List D) (i : Nat) (d' : D), XD.mk C (some ([f], [d])) = .mk C (some (ns, ds)) ∧ ns[i]? = some f ∧ ns.Nodup ∧ ds[i]? = some d' ∧ P d') = P d := propext ⟨fun ⟨ns, ds, i, d', e, h1, _, h2, q⟩ => by
  cases e
  cases i with
  | zero => cases h2; exact q
  | succ i => simp at h1, fun q => ⟨[f], [d], 0, d, rfl, rfl, by simp, rfl, q⟩⟩
end
end DW
set_option Elab.async false
set_option linter.all false
set_option maxRecDepth 100000
set_option maxHeartbeats 4000000
namespace DW
open PySem PySem.Spec PyProof.Rows L2
section layer
variable {X : Cx} {CX : CXT} {k : Nat} {f C : Addr} {fd : FuncData} {ps : List Str} {sp : Sp} {E : L2.St → XK} {x m : Str} {p pos apos : Pos} {e o : Expr} {es : List Expr} {ta : TE} {t : TA}
theorem run_makeS {pins : List (Addr × Obj)} {σ : L2.St} {H : Hp} {s : Shared} {Q : VK} {us : List Value} {vs : List V} (M : Mk X.K C f) (F : FnOk X.prog X.w X.K X.mg X.base CX k f fd ps sp) (hr : Room (k + 1) X.A) (hb : Binds X.K fd ps [])
    (hx : ∀ σ, PassesAt CX X σ (E σ)) (I : Inv X pins σ H s) (r : Vals vs us)
    (h : ∀ x dx, H x = none → H dx = none → dx ≠ x → sp (.ref x :: vs) (upd (upd H dx (.own x)) x (.ins C dx [])) (fun v H2 => v = .non ∧ Q (.ref x) H2) (E σ)) :
    wpAny (model X.prog X.w) X.A (call (.ref C) us) (EP X pins σ Q) X.xe s := by
  have hq := h (s.heap.objs.size + 1) s.heap.objs.size (I.hok.fresh (Nat.le_succ _)) (I.hok.fresh (Nat.le_refl _)) (Nat.ne_of_lt (Nat.lt_succ_self _))
  have I2 := Inv.made (C := C) I
  have r2 : Vals (V.ref (s.heap.objs.size + 1) :: vs) (Value.ref (s.heap.objs.size + 1) :: us) := .cons rfl r
  have hl : (Value.ref (s.heap.objs.size + 1) :: us).length = ps.length := by
    have e := r2.length
    rw [F.len _ _ _ _ hq] at e
    exact e.symm
  have hb2 := hb _ (Value.ref (s.heap.objs.size + 1) :: us) I2.kIn (by rw [List.append_nil]; exact hl)
  rw [List.append_nil] at hb2
  refine wpAny_call (make_map (f := f) I.kIn M.makes M.init (beq_iff_eq.mp M.fn) (codeAny_mono (F.run _ X.stack _ _ ⟨Value.ref (s.heap.objs.size + 1) :: us, []⟩ (Value.ref (s.heap.objs.size + 1) :: us) _ _ (E σ) (hr.make C us [])
    (I2.env0.make C us []) hb2 r2 hq) fun r s' hq' => ?_))
  cases r with
  | error e => exact hx σ pins _ _ e s' I2 hq'
  | ok fl =>
    cases fl with
    | ret u =>
      obtain ⟨v, H', I3, rv, ev, q3⟩ := I2.after hq'
      subst ev
      exact ⟨rv, ⟨V.ref (s.heap.objs.size + 1), H', I3, rfl, q3⟩⟩
    | next => exact False.elim hq'
    | brk => exact False.elim hq'
    | cont => exact False.elim hq'
def tMakeS (C : Addr) (sp : Sp) (E : L2.St → XK) (t : TA) : TE := fun σ H Q => t σ H fun vs H1 => ∀ x dx, H1 x = none → H1 dx = none → dx ≠ x → sp (.ref x :: vs) (upd (upd H1 dx (.own x)) x (.ins C dx [])) (fun v H2 => v = .non ∧ Q (.ref x) H2) (E σ)
theorem pe_makeS (M : Mk X.K C f) (F : FnOk X.prog X.w X.K X.mg X.base CX k f fd ps sp) (hr : Room (k + 1) X.A) (hg : Gl X x) (hm : X.mg x = some (.ref C)) (hb : Binds X.K fd ps []) (hx : ∀ σ, PassesAt CX X σ (E σ))
    (ha : PA X (e :: es) t) (hdb : (x == ("__debug__" : Str)) = false := by decide) (he : starEach (e :: es) X.env = (false, eval e X.env) :: starEach es X.env := by rfl) (hpl : (backTo pos (starEach es X.env)).any (·.1) = false := by rfl) :
    PE X (.Call (.Name x p) (e :: es) [] pos) (tMakeS C sp E t) := by
  refine ⟨fun pins s σ H Q I h => ?_⟩
  refine wpAny_Call_Name_kw (ld_glob I hg hm ?_ hdb)
  refine PySem.W.callWith_K (h₀ := X.base) I.ok.mod.kin M.kp (thn (ha.run pos pins s σ H _ I h) fun us s1 ⟨vs, H1, I1, r, q⟩ => ⟨I1.kIn, ?_⟩) he hpl
  exact run_makeS M F hr hb hx I1 r q
def tMethX (C : Addr) (m : Str) (sp : Sp) (E : L2.St → XK) (ta : TE) (t : TA) : TE := fun σ H Q => ta σ H fun x H1 => ∃ a dx fs, x = .ref a ∧ H1 a = some (.ins C dx fs) ∧ fs.lookup m = none ∧ t σ H1 fun vs H2 => sp (x :: vs) H2 Q (E σ)
theorem pe_methX {pl : Sem Bool} (he : PE X o ta) (c : Cls X.K C) (hm : Meth X.K C m f) (F : FnOk X.prog X.w X.K X.mg X.base CX k f fd ps sp) (hr : Room k X.A) (hb : Binds X.K fd ps []) (hx : ∀ σ, PassesAt CX X σ (E σ)) (ha : PA X (e :: es) t)
    (hst : starEach (e :: es) X.env = (false, eval e X.env) :: starEach es X.env := by rfl) (hpl : (backTo pos (starEach es X.env)).any (·.1) = false := by rfl)
    (ht : eval (.Call (.Attribute o m apos) (e :: es) [] pos) X.env = (do
      let ov ← eval o X.env
      standAt apos.atName
      let (f, first) ← holding [ov] (getMethod ov m pl)
      callWith pos f first (backTo pos (starEach (e :: es) X.env)) (backToKw pos (keywordEach [] X.env))) := by rfl) :
    PE X (.Call (.Attribute o m apos) (e :: es) [] pos) (tMethX C m sp E ta t) := by
  refine ⟨fun pins s σ H Q I h => ?_⟩
  refine PySem.W.methodCall_KW (pl := pl) (thn (he.run pins s σ H _ I h) fun u s1 ⟨x, H1, I1, rx, a, dx, fs, ex, ea, l, q⟩ => ?_) ht
  subst ex
  obtain rfl : u = Value.ref a := rx
  refine getmeth_ok I1 ea c hm l ?_
  refine PySem.W.callWith_K (first := [.ref a]) (h₀ := X.base) I.ok.mod.kin hm.kp (thn (ha.run pos pins s1 σ H1 _ I1 q) fun us s2 ⟨vs, H2, I2, r, q2⟩ => ⟨I2.kIn, ?_⟩) hst hpl
  exact run_fnS (us := .ref a :: us) (vs := .ref a :: vs) F hr hb (hx σ) I2 (.cons rfl r) q2
end layer
section
variable {K : Fg} {B : Bx K} {ta tv : TE} {φ φa φv : DE} {tas : TA} {ψ : DA} {μ : Sto} {H : Hp}
theorem Rep.obj_inv {v : V} {C : Addr} {ns : List Str} {ds : List D} (h : Rep K μ H v (.obj C ns ds)) : ∃ a dx us, v = .ref a ∧ H a = some (.ins C dx (ns.zip us)) ∧ NM μ a ∧ us.length = ns.length ∧ Reps K μ H us ds := by
  cases h with
  | obj h1 h2 h3 h4 _ => exact ⟨_, _, _, rfl, h1, h2, h3, h4⟩
/-- C(..), C a class whose __init__ keeps c -/
def dMakeS (C : Addr) (c : Con) (ψ : DA) : DE := fun Ψ δ μ Φ => ψ Ψ δ μ fun ds μ1 => ∀ x, μ1 x = none → c (.hd (.ref x) :: ds) (sset μ1 x (.ins C [] [])) (fun d μ2 => d = .non ∧ ∃ ns es, μ2 x = some (.ins C ns es) ∧ Φ (.obj C ns es) (sdel μ2 x)) (fun y μ2 => Ψ y δ μ2)
theorem sMakeS {C : Addr} {c : Con} (a : SA B tas ψ) : SE B (tMakeS C (spOf K c) (WE B.W) tas) (dMakeS C c ψ) := fun σ H δ μ Φ Q S q k =>
  a σ H δ μ _ _ S q fun vs H1 xs μ1 S1 e1 r1 q1 x dx hx hdx hne => by
    have hx' : upd H1 dx (.own x) x = none := by rw [upd_ne (Ne.symm hne)]; exact hx
    have ev0 : Evo μ1 H1 μ1 (upd H1 dx (.own x)) := .new hdx
    have st0 : StoOk K μ1 (upd H1 dx (.own x)) := S1.sto.new hdx
    have ev1 : Evo μ1 (upd H1 dx (.own x)) (sset μ1 x (.ins C [] [])) (upd (upd H1 dx (.own x)) x (.ins C dx [])) := .newC st0 hx'
    have st1 : StoOk K (sset μ1 x (.ins C [] [])) (upd (upd H1 dx (.own x)) x (.ins C dx [])) := st0.cell ev1 ⟨dx, [], upd_same, rfl, .nil⟩
    have ev := ev0.trans ev1
    refine ⟨sset μ1 x (.ins C [] []), .hd (.ref x) :: xs, _, _, st1, .hd _ (r1.mono ev), q1 x (S1.sto.fresh hx), fun v H' d μ' e s r ⟨hd, ns, es, hc, hq⟩ => ?_, fun cls dd H' y μ' e s rx hΨ => ?_⟩
    · subst hd
      obtain rfl := Rep.non_inv r
      refine ⟨rfl, ?_⟩
      obtain ⟨dx', us, hH, hl, hr⟩ := s x _ hc
      have sb : Sub (sdel μ' x) μ' := sdel_sub
      have e2 : Evo μ' H' (sdel μ' x) H' := sb.evo
      exact k _ H' _ (sdel μ' x) (S1.step (ev.trans (e.trans e2)) (sb.sto s)) (e1.trans (ev.trans (e.trans e2))) (.obj hH (NM.of sdel_same) hl (hr.mono e2) .nil) hq
    · exact B.hW cls dd σ H' y δ μ' (S1.step (ev.trans e) s) rx hΨ
/-- x.f, x an instance at rest -/
def dFld (C : Addr) (NS : List Str) (i : Nat) (φ : DE) : DE := fun Ψ δ μ Φ => φ Ψ δ μ fun x μ1 => ∃ ds d, x = .obj C NS ds ∧ ds[i]? = some d ∧ Φ d μ1
theorem sFldO {C : Addr} {NS : List Str} {f : Str} {i : Nat} (c : Cls K C) (n : NoAttr K C f) (hi : NS[i]? = some f) (hn : NS.Nodup) (a : SE B ta φ) : SE B (tFld K ta f) (dFld C NS i φ) := fun σ H δ μ Φ Q S q k =>
  a σ H δ μ _ _ S q fun v H1 x μ1 S1 e1 r1 q1 => by
    obtain ⟨ds, d, rfl, hd, q⟩ := q1
    obtain ⟨p, dx, us, rfl, hH, hnm, hl, hr⟩ := Rep.obj_inv r1
    obtain ⟨u, hu, ru⟩ := hr.get hd
    exact ⟨p, C, dx, _, u, rfl, hH, c, n, zip_lookup hn hi hu, k u H1 d μ1 S1 e1 ru q⟩
theorem putF_new {f : Str} {v : V} : ∀ {ns : List Str} {us : List V}, f ∉ ns → us.length = ns.length → putF f v (ns.zip us) = (ns ++ [f]).zip (us ++ [v])
  | [], [], _, _ => rfl
  | [], _ :: _, _, h => by simp at h
  | _ :: _, [], _, h => by simp at h
  | n :: ns, u :: us, hf, hl => by
    show (if n = f then (n, v) :: ns.zip us else (n, u) :: putF f v (ns.zip us)) = _
    rw [if_neg (fun e => hf (by rw [e]; exact List.mem_cons_self)), putF_new (fun h => hf (List.mem_cons_of_mem _ h)) (by simpa using hl)]
    rfl
/-- self.f = value, a new field of an instance in the making -/
def dSetF (C : Addr) (f : Str) (φv φa : DE) : DSt := fun Ψ Δ δ μ => φv Ψ δ μ fun y μ1 => φa Ψ δ μ1 fun x μ2 => ∃ a ns ds, x = .hd (.ref a) ∧ μ2 a = some (.ins C ns ds) ∧ f ∉ ns ∧ ns.length < 1000 ∧ Δ.nx δ (sset μ2 a (.ins C (ns ++ [f]) (ds ++ [y])))
theorem sSetF {C : Addr} {f : Str} (c : Cls K C) (n : NoAttr K C f) (b : SE B tv φv) (a : SE B ta φa) : SS B (sFld K ta tv f) (dSetF C f φv φa) := fun D Δ σ H δ μ E S q =>
  b σ H δ μ _ _ S q fun w H1 y μ1 S1 e1 r1 q1 => a σ H1 δ μ1 _ _ S1 q1 fun v H2 x μ2 S2 e2 r2 q2 => by
    obtain ⟨p, ns, ds, rfl, hc, hf, hz, q⟩ := q2
    obtain rfl := Rep.hd_inv r2
    obtain ⟨dx, us, hH, hl, hr⟩ := S2.sto p _ hc
    refine ⟨p, C, dx, _, rfl, hH, c, n, by rw [List.length_zip, hl, Nat.min_self]; exact hz, ?_⟩
    rw [putF_new hf hl]
    have ev : Evo μ2 H2 (sset μ2 p (.ins C (ns ++ [f]) (ds ++ [y]))) (upd H2 p (.ins C dx ((ns ++ [f]).zip (us ++ [w])))) := .cell hc fun h => h.notI hc
    exact E.nx σ _ δ _ (S2.step ev (S2.sto.cell ev ⟨dx, us ++ [w], upd_same, by simp [hl], (hr.append (r1.mono e2)).mono ev⟩)) q
/-- x.m(..), x an instance at rest -/
def dMethX (C : Addr) (NS : List Str) (c : Con) (φ : DE) (ψ : DA) : DE := fun Ψ δ μ Φ => φ Ψ δ μ fun x μ1 => ∃ es, x = .obj C NS es ∧ ψ Ψ δ μ1 fun ds μ2 => c (x :: ds) μ2 Φ fun y μ3 => Ψ y δ μ3
theorem lookup_zip_none {m : Str} : ∀ {ns : List Str} {us : List V}, m ∉ ns → (ns.zip us).lookup m = none
  | [], _, _ => rfl
  | _ :: _, [], _ => rfl
  | n :: ns, u :: us, h => by
    show (match m == n with | true => some u | false => (ns.zip us).lookup m) = none
    have : (m == n) = false := beq_eq_false_iff_ne.mpr fun e => h (by rw [e]; exact List.mem_cons_self)
    rw [this]
    exact lookup_zip_none fun z => h (List.mem_cons_of_mem _ z)
theorem sMethX {C : Addr} {NS : List Str} {m : Str} {c : Con} (hm : m ∉ NS) (a : SE B ta φ) (b : SA B tas ψ) : SE B (tMethX C m (spOf K c) (WE B.W) ta tas) (dMethX C NS c φ ψ) := fun σ H δ μ Φ Q S q k =>
  a σ H δ μ _ _ S q fun v H1 x μ1 S1 e1 r1 q1 => by
    obtain ⟨es, rfl, q2⟩ := q1
    obtain ⟨p, dx, us, rfl, hH, hnm, hl, hr⟩ := Rep.obj_inv r1
    refine ⟨p, dx, _, rfl, hH, lookup_zip_none hm, b σ H1 δ μ1 _ _ S1 q2 fun vs H2 ds μ2 S2 e2 r2 q3 => ?_⟩
    exact ⟨μ2, _, Φ, fun y μ3 => B.Ψ y δ μ3, S2.sto, .cons (r1.mono e2) r2, q3, fun v H3 d μ3 e3 s3 r3 q4 => k v H3 d μ3 (S2.step e3 s3) ((e1.trans e2).trans e3) r3 q4, fun cls dd H3 y μ3 e3 s3 rx q4 => B.hW cls dd σ H3 y δ μ3 (S2.step e3 s3) rx q4⟩
end
end DW
set_option Elab.async false
set_option linter.all false
set_option maxRecDepth 100000
set_option maxHeartbeats 4000000
namespace DW
open PySem PySem.Spec PyProof.Rows L2
def dSortSet (φ : DE) : DE := fun Ψ δ μ Φ => φ Ψ δ μ fun x μ1 => ∃ zs : List Int, Items μ1 x (zs.map .int) ∧ (zs.length ≤ 1000 ∧ ∃ bd : List Int, bd.length < 64 ∧ ∀ z ∈ zs, z ∈ bd) ∧ ∀ ns : List Int, ns.Pairwise (· < ·) → (∀ k : Int, k ∈ ns ↔ k ∈ zs) → Φ (.lst (ns.map .int)) μ1
end DW
set_option Elab.async false
set_option linter.all false
set_option maxRecDepth 100000
set_option maxHeartbeats 4000000
namespace DW
open PySem PySem.Spec PyProof.Rows L2
section
variable {K : Fg} {B : Bx K} {ta tb : TE} {φ φ' φa φb : DE} {tas : TA} {ψ : DA}
def cMaxL : DC := fun xs μ Φ => ∃ x ns, xs = [x] ∧ Items μ x (ns.map .int) ∧ isTup x = false ∧ ns ≠ [] ∧ ∀ m, m ∈ ns → (∀ y, y ∈ ns → y ≤ m) → Φ (.int m) μ
def cMinL : DC := fun xs μ Φ => ∃ x ns, xs = [x] ∧ Items μ x (ns.map .int) ∧ isTup x = false ∧ ns ≠ [] ∧ ∀ m, m ∈ ns → (∀ y, y ∈ ns → m ≤ y) → Φ (.int m) μ
def oRepL : DO := fun x y μ Φ => ∃ ds k, x = .lst ds ∧ y = .int k ∧ k ≤ 100000 ∧ -100000 ≤ k ∧ ds.length * k.toNat ≤ 100000 ∧ Φ (.lst (List.replicate k.toNat ds).flatten) μ
theorem Reps.rep {μ : Sto} {H : Hp} {vs : List V} {ds : List D} (h : Reps K μ H vs ds) : ∀ k : Nat, Reps K μ H (List.replicate k vs).flatten (List.replicate k ds).flatten
  | 0 => .nil
  | k + 1 => by rw [List.replicate_succ, List.replicate_succ, List.flatten_cons, List.flatten_cons]; exact h.append (h.rep k)
def dLstR1 (φ : DE) : DE := fun Ψ δ μ Φ => φ Ψ δ μ fun x μ1 => ∃ j, x = .int j ∧ 0 ≤ j ∧ j ≤ 100000 ∧ Φ (.lst (rngD 0 j.toNat)) μ1
def iZipL (φ φ' : DE) : DI := fun Ψ δ μ Φ => φ Ψ δ μ fun x μ1 => φ' Ψ δ μ1 fun y μ2 => ∃ xs ys, x = .lst xs ∧ y = .lst ys ∧ Φ ((xs.zip ys).map fun p => .pr [p.1, p.2]) μ2
def iEnL (φ : DE) : DI := fun Ψ δ μ Φ => φ Ψ δ μ fun x μ1 => ∃ ds, x = .lst ds ∧ Φ ((List.range ds.length).map fun (i : Nat) => .pr [.int (i : Int), ds.getD i .non]) μ1
/-- xs.index(y), flat -/
def dIdx (φa φb : DE) : DE := fun Ψ δ μ Φ => φa Ψ δ μ fun x μ1 => ∃ ds, x = .lst ds ∧ φb Ψ δ μ1 fun y μ2 => flatD y = true ∧ ds.all flatD = true ∧ ∃ (j : Nat) (z : D), ds[j]? = some z ∧ eqF z y = true ∧ (∀ (m : Nat) (z' : D), m < j → ds[m]? = some z' → eqF z' y = false) ∧ Φ (.int j) μ2
/-- o.pop(i), o a handle -/
def dPopAt (φa φb : DE) : DE := fun Ψ δ μ Φ => φa Ψ δ μ fun x μ1 => ∃ a ds, x = .hd (.ref a) ∧ μ1 a = some (.lst ds) ∧ φb Ψ δ μ1 fun y μ2 => ∃ es, μ2 a = some (.lst es) ∧ es.length ≤ 100000 ∧ ∃ (i : Nat) (d : D), y = .int i ∧ es[i]? = some d ∧ Φ d (sset μ2 a (.lst (es.eraseIdx i)))
theorem Reps.eraseIdx {μ : Sto} {H : Hp} {vs : List V} {ds : List D} (h : Reps K μ H vs ds) (i : Nat) : Reps K μ H (vs.eraseIdx i) (ds.eraseIdx i) := by
  rw [List.eraseIdx_eq_take_drop_succ, List.eraseIdx_eq_take_drop_succ]
  exact (h.take _).append (h.drop _)
end
section
variable {K : Fg} {B : Bx K} {ta tb : TE} {φ φ' φa φb : DE} {tas : TA} {ψ : DA}
theorem TupAt.bare {μ : Sto} {H : Hp} {a : Addr} {us : List V} (h : TupAt K μ H a us) : (∃ (o : Obj) (us : List V), H a = some (.frz o (.tup us)) ∧ o.dict = none ∧ o.cls = .type "tuple") ∨ ∃ o, K.lookup a = some o ∧ o.cls = .type "tuple" ∧ o.dict = none :=
  h.elim (fun ⟨o, h1, h2, h3, _⟩ => .inl ⟨o, us, h1, h2, h3⟩) fun ⟨o, _, _, h1, h2, h3, _⟩ => .inr ⟨o, h1, h2, h3⟩
def dCntT (φa φb : DE) : DE := fun Ψ δ μ Φ => φa Ψ δ μ fun x μ1 => ∃ ns : List Int, x = .tup (ns.map .int) ∧ φb Ψ δ μ1 fun y μ2 => ∃ k : Int, y = .int k ∧ Φ (.int (ns.count k : Nat)) μ2
def dIdxT (φa φb : DE) : DE := fun Ψ δ μ Φ => φa Ψ δ μ fun x μ1 => ∃ ns : List Int, x = .tup (ns.map .int) ∧ φb Ψ δ μ1 fun y μ2 => ∃ (k : Int) (j : Nat), y = .int k ∧ ns[j]? = some k ∧ (∀ m, m < j → ns[m]? ≠ some k) ∧ Φ (.int j) μ2
end
end DW
set_option Elab.async false
set_option linter.all false
set_option maxRecDepth 100000
set_option maxHeartbeats 4000000
namespace DW
open PySem PySem.Spec PyProof.Rows L2
section
variable {K : Fg} {B : Bx K} {ta tb : TE} {φa φb : DE} {w : World} {d : Addr} {tbl : List (Str × D)}
/-- d[z] -/
def oIxD (d : Addr) (tbl : List (Str × D)) : DO := fun x y μ Φ => x = .hd (.ref d) ∧ ∃ z v, y = .str z ∧ tbl.lookup z = some v ∧ Φ v μ
def oInD (d : Addr) (tbl : List (Str × D)) (neg : Bool) : DO := fun x y μ Φ => y = .hd (.ref d) ∧ ∃ z, x = .str z ∧ Φ (.bl (if neg then !(tbl.lookup z).isSome else (tbl.lookup z).isSome)) μ
end
section
variable {K : Fg} {B : Bx K} {tas : TA} {ψ : DA}
def dCallF (i : Nat) (F : Addr → Con → Prop) (ψ : DA) : DE := fun Ψ δ μ Φ => ∃ f c, F f c ∧ δ[i]? = some (some (.hd (.ref f))) ∧ ψ Ψ δ μ fun ds μ1 => c ds μ1 Φ fun y μ2 => Ψ y δ μ2
end
end DW
set_option Elab.async false
set_option linter.all false
set_option maxRecDepth 100000
set_option maxHeartbeats 4000000
namespace DW
open PySem PySem.Spec PyProof.Rows L2
section
variable {K : Fg} {B : Bx K} {ta : TE} {tas : TA} {φ φ' φa φb φv : DE} {ψ : DA} {W : WX} {C : Addr} {NS : List Str} {m : Str} {c : Con}
theorem sMakeSW (hW : B.W = W) (a : SA B tas ψ) : SE B (tMakeS C (spOf K c) (WE W) tas) (dMakeS C c ψ) := by
  subst hW
  exact sMakeS a
theorem sMethXW (hm : m ∉ NS) (hW : B.W = W) (a : SE B ta φ) (b : SA B tas ψ) : SE B (tMethX C m (spOf K c) (WE W) ta tas) (dMethX C NS c φ ψ) := by
  subst hW
  exact sMethX hm a b
end
/-- a statement of a class's suite -/
def clsS : Stmt → Nat → Stmt
  | .ClassDef _ _ _ b _ _ _ _ _ _ _, j => b.getD j (.Pass ⟨0, 0, 0, 0⟩)
  | s, _ => s
section
variable {K : Fg} {φ φ' φa φb φv : DE} {ψ : DA} {Ψ : XP} {δ : DEnv} {μ : Sto} {Φ : DK} {Δ : DEnds} {C d : Addr} {NS : List Str} {i j : Nat} {c : Con} {f z : Str} {F : Addr → Con → Prop} {ds es : List D} {k : Int} {tbl : List (Str × D)} {n : Bool} {x : D}
theorem u_fld : dFld C NS i φ Ψ δ μ Φ = φ Ψ δ μ fun x μ1 => ∃ ds d, x = .obj C NS ds ∧ ds[i]? = some d ∧ Φ d μ1 := rfl
theorem w_fld {P : D → Prop} : (∃ es d, D.obj C NS ds = .obj C NS es ∧ es[i]? = some d ∧ P d) = ∃ d, ds[i]? = some d ∧ P d := propext ⟨fun ⟨es, d, e, h, q⟩ => by cases e; exact ⟨d, h, q⟩, fun ⟨d, h, q⟩ => ⟨_, d, rfl, h, q⟩⟩
theorem w_someE {y : D} {P : D → Prop} : (∃ d, some y = some d ∧ P d) = P y := propext ⟨fun ⟨_, e, q⟩ => by cases e; exact q, fun q => ⟨_, rfl, q⟩⟩
theorem u_setF : dSetF C f φv φa Ψ Δ δ μ = φv Ψ δ μ fun y μ1 => φa Ψ δ μ1 fun x μ2 => ∃ a ns ds, x = .hd (.ref a) ∧ μ2 a = some (.ins C ns ds) ∧ f ∉ ns ∧ ns.length < 1000 ∧ Δ.nx δ (sset μ2 a (.ins C (ns ++ [f]) (ds ++ [y]))) := rfl
theorem u_methX : dMethX C NS c φ ψ Ψ δ μ Φ = φ Ψ δ μ fun x μ1 => ∃ es, x = .obj C NS es ∧ ψ Ψ δ μ1 fun ds μ2 => c (x :: ds) μ2 Φ fun y μ3 => Ψ y δ μ3 := rfl
theorem w_objE {P : List D → Prop} : (∃ es, D.obj C NS ds = .obj C NS es ∧ P es) = P ds := propext ⟨fun ⟨_, e, q⟩ => by cases e; exact q, fun q => ⟨_, rfl, q⟩⟩
theorem u_makeS : dMakeS C c ψ Ψ δ μ Φ = ψ Ψ δ μ fun ds μ1 => ∀ x, μ1 x = none → c (.hd (.ref x) :: ds) (sset μ1 x (.ins C [] [])) (fun d μ2 => d = .non ∧ ∃ ns es, μ2 x = some (.ins C ns es) ∧ Φ (.obj C ns es) (sdel μ2 x)) (fun y μ2 => Ψ y δ μ2) := rfl
theorem u_sortSet : dSortSet φ Ψ δ μ Φ = φ Ψ δ μ fun x μ1 => ∃ zs : List Int, Items μ1 x (zs.map .int) ∧ (zs.length ≤ 1000 ∧ ∃ bd : List Int, bd.length < 64 ∧ ∀ z ∈ zs, z ∈ bd) ∧ ∀ ns : List Int, ns.Pairwise (· < ·) → (∀ k : Int, k ∈ ns ↔ k ∈ zs) → Φ (.lst (ns.map .int)) μ1 := rfl
theorem u_lstR1 : dLstR1 φ Ψ δ μ Φ = φ Ψ δ μ fun x μ1 => ∃ j, x = .int j ∧ 0 ≤ j ∧ j ≤ 100000 ∧ Φ (.lst (rngD 0 j.toNat)) μ1 := rfl
theorem u_iZipL {Φ : List D → Sto → Prop} : iZipL φ φ' Ψ δ μ Φ = φ Ψ δ μ fun x μ1 => φ' Ψ δ μ1 fun y μ2 => ∃ xs ys, x = .lst xs ∧ y = .lst ys ∧ Φ ((xs.zip ys).map fun p => D.pr [p.1, p.2]) μ2 := rfl
theorem u_iEnL {Φ : List D → Sto → Prop} : iEnL φ Ψ δ μ Φ = φ Ψ δ μ fun x μ1 => ∃ ds, x = .lst ds ∧ Φ ((List.range ds.length).map fun (i : Nat) => D.pr [.int (i : Int), ds.getD i .non]) μ1 := rfl
theorem u_idx : dIdx φa φb Ψ δ μ Φ = φa Ψ δ μ fun x μ1 => ∃ ds, x = .lst ds ∧ φb Ψ δ μ1 fun y μ2 => flatD y = true ∧ ds.all flatD = true ∧ ∃ (j : Nat) (z : D), ds[j]? = some z ∧ eqF z y = true ∧ (∀ (m : Nat) (z' : D), m < j → ds[m]? = some z' → eqF z' y = false) ∧ Φ (.int j) μ2 := rfl
theorem u_popAt : dPopAt φa φb Ψ δ μ Φ = φa Ψ δ μ fun x μ1 => ∃ a ds, x = .hd (.ref a) ∧ μ1 a = some (.lst ds) ∧ φb Ψ δ μ1 fun y μ2 => ∃ es, μ2 a = some (.lst es) ∧ es.length ≤ 100000 ∧ ∃ (i : Nat) (d : D), y = .int i ∧ es[i]? = some d ∧ Φ d (sset μ2 a (.lst (es.eraseIdx i))) := rfl
theorem u_cntT : dCntT φa φb Ψ δ μ Φ = φa Ψ δ μ fun x μ1 => ∃ ns : List Int, x = .tup (ns.map .int) ∧ φb Ψ δ μ1 fun y μ2 => ∃ k : Int, y = .int k ∧ Φ (.int (ns.count k : Nat)) μ2 := rfl
theorem u_idxT : dIdxT φa φb Ψ δ μ Φ = φa Ψ δ μ fun x μ1 => ∃ ns : List Int, x = .tup (ns.map .int) ∧ φb Ψ δ μ1 fun y μ2 => ∃ (k : Int) (j : Nat), y = .int k ∧ ns[j]? = some k ∧ (∀ m, m < j → ns[m]? ≠ some k) ∧ Φ (.int j) μ2 := rfl
theorem u_callF : dCallF i F ψ Ψ δ μ Φ = ∃ f c, F f c ∧ δ[i]? = some (some (.hd (.ref f))) ∧ ψ Ψ δ μ fun ds μ1 => c ds μ1 Φ fun y μ2 => Ψ y δ μ2 := rfl
theorem w_maxL : cMaxL [x] μ Φ = ∃ ns, Items μ x (ns.map .int) ∧ isTup x = false ∧ ns ≠ [] ∧ ∀ m, m ∈ ns → (∀ y, y ∈ ns → y ≤ m) → Φ (.int m) μ := propext ⟨fun ⟨_, ns, e, q⟩ => by cases e; exact ⟨ns, q⟩, fun ⟨ns, q⟩ => ⟨_, ns, rfl, q⟩⟩
theorem w_minL : cMinL [x] μ Φ = ∃ ns, Items μ x (ns.map .int) ∧ isTup x = false ∧ ns ≠ [] ∧ ∀ m, m ∈ ns → (∀ y, y ∈ ns → m ≤ y) → Φ (.int m) μ := propext ⟨fun ⟨_, ns, e, q⟩ => by cases e; exact ⟨ns, q⟩, fun ⟨ns, q⟩ => ⟨_, ns, rfl, q⟩⟩
theorem w_ixDc : oIxD d tbl (.hd (.ref d)) (.str z) μ Φ = ∃ v, tbl.lookup z = some v ∧ Φ v μ := propext ⟨fun ⟨_, _, v, e, h, q⟩ => by cases e; exact ⟨v, h, q⟩, fun ⟨v, h, q⟩ => ⟨rfl, _, v, rfl, h, q⟩⟩
theorem w_inDc : oInD d tbl n (.str z) (.hd (.ref d)) μ Φ = Φ (.bl (if n then !(tbl.lookup z).isSome else (tbl.lookup z).isSome)) μ := propext ⟨fun ⟨_, _, e, q⟩ => by cases e; exact q, fun q => ⟨rfl, _, rfl, q⟩⟩
theorem w_repL : oRepL (.lst ds) (.int k) μ Φ = (k ≤ 100000 ∧ -100000 ≤ k ∧ ds.length * k.toNat ≤ 100000 ∧ Φ (.lst (List.replicate k.toNat ds).flatten) μ) := propext ⟨fun ⟨_, _, e1, e2, q⟩ => by cases e1; cases e2; exact q, fun q => ⟨_, _, rfl, rfl, q⟩⟩
theorem w_listLs {P : List D → List D → Prop} : (∃ xs ys, D.lst ds = .lst xs ∧ D.lst es = .lst ys ∧ P xs ys) = P ds es := propext ⟨fun ⟨_, _, e1, e2, q⟩ => by cases e1; cases e2; exact q, fun q => ⟨_, _, rfl, rfl, q⟩⟩
end
end DW
set_option Elab.async false
set_option linter.all false
set_option maxRecDepth 100000
namespace DW
open PySem PySem.Spec PyProof.Rows L2
/-- list(range(n)), a list that will change -/
def dLstR1O (φ : DE) : DE := fun Ψ δ μ Φ => φ Ψ δ μ fun x μ1 => ∃ j, x = .int j ∧ 0 ≤ j ∧ j ≤ 100000 ∧ ∀ p, μ1 p = none → Φ (.hd (.ref p)) (sset μ1 p (.lst (rngD 0 j.toNat)))
theorem u_lstR1O {φ : DE} {Ψ : XP} {δ : DEnv} {μ : Sto} {Φ : DK} : dLstR1O φ Ψ δ μ Φ = φ Ψ δ μ fun x μ1 => ∃ j, x = .int j ∧ 0 ≤ j ∧ j ≤ 100000 ∧ ∀ p, μ1 p = none → Φ (.hd (.ref p)) (sset μ1 p (.lst (rngD 0 j.toNat))) := rfl
end DW
set_option Elab.async false
set_option linter.all false
set_option maxRecDepth 100000
namespace DW
open PySem PySem.Spec PyProof.Rows L2
/-- xs.count(k), xs a list of ints -/
def dCntL (φa φb : DE) : DE := fun Ψ δ μ Φ => φa Ψ δ μ fun x μ1 => ∃ ns : List Int, x = .lst (ns.map .int) ∧ φb Ψ δ μ1 fun y μ2 => ∃ k : Int, y = .int k ∧ Φ (.int (ns.count k : Nat)) μ2
theorem u_cntL {φa φb : DE} {Ψ : XP} {δ : DEnv} {μ : Sto} {Φ : DK} : dCntL φa φb Ψ δ μ Φ = φa Ψ δ μ fun x μ1 => ∃ ns : List Int, x = .lst (ns.map .int) ∧ φb Ψ δ μ1 fun y μ2 => ∃ k : Int, y = .int k ∧ Φ (.int (ns.count k : Nat)) μ2 := rfl
end DW
set_option Elab.async false
set_option linter.all false
set_option maxRecDepth 100000
namespace DW
open PySem PySem.Spec PyProof.Rows L2
end DW
set_option Elab.async false
set_option linter.all false
set_option maxRecDepth 100000
namespace DW
open PySem PySem.Spec PyProof.Rows L2
section
variable {K : Fg} {B : Bx K}
def dLc2 (ι : DI) (γ : DG) (θ : DT) (ι1 : DI) (γ1 : DG) (θ1 : DT) (φ : DE) (vs vs1 : List Nat) : DE := fun Ψ δ μ Φ => ι Ψ δ μ fun xs μ1 => ∀ p, μ1 p = none → ∃ W : Nat → Sto → Prop, W 0 (sset μ1 p (.lst [])) ∧
  (∀ i d μ2, xs[i]? = some d → W i μ2 → γ d (dwipe δ vs) μ2 fun δ3 μ3 => θ Ψ δ3 μ3 fun b μ4 =>
    (b = true → ι1 Ψ δ3 μ4 fun xs1 μ5 => ∃ W1 : Nat → Sto → Prop, W1 0 μ5 ∧
      (∀ j d1 μ6, xs1[j]? = some d1 → W1 j μ6 → γ1 d1 (dwipe δ3 vs1) μ6 fun δ7 μ7 => θ1 Ψ δ7 μ7 fun b1 μ8 =>
        (b1 = true → φ Ψ δ7 μ8 fun y μ9 => ∃ acc, μ9 p = some (.lst acc) ∧ acc.length ≤ 100000 ∧ W1 (j + 1) (sset μ9 p (.lst (acc ++ [y])))) ∧ (b1 = false → W1 (j + 1) μ8)) ∧
      ∀ μ6, W1 xs1.length μ6 → W (i + 1) μ6) ∧ (b = false → W (i + 1) μ4)) ∧
  ∀ μ2, W xs.length μ2 → ∃ acc, μ2 p = some (.lst acc) ∧ Φ (.lst acc) (sdel μ2 p)
end
def LcG2 (γ : DG) (θ : DT) (ι1 : DI) (γ1 : DG) (θ1 : DT) (φ : DE) (δw : DEnv) (vs1 : List Nat) (Ψ : XP) (xs : List D) (μ1 : Sto) (Φ : DK) : Prop := ∀ p, μ1 p = none → ∃ W : Nat → Sto → Prop, W 0 (sset μ1 p (.lst [])) ∧
  (∀ i d μ2, xs[i]? = some d → W i μ2 → γ d δw μ2 fun δ3 μ3 => θ Ψ δ3 μ3 fun b μ4 =>
    (b = true → ι1 Ψ δ3 μ4 fun xs1 μ5 => ∃ W1 : Nat → Sto → Prop, W1 0 μ5 ∧
      (∀ j d1 μ6, xs1[j]? = some d1 → W1 j μ6 → γ1 d1 (dwipe δ3 vs1) μ6 fun δ7 μ7 => θ1 Ψ δ7 μ7 fun b1 μ8 =>
        (b1 = true → φ Ψ δ7 μ8 fun y μ9 => ∃ acc, μ9 p = some (.lst acc) ∧ acc.length ≤ 100000 ∧ W1 (j + 1) (sset μ9 p (.lst (acc ++ [y])))) ∧ (b1 = false → W1 (j + 1) μ8)) ∧
      ∀ μ6, W1 xs1.length μ6 → W (i + 1) μ6) ∧ (b = false → W (i + 1) μ4)) ∧
  ∀ μ2, W xs.length μ2 → ∃ acc, μ2 p = some (.lst acc) ∧ Φ (.lst acc) (sdel μ2 p)
section
variable {Ψ : XP} {Φ : DK} {δ : DEnv} {μ : Sto}
theorem u_lc2 {ι : DI} {γ : DG} {θ : DT} {ι1 : DI} {γ1 : DG} {θ1 : DT} {φ : DE} {vs vs1 : List Nat} : dLc2 ι γ θ ι1 γ1 θ1 φ vs vs1 Ψ δ μ Φ = ι Ψ δ μ fun xs μ1 => LcG2 γ θ ι1 γ1 θ1 φ (dwipe δ vs) vs1 Ψ xs μ1 Φ := rfl
end
end DW
set_option Elab.async false
set_option linter.all false
set_option maxRecDepth 100000
set_option maxHeartbeats 4000000
namespace DW
open PySem PySem.Spec PyProof.Rows L2
def wrap : Bool → List D → D
  | true => .tup
  | false => .lst
def iZM (b1 b2 : Bool) (φ φ' : DE) : DI := fun Ψ δ μ Φ => φ Ψ δ μ fun x μ1 => φ' Ψ δ μ1 fun y μ2 => ∃ xs ys, x = wrap b1 xs ∧ y = wrap b2 ys ∧ Φ ((xs.zip ys).map fun p => .pr [p.1, p.2]) μ2
theorem u_iZM {b1 b2 : Bool} {φ φ' : DE} {Ψ : XP} {δ : DEnv} {μ : Sto} {Φ : List D → Sto → Prop} : iZM b1 b2 φ φ' Ψ δ μ Φ = φ Ψ δ μ fun x μ1 => φ' Ψ δ μ1 fun y μ2 => ∃ xs ys, x = wrap b1 xs ∧ y = wrap b2 ys ∧ Φ ((xs.zip ys).map fun p => .pr [p.1, p.2]) μ2 := rfl
theorem w_zipLT {l t : List D} {P : List D → List D → Prop} : (∃ xs ys, D.lst l = wrap false xs ∧ D.tup t = wrap true ys ∧ P xs ys) = P l t := propext ⟨fun ⟨_, _, e1, e2, q⟩ => by cases e1; cases e2; exact q, fun q => ⟨_, _, rfl, rfl, q⟩⟩
theorem w_zipTL {l t : List D} {P : List D → List D → Prop} : (∃ xs ys, D.tup l = wrap true xs ∧ D.lst t = wrap false ys ∧ P xs ys) = P l t := propext ⟨fun ⟨_, _, e1, e2, q⟩ => by cases e1; cases e2; exact q, fun q => ⟨_, _, rfl, rfl, q⟩⟩
end DW
set_option Elab.async false
set_option linter.all false
set_option maxRecDepth 100000
set_option maxHeartbeats 4000000
namespace DW
open PySem PySem.Spec PyProof.Rows L2
section
variable {K : Fg} {B : Bx K} {ta : TE} {φ : DE} {Ψ : XP} {δ : DEnv} {μ : Sto} {Φ : DK}
def dTupR1 (φ : DE) : DE := fun Ψ δ μ Φ => φ Ψ δ μ fun x μ1 => ∃ j, x = .int j ∧ 0 ≤ j ∧ j ≤ 100000 ∧ Φ (.tup (rngD 0 j.toNat)) μ1
theorem u_tupR1 : dTupR1 φ Ψ δ μ Φ = φ Ψ δ μ fun x μ1 => ∃ j, x = .int j ∧ 0 ≤ j ∧ j ≤ 100000 ∧ Φ (.tup (rngD 0 j.toNat)) μ1 := rfl
end
end DW
set_option Elab.async false
set_option linter.all false
set_option maxRecDepth 100000
set_option maxHeartbeats 4000000
namespace DW
open PySem PySem.Spec PyProof.Rows L2
mutual
def toPy : D → PyData
  | .bl b => .bool b
  | .int i => .int i
  | .str s => .str s
  | .tup ds => .tuple (toPys ds)
  | .lst ds => .list (toPys ds)
  | _ => .none
def toPys : List D → List PyData
  | [] => []
  | d :: ds => toPy d :: toPys ds
end
mutual
/-- what can be compared -/
def eqOk : D → Bool
  | .non => true
  | .bl _ => true
  | .int _ => true
  | .str s => PyData.strOk s
  | .tup ds => eqOks ds
  | .lst ds => eqOks ds
  | _ => false
def eqOks : List D → Bool
  | [] => true
  | d :: ds => eqOk d && eqOks ds
end
mutual
def dpt : D → Nat
  | .tup ds => dpts ds + 1
  | .lst ds => dpts ds + 1
  | _ => 0
def dpts : List D → Nat
  | [] => 0
  | d :: ds => max (dpt d) (dpts ds)
end
mutual
theorem eqOk_lay : ∀ d : D, eqOk d = true → (toPy d).canLay0 = true
  | .non, _ => rfl
  | .bl _, _ => rfl
  | .int _, _ => rfl
  | .str s, h => by simpa [eqOk, toPy, PyData.canLay0] using h
  | .tup ds, h => by simp only [toPy, PyData.canLay0]; exact eqOks_lay ds (by simpa [eqOk] using h)
  | .lst ds, h => by simp only [toPy, PyData.canLay0]; exact eqOks_lay ds (by simpa [eqOk] using h)
  | .pr _, h => by simp [eqOk] at h
  | .obj _ _ _, h => by simp [eqOk] at h
  | .hd _, h => by simp [eqOk] at h
  | .scr _, h => by simp [eqOk] at h
theorem eqOks_lay : ∀ ds : List D, eqOks ds = true → PyData.canLayAll0 (toPys ds) = true
  | [], _ => rfl
  | d :: ds, h => by
    simp only [eqOks, Bool.and_eq_true] at h
    simp only [toPys, PyData.canLayAll0, eqOk_lay d h.1, eqOks_lay ds h.2, Bool.and_self]
end
mutual
theorem dpt_py : ∀ d : D, (toPy d).depth ≤ dpt d + 1
  | .non => by simp [toPy, PyData.depth]
  | .bl _ => by simp [toPy, PyData.depth]
  | .int _ => by simp [toPy, PyData.depth]
  | .str s => by simp [toPy, PyData.depth]
  | .tup ds => by simp only [toPy, PyData.depth, dpt]; have := dpts_py ds; omega
  | .lst ds => by simp only [toPy, PyData.depth, dpt]; have := dpts_py ds; omega
  | .pr _ => by simp [toPy, PyData.depth]
  | .obj _ _ _ => by simp [toPy, PyData.depth]
  | .hd _ => by simp [toPy, PyData.depth]
  | .scr _ => by simp [toPy, PyData.depth]
theorem dpts_py : ∀ ds : List D, PyData.depthAll (toPys ds) ≤ dpts ds + 1
  | [] => by simp [toPys, PyData.depthAll]
  | d :: ds => by
    simp only [toPys, PyData.depthAll, dpts]
    have h1 := dpt_py d
    have h2 := dpts_py ds
    omega
end
theorem shaped_of {d : D} (h : eqOk d = true) (hd : dpt d ≤ 60) : SeqAt.shaped (toPy d) = true := by
  unfold SeqAt.shaped
  rw [eqOk_lay d h, Bool.true_and]
  exact decide_eq_true (by have := dpt_py d; omega)
theorem dp_all {K : Fg} {μ : Sto} {H : Hp} {vs : List V} {ds : List D} (r : Reps K μ H vs ds) : eqOks ds = true → DpAll K H vs (toPys ds) := by
  induction r with
  | nil => intro _; exact .nil
  | non _ ih => intro h; simp only [eqOks, eqOk, Bool.true_and] at h; exact .cons .non (ih h)
  | bl b _ ih => intro h; simp only [eqOks, eqOk, Bool.true_and] at h; exact .cons (.bl b) (ih h)
  | int b _ ih => intro h; simp only [eqOks, eqOk, Bool.true_and] at h; exact .cons (.int b) (ih h)
  | str b _ ih => intro h; simp only [eqOks, Bool.and_eq_true] at h; exact .cons (.str b) (ih h.2)
  | hd v _ ih => intro h; simp [eqOks, eqOk] at h
  | tup h1 _ _ i1 i2 => intro h; simp only [eqOks, eqOk, Bool.and_eq_true] at h; exact .cons (.tup h1.sq (i1 h.1)) (i2 h.2)
  | pr _ _ _ _ _ => intro h; simp [eqOks, eqOk] at h
  | scr _ _ _ => intro h; simp [eqOks, eqOk] at h
  | lst h1 _ _ i1 i2 => intro h; simp only [eqOks, eqOk, Bool.and_eq_true] at h; exact .cons (.lst h1.sq (i1 h.1)) (i2 h.2)
  | obj _ _ _ _ _ _ _ => intro h; simp [eqOks, eqOk] at h
theorem dp_one {K : Fg} {μ : Sto} {H : Hp} {v : V} {d : D} (r : Rep K μ H v d) (h : eqOk d = true) : Dp K H v (toPy d) := by
  have q := dp_all r (by simp only [eqOks, h, Bool.and_self])
  cases q with
  | cons a b => exact a
def eqD (a b : D) : Bool := PyData.eqv (toPy a) (toPy b)
def EqSide (d : D) : Prop := eqOk d = true ∧ dpt d ≤ 60
def oEqD : DO := fun x y μ Φ => EqSide x ∧ EqSide y ∧ Φ (.bl (eqD x y)) μ
def oNeD : DO := fun x y μ Φ => EqSide x ∧ EqSide y ∧ Φ (.bl (!eqD x y)) μ
theorem roEqD {K : Fg} : RO K (rEqD K) oEqD := fun H μ v w x y Φ Q s r1 r2 q k => by
  obtain ⟨h1, h2, q⟩ := q
  exact ⟨_, _, dp_one r1 h1.1, dp_one r2 h2.1, shaped_of h1.1 h1.2, shaped_of h2.1 h2.2, k _ H _ μ .refl s (.bl _ .nil) q⟩
theorem roNeD {K : Fg} : RO K (rNeD K) oNeD := fun H μ v w x y Φ Q s r1 r2 q k => by
  obtain ⟨h1, h2, q⟩ := q
  exact ⟨_, _, dp_one r1 h1.1, dp_one r2 h2.1, shaped_of h1.1 h1.2, shaped_of h2.1 h2.2, k _ H _ μ .refl s (.bl _ .nil) q⟩
theorem eqOks_all : ∀ {ds : List D}, (∀ d ∈ ds, eqOk d = true) → eqOks ds = true
  | [], _ => rfl
  | d :: ds, h => by
    simp only [eqOks, Bool.and_eq_true]
    exact ⟨h d List.mem_cons_self, eqOks_all fun x hx => h x (List.mem_cons_of_mem _ hx)⟩
theorem dpts_all {m : Nat} : ∀ {ds : List D}, (∀ d ∈ ds, dpt d ≤ m) → dpts ds ≤ m
  | [], _ => Nat.zero_le _
  | d :: ds, h => by
    simp only [dpts]
    have h1 := h d List.mem_cons_self
    have h2 := dpts_all fun x hx => h x (List.mem_cons_of_mem _ hx)
    omega
theorem eqvAll_map {α : Type} {f : α → D} (hf : ∀ a b, PyData.eqv (toPy (f a)) (toPy (f b)) = true ↔ a = b) : ∀ l m : List α, PyData.eqvAll (toPys (l.map f)) (toPys (m.map f)) = true ↔ l = m
  | [], [] => by simp [toPys, PyData.eqvAll]
  | [], _ :: _ => by simp [toPys, PyData.eqvAll]
  | _ :: _, [] => by simp [toPys, PyData.eqvAll]
  | a :: l, b :: m => by
    simp only [List.map_cons, toPys, PyData.eqvAll, Bool.and_eq_true, hf a b, eqvAll_map hf l m, List.cons.injEq]
theorem eqv_int (a b : Int) : PyData.eqv (toPy (.int a)) (toPy (.int b)) = true ↔ a = b := by simp [toPy, PyData.eqv]
theorem eqv_ints (l m : List Int) : PyData.eqv (toPy (.tup (l.map .int))) (toPy (.tup (m.map .int))) = true ↔ l = m := by
  simp only [toPy, PyData.eqv]
  exact eqvAll_map eqv_int l m
theorem eqD_ints (l m : List Int) : eqD (.tup (l.map .int)) (.tup (m.map .int)) = decide (l = m) := by
  rw [Bool.eq_iff_iff, decide_eq_true_eq]
  exact eqv_ints l m
theorem side_ints (l : List Int) : EqSide (.tup (l.map .int)) := ⟨by
  simp only [eqOk]
  exact eqOks_all fun d hd => by obtain ⟨z, _, rfl⟩ := List.mem_map.mp hd; rfl, by
  simp only [dpt]
  have := dpts_all (m := 0) (ds := l.map D.int) fun d hd => by obtain ⟨z, _, rfl⟩ := List.mem_map.mp hd; exact Nat.le_refl _
  omega⟩
end DW
set_option Elab.async false
set_option linter.all false
set_option maxRecDepth 100000
set_option maxHeartbeats 4000000
namespace DW
open PySem PySem.Spec PyProof.Rows L2
abbrev WN : WX := fun _ _ _ _ => False
theorem passAtN {X : Cx} {P : Program} {w : World} (σ : L2.St) : PassesAt (L2N.CX P w) X σ (WE WN σ) := fun _ _ _ _ _ _ h => by
  obtain ⟨_, _, _, _, _, _, _, _, _, _, _, _, z⟩ := h
  exact z.elim
section
variable {K : Fg} {B : Bx K} {ta : TE} {φ : DE} {tas : TA} {ψ : DA} {Ψ : XP} {δ : DEnv} {μ : Sto} {Φ : DK}
def dMethXN (C : Addr) (NS : List Str) (c : Con) (φ : DE) (ψ : DA) : DE := fun Ψ δ μ Φ => φ Ψ δ μ fun x μ1 => ∃ es, x = .obj C NS es ∧ ψ Ψ δ μ1 fun ds μ2 => c (x :: ds) μ2 Φ fun _ _ => False
def dMakeSN (C : Addr) (c : Con) (ψ : DA) : DE := fun Ψ δ μ Φ => ψ Ψ δ μ fun ds μ1 => ∀ x, μ1 x = none → c (.hd (.ref x) :: ds) (sset μ1 x (.ins C [] [])) (fun d μ2 => d = .non ∧ ∃ ns es, μ2 x = some (.ins C ns es) ∧ Φ (.obj C ns es) (sdel μ2 x)) (fun _ _ => False)
theorem u_methXN {C : Addr} {NS : List Str} {c : Con} : dMethXN C NS c φ ψ Ψ δ μ Φ = φ Ψ δ μ fun x μ1 => ∃ es, x = .obj C NS es ∧ ψ Ψ δ μ1 fun ds μ2 => c (x :: ds) μ2 Φ fun _ _ => False := rfl
theorem u_makeSN {C : Addr} {c : Con} : dMakeSN C c ψ Ψ δ μ Φ = ψ Ψ δ μ fun ds μ1 => ∀ x, μ1 x = none → c (.hd (.ref x) :: ds) (sset μ1 x (.ins C [] [])) (fun d μ2 => d = .non ∧ ∃ ns es, μ2 x = some (.ins C ns es) ∧ Φ (.obj C ns es) (sdel μ2 x)) (fun _ _ => False) := rfl
end
theorem w_neB {b c : Bool} {μ : Sto} {Φ : DK} : oNe (.bl b) (.bl c) μ Φ = Φ (.bl (!decide (b = c))) μ := w_someb
end DW
set_option Elab.async false
set_option linter.all false
set_option maxRecDepth 100000
set_option maxHeartbeats 4000000
namespace DW
open PySem PySem.Spec PyProof.Rows L2
section
variable {K : Fg} {B : Bx K} {ta tb : TE} {φ φ2 : DE} {Ψ : XP} {δ : DEnv} {μ : Sto} {Φ : DK} {W : WX}
def dBinX (C : Addr) (NS : List Str) (c : Con) (φ φ2 : DE) : DE := fun Ψ δ μ Φ => φ Ψ δ μ fun x μ1 => φ2 Ψ δ μ1 fun y μ2 => ∃ es fs, x = .obj C NS es ∧ y = .obj C NS fs ∧ c [x, y] μ2 (fun d μ3 => (∃ C' NS' es', d = .obj C' NS' es') ∧ Φ d μ3) fun z μ3 => Ψ z δ μ3
def dInvX (C : Addr) (NS : List Str) (c : Con) (φ : DE) : DE := fun Ψ δ μ Φ => φ Ψ δ μ fun x μ1 => ∃ es, x = .obj C NS es ∧ c [x] μ1 Φ fun z μ3 => Ψ z δ μ3
theorem u_binX {C : Addr} {NS : List Str} {c : Con} : dBinX C NS c φ φ2 Ψ δ μ Φ = φ Ψ δ μ fun x μ1 => φ2 Ψ δ μ1 fun y μ2 => ∃ es fs, x = .obj C NS es ∧ y = .obj C NS fs ∧ c [x, y] μ2 (fun d μ3 => (∃ C' NS' es', d = .obj C' NS' es') ∧ Φ d μ3) fun z μ3 => Ψ z δ μ3 := rfl
theorem u_invX {C : Addr} {NS : List Str} {c : Con} : dInvX C NS c φ Ψ δ μ Φ = φ Ψ δ μ fun x μ1 => ∃ es, x = .obj C NS es ∧ c [x] μ1 Φ fun z μ3 => Ψ z δ μ3 := rfl
end
end DW
set_option Elab.async false
set_option linter.all false
set_option maxRecDepth 100000
set_option maxHeartbeats 4000000
namespace DW
open PySem PySem.Spec PyProof.Rows L2
section
variable {X : Cx} {CX : CXT} {k : Nat} {f C : Addr} {fd : FuncData} {ps : List Str} {sp : Sp} {E : L2.St → XK} {ta tb : TE} {ea eb : Expr} {pos : Pos}
theorem run_fnS1 {pins : List (Addr × Obj)} {σ : L2.St} {H : Hp} {s : Shared} {Q : VK} {us : List Value} {vs : List V} (F : FnOk X.prog X.w X.K X.mg X.base CX k f fd ps sp) (hr : Room (k + 1) X.A) (hb : Binds X.K fd ps []) (hx : PassesAt CX X σ (E σ))
    (I : Inv X pins σ H s) (r : Vals vs us) (h : sp vs H Q (E σ)) : wpAny (model X.prog X.w) X.A.in1 (call (.ref f) us) (EP X pins σ Q) X.xe s := by
  have hl : us.length = ps.length := by rw [← r.length]; exact F.len _ _ _ _ h
  have b := hb s us I.kIn (by rw [List.append_nil]; exact hl)
  rw [List.append_nil] at b
  have e0 : Env0 X.prog X.w X.K X.mg X.base X.A.in1 X.stack s H := by
    have e := I.env0
    exact ⟨e.frames, e.mod, e.bs, e.bsz, e.funs, e.frf, e.hok, e.bare⟩
  refine wpAny_call (codeAny_mono (F.run X.A.in1 X.stack s H ⟨us, []⟩ us vs Q (E σ) hr.in1 e0 b r h) fun r s' hq => ?_)
  cases r with
  | error e => exact hx pins H s e s' I hq
  | ok fl =>
    cases fl with
    | ret u => exact I.after hq
    | next => exact False.elim hq
    | brk => exact False.elim hq
    | cont => exact False.elim hq
def PlainOwn (b : Expr) : Prop := ∀ o i, subscripted b true o i = runValue (.builtin "lifetime.subscript" ⟨[o, i], []⟩)
def tGetX (C : Addr) (sp : Sp) (E : L2.St → XK) (ta tb : TE) : TE := fun σ H Q => ta σ H fun x H1 => tb σ H1 fun y H2 => ∃ a dx fs, x = .ref a ∧ H2 a = some (.ins C dx fs) ∧ sp [x, y] H2 Q (E σ)
theorem pe_getX (hm : Meth X.K C "__getitem__" f) (hfn : PySem.W.fnIn X.K f = true) (F : FnOk X.prog X.w X.K X.mg X.base CX k f fd ps sp) (hr : Room (k + 1) X.A) (hb : Binds X.K fd ps []) (hx : ∀ σ, PassesAt CX X σ (E σ)) (ha : PE X ea ta) (hbb : PE X eb tb) (hs : PlainOwn eb) :
    PE X (.Subscript ea eb pos) (tGetX C sp E ta tb) := by
  refine ⟨fun pins s σ H Q I h => ?_⟩
  refine Subscript_ (binT ha hbb I h fun v u s2 x y H2 I2 rx ry q => ?_)
  obtain ⟨a, dx, fs, rfl, h1, q⟩ := q
  obtain rfl : v = Value.ref a := rx
  obtain ⟨mA, J, _⟩ := ins_get I2.hok h1
  obtain ⟨od, J, _⟩ := J.look
  obtain ⟨m, hF⟩ := I2.fr
  exact PySem.W.sub_K hF I2.ok.mod.kin J hm.at_ hfn hm.fn (run_fnS1 (us := [.ref a, u]) (vs := [.ref a, y]) F hr hb (hx σ) I2 (.cons rfl (.cons ry .nil)) q) (hs _ _)
end
section
variable {K : Fg} {B : Bx K} {ta tb : TE} {φ φ2 : DE} {Ψ : XP} {δ : DEnv} {μ : Sto} {Φ : DK} {W : WX}
def dGetX (C : Addr) (NS : List Str) (c : Con) (φ φ2 : DE) : DE := fun Ψ δ μ Φ => φ Ψ δ μ fun x μ1 => φ2 Ψ δ μ1 fun y μ2 => ∃ es, x = .obj C NS es ∧ c [x, y] μ2 Φ fun z μ3 => Ψ z δ μ3
theorem sGetX {C : Addr} {NS : List Str} {c : Con} (hW : B.W = W) (a : SE B ta φ) (b : SE B tb φ2) : SE B (tGetX C (spOf K c) (WE W) ta tb) (dGetX C NS c φ φ2) := by
  subst hW
  exact fun σ H δ μ Φ Q S q k => a σ H δ μ _ _ S q fun v H1 x μ1 S1 e1 r1 q1 => b σ H1 δ μ1 _ _ S1 q1 fun u H2 y μ2 S2 e2 r2 q2 => by
    obtain ⟨es, rfl, q3⟩ := q2
    obtain ⟨p, dx, us, rfl, hH, hnm, hl, hr⟩ := Rep.obj_inv (r1.mono e2)
    exact ⟨p, dx, _, rfl, hH, ⟨μ2, _, Φ, fun y μ3 => B.Ψ y δ μ3, S2.sto, .cons (r1.mono e2) (.cons r2 .nil), q3, fun v H3 d μ3 e3 s3 r3 q4 => k v H3 d μ3 (S2.step e3 s3) ((e1.trans e2).trans e3) r3 q4, fun cls dd H3 y μ3 e3 s3 rx q4 => B.hW cls dd σ H3 y δ μ3 (S2.step e3 s3) rx q4⟩⟩
theorem u_getX {C : Addr} {NS : List Str} {c : Con} : dGetX C NS c φ φ2 Ψ δ μ Φ = φ Ψ δ μ fun x μ1 => φ2 Ψ δ μ1 fun y μ2 => ∃ es, x = .obj C NS es ∧ c [x, y] μ2 Φ fun z μ3 => Ψ z δ μ3 := rfl
end
end DW
set_option Elab.async false
set_option linter.all false
set_option maxRecDepth 100000
set_option maxHeartbeats 4000000
namespace DW
open PySem PySem.Spec PyProof.Rows PySem.Calls L2
section
variable {K : Fg} {B : Bx K} {tas : TA} {ψ : DA} {Ψ : XP} {δ : DEnv} {μ : Sto} {Φ : DK} {W : WX}
def dCallX (C : Addr) (NS : List Str) (i : Nat) (c : Con) (ψ : DA) : DE := fun Ψ δ μ Φ => ∃ es, δ[i]? = some (some (.obj C NS es)) ∧ ψ Ψ δ μ fun ds μ1 => c (.obj C NS es :: ds) μ1 Φ fun y μ2 => Ψ y δ μ2
theorem u_callX {C : Addr} {NS : List Str} {i : Nat} {c : Con} : dCallX C NS i c ψ Ψ δ μ Φ = ∃ es, δ[i]? = some (some (.obj C NS es)) ∧ ψ Ψ δ μ fun ds μ1 => c (.obj C NS es :: ds) μ1 Φ fun y μ2 => Ψ y δ μ2 := rfl
end
end DW
set_option Elab.async false
set_option linter.all false
set_option maxRecDepth 100000
set_option maxHeartbeats 4000000
namespace DW
open PySem PySem.Spec PyProof.Rows L2
section
variable {K : Fg} {B : Bx K} {ta tb : TE} {φ φ2 : DE} {Ψ : XP} {δ : DEnv} {μ : Sto} {Φ : DK} {W : WX}
def dBinXI (C : Addr) (NS : List Str) (c : Con) (φ φ2 : DE) : DE := fun Ψ δ μ Φ => φ Ψ δ μ fun x μ1 => φ2 Ψ δ μ1 fun y μ2 => ∃ es j, x = .obj C NS es ∧ y = .int j ∧ c [x, y] μ2 (fun d μ3 => (∃ C' NS' es', d = .obj C' NS' es') ∧ Φ d μ3) fun z μ3 => Ψ z δ μ3
theorem u_binXI {C : Addr} {NS : List Str} {c : Con} : dBinXI C NS c φ φ2 Ψ δ μ Φ = φ Ψ δ μ fun x μ1 => φ2 Ψ δ μ1 fun y μ2 => ∃ es j, x = .obj C NS es ∧ y = .int j ∧ c [x, y] μ2 (fun d μ3 => (∃ C' NS' es', d = .obj C' NS' es') ∧ Φ d μ3) fun z μ3 => Ψ z δ μ3 := rfl
def dRestF (i : Nat) : DE := fun _ δ μ Φ => ∃ a ds, δ[i]? = some (some (.hd (.ref a))) ∧ ((μ a = some (.lst ds) ∧ Φ (.lst ds) (sset μ a (.frz ds))) ∨ (μ a = some (.frz ds) ∧ Φ (.lst ds) μ))
theorem u_restF {i : Nat} : dRestF i Ψ δ μ Φ = ∃ a ds, δ[i]? = some (some (.hd (.ref a))) ∧ ((μ a = some (.lst ds) ∧ Φ (.lst ds) (sset μ a (.frz ds))) ∨ (μ a = some (.frz ds) ∧ Φ (.lst ds) μ)) := rfl
end
end DW
set_option Elab.async false
set_option linter.all false
set_option maxRecDepth 100000
set_option maxHeartbeats 4000000
namespace DW
open PySem PySem.Spec PyProof.Rows L2
end DW
set_option Elab.async false
set_option linter.all false
set_option maxRecDepth 100000
set_option maxHeartbeats 4000000
namespace DW
open PySem PySem.Spec PyProof.Rows L2
end DW
set_option Elab.async false
set_option linter.all false
set_option maxRecDepth 100000
namespace DW
open PySem PySem.Spec PyProof.Rows L2
section
variable {K : Fg} {B : Bx K}
def dStar (φ : DE) (ψ : DA) : DA := fun Ψ δ μ Φ => φ Ψ δ μ fun x μ1 => ∃ ds, x = .tup ds ∧ ψ Ψ δ μ1 fun xs μ2 => Φ (ds ++ xs) μ2
theorem u_star {φ : DE} {ψ : DA} {Ψ : XP} {δ : DEnv} {μ : Sto} {Φ : List D → Sto → Prop} : dStar φ ψ Ψ δ μ Φ = φ Ψ δ μ fun x μ1 => ∃ ds, x = .tup ds ∧ ψ Ψ δ μ1 fun xs μ2 => Φ (ds ++ xs) μ2 := rfl
def dRev2L (φ : DE) : DE := fun Ψ δ μ Φ => φ Ψ δ μ fun x μ1 => ∃ ds, Items μ1 x ds ∧ isTup x = false ∧ ds ≠ [] ∧ Φ (.lst ds.dropLast.reverse) μ1
theorem u_rev2L {φ : DE} {Ψ : XP} {δ : DEnv} {μ : Sto} {Φ : DK} : dRev2L φ Ψ δ μ Φ = φ Ψ δ μ fun x μ1 => ∃ ds, Items μ1 x ds ∧ isTup x = false ∧ ds ≠ [] ∧ Φ (.lst ds.dropLast.reverse) μ1 := rfl
end
section
variable {K : Fg} {B : Bx K}
def dCallR (n : Nat) (c : Con) (ψ : DA) : DE := fun Ψ δ μ Φ => ψ Ψ δ μ fun xs μ1 => n ≤ xs.length ∧ xs.length ≤ 100000 ∧ c (xs.take n ++ [.tup (xs.drop n)]) μ1 Φ fun x μ2 => Ψ x δ μ2
theorem u_callR {n : Nat} {c : Con} {ψ : DA} {Ψ : XP} {δ : DEnv} {μ : Sto} {Φ : DK} : dCallR n c ψ Ψ δ μ Φ = ψ Ψ δ μ fun xs μ1 => n ≤ xs.length ∧ xs.length ≤ 100000 ∧ c (xs.take n ++ [.tup (xs.drop n)]) μ1 Φ fun x μ2 => Ψ x δ μ2 := rfl
end
end DW
set_option Elab.async false
set_option linter.all false
set_option maxRecDepth 100000
set_option maxHeartbeats 4000000
namespace DW
open PySem PySem.Spec PyProof.Rows L2
section layer
variable {X : Cx} {CX : CXT} {k : Nat} {f C : Addr} {fd : FuncData} {ps : List Str} {sp : Sp} {E : L2.St → XK} {x m : Str} {p pos apos : Pos} {e o : Expr} {es : List Expr} {ta : TE} {t : TA} {dvs : List V} {dus : List Value}
theorem run_makeSD {pins : List (Addr × Obj)} {σ : L2.St} {H : Hp} {s : Shared} {Q : VK} {us : List Value} {vs : List V} (M : Mk X.K C f) (F : FnOk X.prog X.w X.K X.mg X.base CX k f fd ps sp) (hr : Room (k + 1) X.A) (hb : Binds X.K fd ps dus) (hd : Vals dvs dus)
    (hx : ∀ σ, PassesAt CX X σ (E σ)) (I : Inv X pins σ H s) (r : Vals vs us)
    (h : ∀ x dx, H x = none → H dx = none → dx ≠ x → sp (.ref x :: (vs ++ dvs)) (upd (upd H dx (.own x)) x (.ins C dx [])) (fun v H2 => v = .non ∧ Q (.ref x) H2) (E σ)) :
    wpAny (model X.prog X.w) X.A (call (.ref C) us) (EP X pins σ Q) X.xe s := by
  have hq := h (s.heap.objs.size + 1) s.heap.objs.size (I.hok.fresh (Nat.le_succ _)) (I.hok.fresh (Nat.le_refl _)) (Nat.ne_of_lt (Nat.lt_succ_self _))
  have I2 := Inv.made (C := C) I
  have r2 : Vals (V.ref (s.heap.objs.size + 1) :: (vs ++ dvs)) (Value.ref (s.heap.objs.size + 1) :: (us ++ dus)) := .cons rfl (r.append hd)
  have hl : ((Value.ref (s.heap.objs.size + 1) :: us) ++ dus).length = ps.length := by
    have e := r2.length
    rw [F.len _ _ _ _ hq] at e
    exact e.symm
  have hb2 := hb _ (Value.ref (s.heap.objs.size + 1) :: us) I2.kIn hl
  refine wpAny_call (make_map (f := f) I.kIn M.makes M.init (beq_iff_eq.mp M.fn) (codeAny_mono (F.run _ X.stack _ _ ⟨Value.ref (s.heap.objs.size + 1) :: us, []⟩ (Value.ref (s.heap.objs.size + 1) :: (us ++ dus)) _ _ (E σ) (hr.make C us [])
    (I2.env0.make C us []) hb2 r2 hq) fun r s' hq' => ?_))
  cases r with
  | error e => exact hx σ pins _ _ e s' I2 hq'
  | ok fl =>
    cases fl with
    | ret u =>
      obtain ⟨v, H', I3, rv, ev, q3⟩ := I2.after hq'
      subst ev
      exact ⟨rv, ⟨V.ref (s.heap.objs.size + 1), H', I3, rfl, q3⟩⟩
    | next => exact False.elim hq'
    | brk => exact False.elim hq'
    | cont => exact False.elim hq'
def tMakeSD (C : Addr) (sp : Sp) (dvs : List V) (E : L2.St → XK) (t : TA) : TE := fun σ H Q => t σ H fun vs H1 => ∀ x dx, H1 x = none → H1 dx = none → dx ≠ x → sp (.ref x :: (vs ++ dvs)) (upd (upd H1 dx (.own x)) x (.ins C dx [])) (fun v H2 => v = .non ∧ Q (.ref x) H2) (E σ)
theorem pe_makeSD (M : Mk X.K C f) (F : FnOk X.prog X.w X.K X.mg X.base CX k f fd ps sp) (hr : Room (k + 1) X.A) (hg : Gl X x) (hm : X.mg x = some (.ref C)) (hb : Binds X.K fd ps dus) (hd : Vals dvs dus) (hx : ∀ σ, PassesAt CX X σ (E σ))
    (ha : PA X (e :: es) t) (hdb : (x == ("__debug__" : Str)) = false := by decide) (he : starEach (e :: es) X.env = (false, eval e X.env) :: starEach es X.env := by rfl) (hpl : (backTo pos (starEach es X.env)).any (·.1) = false := by rfl) :
    PE X (.Call (.Name x p) (e :: es) [] pos) (tMakeSD C sp dvs E t) := by
  refine ⟨fun pins s σ H Q I h => ?_⟩
  refine wpAny_Call_Name_kw (ld_glob I hg hm ?_ hdb)
  refine PySem.W.callWith_K (h₀ := X.base) I.ok.mod.kin M.kp (thn (ha.run pos pins s σ H _ I h) fun us s1 ⟨vs, H1, I1, r, q⟩ => ⟨I1.kIn, ?_⟩) he hpl
  exact run_makeSD M F hr hb hd hx I1 r q
theorem pe_methX0 {pl : Sem Bool} (he : PE X o ta) (c : Cls X.K C) (hm : Meth X.K C m f) (F : FnOk X.prog X.w X.K X.mg X.base CX k f fd ps sp) (hr : Room k X.A) (hb : Binds X.K fd ps []) (hx : ∀ σ, PassesAt CX X σ (E σ))
    (ht : eval (.Call (.Attribute o m apos) [] [] pos) X.env = (do
      let ov ← eval o X.env
      standAt apos.atName
      let (f, first) ← holding [ov] (getMethod ov m pl)
      callWith pos f first (backTo pos (starEach [] X.env)) (backToKw pos (keywordEach [] X.env))) := by rfl) :
    PE X (.Call (.Attribute o m apos) [] [] pos) (tMethX C m sp E ta tNil) := by
  refine ⟨fun pins s σ H Q I h => ?_⟩
  refine PySem.W.methodCall_KW (pl := pl) (thn (he.run pins s σ H _ I h) fun u s1 ⟨x, H1, I1, rx, a, dx, fs, ex, ea, l, q⟩ => ?_) ht
  subst ex
  obtain rfl : u = Value.ref a := rx
  refine getmeth_ok I1 ea c hm l ?_
  exact PySem.W.callWith_K0 (first := [.ref a]) I1.kIn hm.kp (run_fnS (us := [.ref a]) (vs := [.ref a]) F hr hb (hx σ) I1 (.cons rfl .nil) q)
end layer
section
variable {K : Fg} {B : Bx K} {ta tb tc : TE} {φ φ' φ'' : DE} {tas : TA} {ψ : DA} {W : WX} {Ψ : XP} {δ : DEnv} {μ : Sto} {Φ : DK}
/-- what the defaults of a def stand for -/
def Dfl (K : Fg) (dvs : List V) (dds : List D) : Prop := ∀ μ H, Reps K μ H dvs dds
theorem dfl_tup {a : Addr} {ns : List Int} (h : SqTw K a (ns.map V.int)) : Dfl K [.ref a] [.tup (ns.map .int)] := fun μ H => .tup (.inr h) (by
  clear h
  induction ns with
  | nil => exact .nil
  | cons n ns ih => exact .int n ih) .nil
def dMakeSD (C : Addr) (c : Con) (dds : List D) (ψ : DA) : DE := fun Ψ δ μ Φ => ψ Ψ δ μ fun ds μ1 => ∀ x, μ1 x = none → c (.hd (.ref x) :: (ds ++ dds)) (sset μ1 x (.ins C [] [])) (fun d μ2 => d = .non ∧ ∃ ns es, μ2 x = some (.ins C ns es) ∧ Φ (.obj C ns es) (sdel μ2 x)) (fun y μ2 => Ψ y δ μ2)
theorem sMakeSD {C : Addr} {c : Con} {dvs : List V} {dds : List D} (hW : B.W = W) (hd : Dfl K dvs dds) (a : SA B tas ψ) : SE B (tMakeSD C (spOf K c) dvs (WE W) tas) (dMakeSD C c dds ψ) := by
  subst hW
  exact fun σ H δ μ Φ Q S q k =>
  a σ H δ μ _ _ S q fun vs H1 xs μ1 S1 e1 r1 q1 x dx hx hdx hne => by
    have hx' : upd H1 dx (.own x) x = none := by rw [upd_ne (Ne.symm hne)]; exact hx
    have ev0 : Evo μ1 H1 μ1 (upd H1 dx (.own x)) := .new hdx
    have st0 : StoOk K μ1 (upd H1 dx (.own x)) := S1.sto.new hdx
    have ev1 : Evo μ1 (upd H1 dx (.own x)) (sset μ1 x (.ins C [] [])) (upd (upd H1 dx (.own x)) x (.ins C dx [])) := .newC st0 hx'
    have st1 : StoOk K (sset μ1 x (.ins C [] [])) (upd (upd H1 dx (.own x)) x (.ins C dx [])) := st0.cell ev1 ⟨dx, [], upd_same, rfl, .nil⟩
    have ev := ev0.trans ev1
    refine ⟨sset μ1 x (.ins C [] []), .hd (.ref x) :: (xs ++ dds), _, _, st1, .hd _ ((r1.mono ev).append (hd _ _)), q1 x (S1.sto.fresh hx), fun v H' d μ' e s r ⟨hd, ns, es, hc, hq⟩ => ?_, fun cls dd H' y μ' e s rx hΨ => ?_⟩
    · subst hd
      obtain rfl := Rep.non_inv r
      refine ⟨rfl, ?_⟩
      obtain ⟨dx', us, hH, hl, hr⟩ := s x _ hc
      have sb : Sub (sdel μ' x) μ' := sdel_sub
      have e2 : Evo μ' H' (sdel μ' x) H' := sb.evo
      exact k _ H' _ (sdel μ' x) (S1.step (ev.trans (e.trans e2)) (sb.sto s)) (e1.trans (ev.trans (e.trans e2))) (.obj hH (NM.of sdel_same) hl (hr.mono e2) .nil) hq
    · exact B.hW cls dd σ H' y δ μ' (S1.step (ev.trans e) s) rx hΨ
theorem u_makeSD {C : Addr} {c : Con} {dds : List D} : dMakeSD C c dds ψ Ψ δ μ Φ = ψ Ψ δ μ fun ds μ1 => ∀ x, μ1 x = none → c (.hd (.ref x) :: (ds ++ dds)) (sset μ1 x (.ins C [] [])) (fun d μ2 => d = .non ∧ ∃ ns es, μ2 x = some (.ins C ns es) ∧ Φ (.obj C ns es) (sdel μ2 x)) (fun y μ2 => Ψ y δ μ2) := rfl
def rngB (hi : Int) (n : Nat) : List D := (List.range n).map fun (i : Nat) => .int (hi - (i : Int))
theorem rngB_len {hi : Int} {n : Nat} : (rngB hi n).length = n := by unfold rngB; rw [List.length_map, List.length_range]
theorem rngB_at {hi : Int} {n i : Nat} (h : i < n) : (rngB hi n)[i]? = some (.int (hi - (i : Int))) := by
  unfold rngB
  rw [List.getElem?_map, List.getElem?_range h]
  rfl
theorem rngB_get {hi : Int} {n i : Nat} {d : D} (h : (rngB hi n)[i]? = some d) : i < n ∧ d = .int (hi - (i : Int)) := by
  have hl := (List.getElem?_eq_some_iff.mp h).1
  rw [rngB_len] at hl
  rw [rngB_at hl] at h
  exact ⟨hl, (Option.some.inj h).symm⟩
theorem iter_rngB {μ : Sto} {H : Hp} {hi : Int} {n : Nat} : IterOk K μ H (Itc hi (-1) n) (rngB hi n) := fun i H2 μ2 s2 e2 => by
  rw [rngB_len]
  refine ⟨fun hi2 => ⟨hi2, fun x H' ⟨eH, hy⟩ => ?_⟩, fun hi2 => hi2⟩
  subst eH hy
  refine ⟨_, rngB_at hi2, s2, .refl, ?_⟩
  rw [show hi + (i : Int) * -1 = hi - (i : Int) by omega]
  exact .int _ .nil
def iR3 (φ φ' φ'' : DE) : DI := fun Ψ δ μ Φ => φ Ψ δ μ fun x μ1 => φ' Ψ δ μ1 fun y μ2 => φ'' Ψ δ μ2 fun z μ3 => ∃ i j, x = .int i ∧ y = .int j ∧ z = .int (-1) ∧ (-4611686018427387904 ≤ i ∧ i < 4611686018427387904 ∧ -4611686018427387904 ≤ j ∧ j < 4611686018427387904) ∧ Φ (rngB i (i - j).toNat) μ3
theorem siR3 (a : SE B ta φ) (b : SE B tb φ') (c : SE B tc φ'') : SI B (iRng3 (tCons ta (tCons tb (tCons tc tNil)))) (iR3 φ φ' φ'') := fun σ H δ μ Φ R S q k =>
  a σ H δ μ _ _ S q fun v H1 x μ1 S1 e1 r1 q1 => b σ H1 δ μ1 _ _ S1 q1 fun w H2 y μ2 S2 e2 r2 q2 => c σ H2 δ μ2 _ _ S2 q2 fun u H3 z μ3 S3 e3 r3 q3 => by
    obtain ⟨i, j, rfl, rfl, rfl, h, q3⟩ := q3
    obtain rfl := Rep.int_inv r1
    obtain rfl := Rep.int_inv r2
    obtain rfl := Rep.int_inv r3
    exact ⟨i, j, -1, _, rfl, RgC.neg (by omega) (by omega) (by omega) (by omega), k _ _ H3 μ3 S3 ((e1.trans e2).trans e3) iter_rngB q3⟩
theorem u_iR3 {Ls : List D → Sto → Prop} : iR3 φ φ' φ'' Ψ δ μ Ls = φ Ψ δ μ fun x μ1 => φ' Ψ δ μ1 fun y μ2 => φ'' Ψ δ μ2 fun z μ3 => ∃ i j, x = .int i ∧ y = .int j ∧ z = .int (-1) ∧ (-4611686018427387904 ≤ i ∧ i < 4611686018427387904 ∧ -4611686018427387904 ≤ j ∧ j < 4611686018427387904) ∧ Ls (rngB i (i - j).toNat) μ3 := rfl
end
/-- THE RULE for a def with defaults -/
theorem def_okD {CX : CXT} {P : Program} {w : World} {K : Fg} {mg : Str → Option Value} {base : Heap} {x qual : Str} {st : Stmt} {f : Addr} {fd : FuncData} {N ps : List Str} {dvs : List V} {kws : List (Str × V)} {k : Nat} {c : Con} (F : FunD K x qual (defArgs st) (defBody st) (defScope st) dvs kws f fd) (Sc : FnScope N ps (defScope st)) (φ : DSt)
    (hl : ∀ ds μ Φ Ψ, c ds μ Φ Ψ → ds.length = ps.length)
    (hb : ∀ (cdv : Value) (A : Around) (outer : List Env) (s : Shared) (H : Hp) (E : XK) (B : Bx K), B.W = (fun cls d _ H => E cls d H) → Room k (A.deeper (PyProof.Rows.envOfC qual (defScope st) s.heap.objs.size f cdv)) →
      ∃ t, PSs (cxOf CX P w K mg base N qual (defScope st) f cdv A outer s H E) (defBody st) t ∧ SS B t φ)
    (hv : ∀ ds μ Φ Ψ, c ds μ Φ Ψ → φ (goalX Ψ) (goalE Φ) (dstart N ds) μ) : FnOk P w K mg base CX (k + 1) f fd ps (spOf K c) := by
  refine F.ok Sc (fun vs H Q E h => ?_) (fun cdv A outer s H vs Q E hr h => ?_)
  · obtain ⟨μ, ds, Φ, Ψ, _, r, hc, _⟩ := h
    rw [r.length]
    exact hl ds μ Φ Ψ hc
  · obtain ⟨μ, ds, Φ, Ψ, s0, r, hc, hq, hx⟩ := h
    let B : Bx K := ⟨H, μ, fun cls d _ H => E cls d H, goalX Ψ, fun cls dd σ H' x δ μ' S rx ⟨μ2, hs, q⟩ => hx cls dd H' x μ2 (S.evo.trans hs.evo) (hs.sto S.sto) (rx.mono hs.evo) q⟩
    obtain ⟨t, ht, hs⟩ := hb cdv A outer s H E B rfl hr
    refine ⟨t, ht, hs { nx := fun _ H' => Q .non H', rt := Q } (goalE Φ) (L2.start N vs) H (dstart N ds) μ ⟨fun σ H' δ μ' S ⟨μ2, h2, q⟩ => ?_, fun v H' d μ' σ δ S rv ⟨μ2, h2, q⟩ => ?_, fun _ _ _ _ _ z => z, fun _ _ _ _ _ z => z⟩ ⟨.refl, s0, env_start r⟩ (hv ds μ Φ Ψ hc)⟩
    · exact hq .non H' .non μ2 (S.evo.trans h2.evo) (h2.sto S.sto) (.non .nil) q
    · exact hq v H' d μ2 (S.evo.trans h2.evo) (h2.sto S.sto) (rv.mono h2.evo) q
theorem fund_mk {K : Fg} {x qual : Str} {st : Stmt} {f dT : Addr} {oc oc2 : Value} {od an od2 : Option Addr} {osl sl2 : Array (Option Value)} {kV doc pm cdv ct : Value} {its : Array Value} {n : Nat} {dvs : List V}
    (l : K.lookup f = some ⟨oc, od, .func (PySem.W.fnOf x qual (defArgs st) (defBody st) (defScope st) (.ref dT) kV doc pm an cdv ct), osl⟩) (c : PySem.W.codeIn K cdv qual = true) (k : PySem.W.keepIn K (.ref f) = true)
    (lT : K.lookup dT = some ⟨oc2, od2, .seq its n, sl2⟩) (rT : Vals dvs its.toList) (hne : dvs ≠ []) :
    FunD K x qual (defArgs st) (defBody st) (defScope st) dvs [] f (PySem.W.fnOf x qual (defArgs st) (defBody st) (defScope st) (.ref dT) kV doc pm an cdv ct) :=
  ⟨⟨oc, od, _, kV, doc, pm, an, cdv, ct, osl, rfl, l, c, .inr ⟨hne, dT, _, its.toList, n, rfl, lT, by simp, rT⟩, .inl rfl⟩, k⟩
theorem binds_full {K : Fg} {fd : FuncData} {ps : List Str} (h : ∃ us, Vals [] us ∧ Binds K fd ps us) : Binds K fd ps [] := by
  obtain ⟨us, r, b⟩ := h
  cases r
  exact b
section
variable {K : Fg} {B : Bx K} {ta tb : TE} {φ φ2 : DE} {Ψ : XP} {δ : DEnv} {μ : Sto} {Φ : DK}
def dGetXN (C : Addr) (NS : List Str) (c : Con) (φ φ2 : DE) : DE := fun Ψ δ μ Φ => φ Ψ δ μ fun x μ1 => φ2 Ψ δ μ1 fun y μ2 => ∃ es, x = .obj C NS es ∧ c [x, y] μ2 Φ fun _ _ => False
theorem sGetXN {C : Addr} {NS : List Str} {c : Con} (a : SE B ta φ) (b : SE B tb φ2) : SE B (tGetX C (spOf K c) (WE WN) ta tb) (dGetXN C NS c φ φ2) := fun σ H δ μ Φ Q S q k => a σ H δ μ _ _ S q fun v H1 x μ1 S1 e1 r1 q1 => b σ H1 δ μ1 _ _ S1 q1 fun u H2 y μ2 S2 e2 r2 q2 => by
    obtain ⟨es, rfl, q3⟩ := q2
    obtain ⟨p, dx, us, rfl, hH, hnm, hl, hr⟩ := Rep.obj_inv (r1.mono e2)
    exact ⟨p, dx, _, rfl, hH, ⟨μ2, _, Φ, fun _ _ => False, S2.sto, .cons (r1.mono e2) (.cons r2 .nil), q3, fun v H3 d μ3 e3 s3 r3 q4 => k v H3 d μ3 (S2.step e3 s3) ((e1.trans e2).trans e3) r3 q4, fun cls dd H3 y μ3 e3 s3 rx q4 => q4.elim⟩⟩
theorem u_getXN {C : Addr} {NS : List Str} {c : Con} : dGetXN C NS c φ φ2 Ψ δ μ Φ = φ Ψ δ μ fun x μ1 => φ2 Ψ δ μ1 fun y μ2 => ∃ es, x = .obj C NS es ∧ c [x, y] μ2 Φ fun _ _ => False := rfl
end
section
variable {K : Fg} {B : Bx K} {tas : TA} {ψ : DA} {Ψ : XP} {Δ : DEnds} {δ : DEnv} {μ : Sto}
def dPar (i j : Nat) (ψ : DA) : DSt := fun Ψ Δ δ μ => ψ Ψ δ μ fun xs μ1 => ∃ v w, xs = [v, w] ∧ Δ.nx ((δ.set i (some v)).set j (some w)) μ1
theorem sPar {i j : Nat} (a : SA B tas ψ) : SS B (tPar i j tas) (dPar i j ψ) := fun D Δ σ H δ μ E S q =>
  a σ H δ μ _ _ S q fun vs H1 xs μ1 S1 e1 r1 q1 => by
    obtain ⟨v, w, rfl, q1⟩ := q1
    obtain ⟨u, z, rfl, ra, rb⟩ := reps2 r1
    exact ⟨u, z, rfl, E.nx _ H1 _ μ1 ((S1.set ra i).set rb j) q1⟩
theorem u_par {i j : Nat} : dPar i j ψ Ψ Δ δ μ = ψ Ψ δ μ fun xs μ1 => ∃ v w, xs = [v, w] ∧ Δ.nx ((δ.set i (some v)).set j (some w)) μ1 := rfl
end
structure IsO (K : Fg) (C : Addr) : Prop where
  ty : ∀ {H : Hp} {a dx : Addr} {fs : List (Str × V)}, H a = some (.ins C dx fs) → TyOf K H (.ref a) (.ref C)
  kit : PySem.W.kitOne K (.ref C) (.ref C) = some true
def cIsiO (C : Addr) : DC := fun xs μ Φ => ∃ ns es, xs = [.obj C ns es, .hd (.ref C)] ∧ Φ (.bl true) μ
theorem rcIsiO {K : Fg} {C : Addr} (h : IsO K C) : RC K (rIsi K) (cIsiO C) := fun H μ vs ds Φ Q s r q k => by
  obtain ⟨ns, es, rfl, q⟩ := q
  obtain ⟨v, w, rfl, r1, r2⟩ := reps2 r
  obtain rfl := Rep.hd_inv r2
  obtain ⟨p, dx, us, rfl, hH, hnm, hl, hr⟩ := Rep.obj_inv r1
  exact ⟨_, _, _, _, true, rfl, .own C, .base (h.ty hH), h.kit, k _ H _ μ .refl s (.bl _ .nil) q⟩
theorem w_isiO {C : Addr} {ns : List Str} {es : List D} {μ : Sto} {Φ : DK} : cIsiO C [.obj C ns es, .hd (.ref C)] μ Φ = Φ (.bl true) μ := propext ⟨fun ⟨_, _, e, q⟩ => q, fun q => ⟨ns, es, rfl, q⟩⟩
end DW
set_option Elab.async false
set_option linter.all false
set_option maxRecDepth 100000
namespace LW
open PySem PySem.Spec L2 DW
def prodI (ws : List Int) : Int := ws.foldl (· * ·) 1
theorem prodI_snoc (ws : List Int) (z : Int) : prodI (ws ++ [z]) = prodI ws * z := by unfold prodI; rw [List.foldl_append]; rfl
theorem prod_snoc {ws : List Int} {i : Nat} {z : Int} (h : ws[i]? = some z) : prodI (ws.take (i + 1)) = prodI (ws.take i) * z := by
  rw [List.take_add_one, h]; exact prodI_snoc _ _
def prodR : List Int → Int
  | [] => 1
  | w :: r => prodR r * w
theorem prodI_rev : ∀ r : List Int, prodI r.reverse = prodR r
  | [] => rfl
  | w :: r => by rw [List.reverse_cons, prodI_snoc, prodI_rev r]; rfl
abbrev Pos (ws : List Int) : Prop := ∀ w ∈ ws, (0 : Int) < w
theorem Pos.rev {ws : List Int} (h : Pos ws) : Pos ws.reverse := fun w hw => h w (List.mem_reverse.mp hw)
theorem prodR_pos : ∀ {r : List Int}, Pos r → 0 < prodR r
  | [], _ => by decide
  | w :: r, h => Int.mul_pos (prodR_pos fun x hx => h x (List.mem_cons_of_mem _ hx)) (h w List.mem_cons_self)
/-- widths as they are drawn -/
structure WB (ws : List Int) : Prop where
  len : ws.length ≤ 1000
  lo : ∀ w ∈ ws, (0 : Int) ≤ w
  hi : ∀ w ∈ ws, w < 2 ^ 100
  pr : ∀ j, 0 ≤ prodI (ws.take j) ∧ prodI (ws.take j) < 2 ^ 200
end LW
set_option Elab.async false
set_option linter.all false
set_option maxRecDepth 100000
namespace LW
open PySem PySem.Spec L2 DW
/-- two lists that change: the state and one's own -/
structure Two (μ : Sto) (p st : Addr) (L c : List D) (μ' : Sto) : Prop where
  hp : μ p = none
  ne : st ≠ p
  pL : μ' p = some (.lst L)
  sc : μ' st = some (.lst c)
  ot : ∀ a, a ≠ p → a ≠ st → μ' a = μ a
theorem Two.start {μ : Sto} {p st : Addr} {L c : List D} (hp : μ p = none) (hs : μ st = some (.lst c)) : Two μ p st L c (sset μ p (.lst L)) := by
  have ne : st ≠ p := fun z => by rw [z, hp] at hs; cases hs
  exact ⟨hp, ne, sset_same, by rw [sset_ne ne]; exact hs, fun a h _ => sset_ne h⟩
theorem Two.setS {μ μ' : Sto} {p st : Addr} {L c c2 : List D} (T : Two μ p st L c μ') : Two μ p st L c2 (sset μ' st (.lst c2)) :=
  ⟨T.hp, T.ne, by rw [sset_ne (Ne.symm T.ne)]; exact T.pL, sset_same, fun a h1 h2 => by rw [sset_ne h2]; exact T.ot a h1 h2⟩
theorem Two.setP {μ μ' : Sto} {p st : Addr} {L L2 c : List D} (T : Two μ p st L c μ') : Two μ p st L2 c (sset μ' p (.lst L2)) :=
  ⟨T.hp, T.ne, sset_same, by rw [sset_ne T.ne]; exact T.sc, fun a h1 h2 => by rw [sset_ne h1]; exact T.ot a h1 h2⟩
theorem Two.del {μ μ' : Sto} {p st : Addr} {L c : List D} (T : Two μ p st L c μ') : sdel μ' p = sset μ st (.lst c) := by
  funext a
  unfold sdel
  by_cases h : a = p
  · subst h; rw [if_pos rfl, sset_ne (Ne.symm T.ne), T.hp]
  · rw [if_neg h]
    by_cases h2 : a = st
    · subst h2; rw [sset_same, T.sc]
    · rw [sset_ne h2]; exact T.ot a h h2
theorem prodI_eqR (ws : List Int) : prodI ws = prodR ws.reverse := by
  have e := prodI_rev ws.reverse
  rw [List.reverse_reverse] at e
  exact e
theorem prodI_pos0 {ws : List Int} (h : Pos ws) : 0 < prodI ws := by rw [prodI_eqR]; exact prodR_pos h.rev
theorem Pos.take {ws : List Int} (h : Pos ws) (j : Nat) : Pos (ws.take j) := fun w hw => h w (List.mem_of_mem_take hw)
/-- a product of a front is no greater -/
theorem prod_take_le {ws : List Int} (h : Pos ws) : ∀ j, prodI (ws.take j) ≤ prodI ws := by
  have step : ∀ j, prodI (ws.take j) ≤ prodI (ws.take (j + 1)) := fun j => by
    cases e : ws[j]? with
    | none =>
      have hl : ws.length ≤ j := by rw [List.getElem?_eq_none_iff] at e; exact e
      rw [List.take_of_length_le hl, List.take_of_length_le (by omega)]; exact Int.le_refl _
    | some z =>
      rw [LW.prod_snoc e]
      have h1 := prodI_pos0 (h.take j)
      have h2 := h z (List.mem_of_getElem? e)
      have : prodI (ws.take j) * 1 ≤ prodI (ws.take j) * z := Int.mul_le_mul_of_nonneg_left (by omega) (by omega)
      omega
  have far : ∀ k j, prodI (ws.take j) ≤ prodI (ws.take (j + k)) := fun k => by
    induction k with
    | zero => intro j; exact Int.le_refl _
    | succ k ih => intro j; exact Int.le_trans (ih j) (step (j + k))
  intro j
  have := far ws.length j
  rw [List.take_of_length_le (by omega : ws.length ≤ j + ws.length)] at this
  exact this
theorem WB.of {ws : List Int} (hl : ws.length ≤ 1000) (hp : Pos ws) (hh : ∀ w ∈ ws, w < 2 ^ 100) (hb : prodI ws < 2 ^ 200) : WB ws :=
  ⟨hl, fun w hw => by have := hp w hw; omega, hh, fun j => ⟨by have := prodI_pos0 (hp.take j); omega, by have := prod_take_le hp j; omega⟩⟩
end LW
set_option Elab.async false
set_option linter.all false
set_option maxRecDepth 100000
namespace LW
open PySem PySem.Spec L2 DW
inductive Am where
  | any | best (r : List Int) | second (r : List Int) | most | fewest | fixed | like (i : Nat) | unlike (i : Nat) | among (l : List Int) | only (l : List Int) | table (rows : List (List Int))
  | either (a b : Am) | both (a b : Am) | els (a b : Am) | not (a : Am) | first (a : Am) | recode (m : List Int) (a : Am) | reorder (p : List Int) (a : Am)
namespace Am
def iT (l : List Int) : D := .tup (l.map .int)
def d : Am → D
  | any => .tup [.str "any"]
  | best r => .tup [.str "best", iT r]
  | second r => .tup [.str "second", iT r]
  | most => .tup [.str "most"]
  | fewest => .tup [.str "fewest"]
  | fixed => .tup [.str "fixed"]
  | like i => .tup [.str "like", .int i]
  | unlike i => .tup [.str "unlike", .int i]
  | among l => .tup [.str "among", iT l]
  | only l => .tup [.str "only", iT l]
  | table rows => .tup [.str "table", .tup (rows.map iT)]
  | either a b => .tup [.str "either", a.d, b.d]
  | both a b => .tup [.str "both", a.d, b.d]
  | els a b => .tup [.str "else", a.d, b.d]
  | not a => .tup [.str "not", a.d]
  | first a => .tup [.str "first", a.d]
  | recode m a => .tup [.str "recode", iT m, a.d]
  | reorder p a => .tup [.str "reorder", iT p, a.d]
end Am
/-- ascending numbers from lo on, below hi -/
def Asc (hi : Int) : Int → List Int → Prop
  | _, [] => True
  | lo, x :: r => lo ≤ x ∧ x < hi ∧ Asc hi (x + 1) r
structure CtxOk (n k : Nat) (c : List Int) : Prop where
  len : c.length = n
  lo : ∀ r ∈ c, 0 ≤ r
  hi : ∀ r ∈ c, r < k
  n1 : 1 ≤ n
  n64 : n ≤ 64
  k1 : 1 ≤ k
  k4 : k ≤ 4
def NumOk (len lim : Nat) (r : List Int) : Prop := r.length = len ∧ ∀ x ∈ r, 0 ≤ x ∧ x < (lim : Int)
def AmOk (n k : Nat) : Am → Prop
  | .any => True
  | .best r => NumOk k 10 r
  | .second r => NumOk k 10 r
  | .most => True
  | .fewest => True
  | .fixed => True
  | .like i => i < n
  | .unlike i => i < n
  | .among l => Asc k 0 l
  | .only l => Asc n 0 l
  | .table rows => n ≤ 8 ∧ k ^ n ≤ 256 ∧ rows.length = k ^ n ∧ ∀ l ∈ rows, Asc n 0 l
  | .either a b => AmOk n k a ∧ AmOk n k b
  | .both a b => AmOk n k a ∧ AmOk n k b
  | .els a b => AmOk n k a ∧ AmOk n k b
  | .not a => AmOk n k a
  | .first a => AmOk n k a
  | .recode m a => NumOk k k m ∧ AmOk n k a
  | .reorder p a => NumOk n n p ∧ p.Nodup ∧ AmOk n k a
def at' (l : List Int) (i : Int) : Int := l.getD i.toNat 0
/-- the number of a context -/
def ctxIx (k : Nat) (c : List Int) : Int := c.foldl (fun s r => s * k + r) 0
def someI (n : Nat) (p : Nat → Bool) : Bool := (List.range n).any p
def isG (k : Nat) : Am → List Int → Nat → Bool
  | .any, _, _ => true
  | .best r, c, x => c.all fun s => decide (at' r s ≤ at' r (c.getD x 0))
  | .second r, c, x => let m := at' r (c.getD x 0); c.all (fun s => m == at' r s) || (let ab := (c.map (at' r)).filter (fun s => decide (m < s)); decide (0 < ab.length) && ab.all (· == ab.getD 0 0))
  | .most, c, x => c.all fun s => decide (c.count s ≤ c.count (c.getD x 0))
  | .fewest, c, x => c.all fun s => decide (c.count (c.getD x 0) ≤ c.count s)
  | .fixed, c, x => c.getD x 0 == (x : Int)
  | .like i, c, x => c.getD x 0 == c.getD i 0
  | .unlike i, c, x => c.getD x 0 != c.getD i 0
  | .among l, c, x => l.contains (c.getD x 0)
  | .only l, _, x => l.contains (x : Int)
  | .table rows, c, x => (rows.getD (ctxIx k c).toNat []).contains (x : Int)
  | .either a b, c, x => isG k a c x || isG k b c x
  | .both a b, c, x => isG k a c x && isG k b c x
  | .els a b, c, x => if someI c.length (isG k a c) then isG k a c x else isG k b c x
  | .not a, c, x => !isG k a c x
  | .first a, c, x => isG k a c x && !someI x (isG k a c)
  | .recode m a, c, x => isG k a (c.map (at' m)) x
  | .reorder p a, c, x => isG k a ((List.range c.length).map fun (y : Nat) => c.getD (p.idxOf (y : Int)) (0 : Int)) (at' p x).toNat
def flagL (k : Nat) (a : Am) (c : List Int) : List D := (List.range c.length).map fun x => .bl (isG k a c x)
def FlC (P : Am → Prop) : Con := fun ds μ Φ _ => ∃ (n k : Nat) (a : Am) (c : List Int), P a ∧ AmOk n k a ∧ CtxOk n k c ∧ ds = [a.d, .tup (c.map .int), .int k] ∧ Φ (.lst (flagL k a c)) μ
section
variable {Ψ : XP} {Φ : DK} {n : Nat} {φ : DE} {δw : DEnv} {μ1 : Sto}
/-- over numbers, by the place -/
theorem lcI {ws : List Int} (v : Nat → D) (hz : ws.length ≤ 100000)
    (hs : ∀ (i : Nat) (z : Int) (μ2 : Sto) (X : DK), ws[i]? = some z → Sub μ1 μ2 → X (v i) μ2 → φ Ψ (δw.set n (some (.int z))) μ2 X)
    (hd : Φ (.lst ((List.range ws.length).map v)) μ1) : LcG (eName n) dYes φ δw Ψ (ws.map .int) μ1 Φ := by
  have hl : (ws.map D.int).length = ws.length := List.length_map ..
  refine lcG_mapN v (by rw [hl]; exact hz) (fun i d μ2 X hi hsub hx => ?_) (by rw [hl]; exact hd)
  obtain ⟨z, e, rfl⟩ := mapI_get hi
  exact hs i z μ2 X e hsub hx
/-- over numbers, by the number -/
theorem lcZ {ws : List Int} (f : Int → D) (hz : ws.length ≤ 100000)
    (hs : ∀ (z : Int) (μ2 : Sto) (X : DK), z ∈ ws → Sub μ1 μ2 → X (f z) μ2 → φ Ψ (δw.set n (some (.int z))) μ2 X)
    (hd : Φ (.lst (ws.map f)) μ1) : LcG (eName n) dYes φ δw Ψ (ws.map .int) μ1 Φ := by
  refine lcI (fun i => f (ws.getD i 0)) hz (fun i z μ2 X hi hsub hx => ?_) ?_
  · rw [List.getD_eq_getElem?_getD, hi] at hx
    exact hs z μ2 X (List.mem_of_getElem? hi) hsub hx
  · have : (List.range ws.length).map (fun i => f (ws.getD i 0)) = ws.map f := by
      apply List.ext_getElem
      · simp
      · intro i h1 h2
        simp at h1
        simp [List.getD_eq_getElem?_getD, List.getElem?_eq_getElem h1]
    rw [this]; exact hd
/-- over a range -/
theorem lcR {m : Nat} (v : Nat → D) (hz : m ≤ 100000)
    (hs : ∀ (i : Nat) (μ2 : Sto) (X : DK), i < m → Sub μ1 μ2 → X (v i) μ2 → φ Ψ (δw.set n (some (.int (i : Int)))) μ2 X)
    (hd : Φ (.lst ((List.range m).map v)) μ1) : LcG (eName n) dYes φ δw Ψ (rngD 0 m) μ1 Φ := by
  refine lcG_mapN v (by rw [rngD_len]; exact hz) (fun i d μ2 X hi hsub hx => ?_) (by rw [rngD_len]; exact hd)
  obtain ⟨hj, rfl⟩ := rngD_get hi
  have := hs i μ2 X hj hsub hx
  rw [Int.zero_add]
  exact this
end
theorem FlC.len {P : Am → Prop} {ds μ Φ Ψ} (h : FlC P ds μ Φ Ψ) : ds.length = 3 := by obtain ⟨_, _, _, _, _, _, _, rfl, _⟩ := h; rfl
end LW
set_option Elab.async false
set_option linter.all false
set_option maxRecDepth 100000
set_option Elab.async false
set_option linter.all false
set_option maxRecDepth 100000
namespace LW
open PySem PySem.Spec L2 DW
theorem seq_cut {ω ζ : DSt} {Ψ : XP} {Δ : DEnds} {δ : DEnv} {μ : Sto} (h : ∀ M, M = ζ Ψ Δ → ω Ψ { Δ with nx := M } δ μ) : dSeq ω ζ Ψ Δ δ μ := h _ rfl
structure Rw where
  h : List Int
  c : List Int
def NSA : List Str := ["head", "cycle"]
def rwO (C : Addr) (r : Rw) : D := .obj C NSA [.tup (r.h.map .int), .tup (r.c.map .int)]
def cyc (c : List Int) (i : Nat) : Int := c.getD (i % c.length) 0
/-- what stands at a place -/
def ent (r : Rw) (i : Nat) : Int := if i < r.h.length then r.h.getD i 0 else cyc r.c (i - r.h.length)
structure RwOk (r : Rw) : Prop where
  c0 : r.c ≠ []
  hl : r.h.length ≤ 1000
  cl : r.c.length ≤ 1000
  hp : ∀ x ∈ r.h, 0 ≤ x
  cp : ∀ x ∈ r.c, 0 ≤ x
def Per (c : List Int) (d : Nat) : Prop := ∀ i, cyc c (i + d) = cyc c i
theorem cyc_mod (c : List Int) (i : Nat) : cyc c (i % c.length) = cyc c i := by unfold cyc; rw [Nat.mod_mod]
theorem cyc_lt {c : List Int} {i : Nat} (h : i < c.length) : cyc c i = c[i] := by
  unfold cyc
  rw [Nat.mod_eq_of_lt h, List.getD_eq_getElem?_getD, List.getElem?_eq_getElem h]; rfl
theorem cyc_add (c : List Int) (i : Nat) : cyc c (i + c.length) = cyc c i := by unfold cyc; rw [Nat.add_mod_right]
theorem per_len (c : List Int) : Per c c.length := cyc_add c
theorem per_of {c : List Int} {d : Nat} (h : ∀ i, i < c.length → cyc c (i + d) = cyc c i) (hc : 0 < c.length) : Per c d := fun i => by
  have := h (i % c.length) (Nat.mod_lt _ hc)
  rw [cyc_mod] at this
  rw [← this]
  unfold cyc
  rw [Nat.mod_add_mod]
theorem per_mul {c : List Int} {d : Nat} (h : Per c d) : ∀ k i, cyc c (i + k * d) = cyc c i
  | 0, i => by rw [Nat.zero_mul, Nat.add_zero]
  | k + 1, i => by rw [show i + (k + 1) * d = i + k * d + d by rw [Nat.add_mul]; omega, h, per_mul h k i]
theorem least {P : Nat → Prop} {n : Nat} (h : P n) : ∃ m, m ≤ n ∧ P m ∧ ∀ j, j < m → ¬ P j := by
  induction n using Nat.strongRecOn with
  | ind n ih =>
    by_cases hx : ∃ j, j < n ∧ P j
    · obtain ⟨j, hj, hp⟩ := hx
      obtain ⟨m, h1, h2, h3⟩ := ih j hj hp
      exact ⟨m, by omega, h2, h3⟩
    · exact ⟨n, Nat.le_refl _, h, fun j hj hp => hx ⟨j, hj, hp⟩⟩
structure MinPer (c : List Int) (d : Nat) : Prop where
  d1 : 1 ≤ d
  per : Per c d
  min : ∀ e, 1 ≤ e → e < d → ¬ Per c e
theorem minper_ex {c : List Int} (hc : c ≠ []) : ∃ d, MinPer c d := by
  obtain ⟨m, _, ⟨h1, h2⟩, h3⟩ := least (P := fun d => 1 ≤ d ∧ Per c d) (n := c.length) ⟨List.length_pos_iff.mpr hc, per_len c⟩
  exact ⟨m, h1, h2, fun e e1 e2 hp => h3 e e2 ⟨e1, hp⟩⟩
theorem MinPer.le {c : List Int} {d : Nat} (h : MinPer c d) (hc : c ≠ []) : d ≤ c.length := Classical.byContradiction fun z => h.min c.length (List.length_pos_iff.mpr hc) (by omega) (per_len c)
theorem MinPer.dvd {c : List Int} {d e : Nat} (h : MinPer c d) (he : Per c e) : e % d = 0 := by
  refine Classical.byContradiction fun z => h.min (e % d) (by omega) (Nat.mod_lt _ h.d1) fun i => ?_
  have e1 := per_mul h.per (e / d) (i + e % d)
  have e2 : i + e % d + e / d * d = i + e := by have := Nat.div_add_mod e d; rw [Nat.mul_comm] at this; omega
  rw [e2, he] at e1
  exact e1.symm
theorem MinPer.uniq {c : List Int} {d e : Nat} (h : MinPer c d) (g : MinPer c e) : d = e := by
  rcases Nat.lt_trichotomy d e with q | q | q
  · exact absurd h.per (g.min d h.d1 q)
  · exact q
  · exact absurd g.per (h.min e g.d1 q)
/-- turned by d -/
def rot (c : List Int) (d : Nat) : List Int := c.drop d ++ c.take d
theorem rot_len {c : List Int} {d : Nat} (h : d ≤ c.length) : (rot c d).length = c.length := by unfold rot; rw [List.length_append, List.length_drop, List.length_take]; omega
theorem rot_at {c : List Int} {d i : Nat} (h : d ≤ c.length) (hi : i < c.length) : (rot c d)[i]? = some (cyc c (i + d)) := by
  unfold rot
  by_cases q : i + d < c.length
  · rw [List.getElem?_append_left (by rw [List.length_drop]; omega), List.getElem?_drop, Nat.add_comm d i, List.getElem?_eq_getElem q, cyc_lt q]
  · rw [List.getElem?_append_right (by rw [List.length_drop]; omega), List.length_drop, List.getElem?_take, if_pos (by omega), List.getElem?_eq_getElem (by omega)]
    have e : (i + d) % c.length = i - (c.length - d) := by
      rw [Nat.mod_eq_sub_mod (by omega), Nat.mod_eq_of_lt (by omega)]; omega
    unfold cyc
    rw [e, List.getD_eq_getElem?_getD, List.getElem?_eq_getElem (by omega)]; rfl
theorem self_at {c : List Int} {i : Nat} (hi : i < c.length) : c[i]? = some (cyc c i) := by rw [List.getElem?_eq_getElem hi, cyc_lt hi]
theorem rot_per {c : List Int} {d : Nat} (h : d ≤ c.length) (hc : c ≠ []) : rot c d = c ↔ Per c d := by
  refine ⟨fun e => per_of (fun i hi => ?_) (List.length_pos_iff.mpr hc), fun p => ?_⟩
  · have := rot_at h hi
    rw [e, self_at hi] at this
    exact (Option.some.inj this).symm
  · apply List.ext_getElem?
    intro i
    by_cases hi : i < c.length
    · rw [rot_at h hi, self_at hi, p]
    · rw [List.getElem?_eq_none (by rw [rot_len h]; omega), List.getElem?_eq_none (by omega)]
theorem rep_at {α : Type} {l : List α} : ∀ {k i : Nat}, i < k * l.length → (List.replicate k l).flatten[i]? = l[i % l.length]?
  | 0, i, h => by simp at h
  | k + 1, i, h => by
    rw [List.replicate_succ, List.flatten_cons]
    by_cases q : i < l.length
    · rw [List.getElem?_append_left q, Nat.mod_eq_of_lt q]
    · rw [List.getElem?_append_right (by omega), rep_at (by rw [Nat.add_mul] at h; omega), ← Nat.mod_eq_sub_mod (by omega)]
theorem rep_per {c : List Int} {d : Nat} (d1 : 1 ≤ d) (h : d ≤ c.length) : (List.replicate (c.length / d) (c.take d)).flatten = c ↔ (c.length % d = 0 ∧ Per c d) := by
  have hl : (c.take d).length = d := by rw [List.length_take]; omega
  have hn : (List.replicate (c.length / d) (c.take d)).flatten.length = c.length / d * d := by simp [hl]
  have hc : 0 < c.length := by omega
  refine ⟨fun e => ?_, fun ⟨z, p⟩ => ?_⟩
  · have el : c.length / d * d = c.length := by rw [← hn, e]
    have z : c.length % d = 0 := by have := Nat.div_add_mod c.length d; rw [Nat.mul_comm] at this; omega
    have key : ∀ i, i < c.length → cyc c (i % d) = cyc c i := fun i hi => by
      have := rep_at (l := c.take d) (k := c.length / d) (i := i) (by rw [hl, el]; exact hi)
      rw [e, hl, List.getElem?_take, if_pos (Nat.mod_lt _ d1), self_at hi, self_at (by have := Nat.mod_lt i d1; omega)] at this
      exact (Option.some.inj this).symm
    refine ⟨z, per_of (fun i hi => ?_) hc⟩
    have a := key ((i + d) % c.length) (Nat.mod_lt _ hc)
    rw [Nat.mod_mod_of_dvd _ (Nat.dvd_of_mod_eq_zero z), Nat.add_mod_right, key i hi, cyc_mod] at a
    exact a.symm
  · have el : c.length / d * d = c.length := by have := Nat.div_add_mod c.length d; rw [Nat.mul_comm] at this; omega
    apply List.ext_getElem?
    intro i
    by_cases hi : i < c.length
    · rw [rep_at (by rw [hl, el]; exact hi), hl, List.getElem?_take, if_pos (Nat.mod_lt _ d1), self_at hi, self_at (by have := Nat.mod_lt i d1; omega)]
      have := per_mul p (i / d) (i % d)
      rw [show i % d + i / d * d = i by have := Nat.div_add_mod i d; rw [Nat.mul_comm] at this; omega] at this
      rw [this]
    · rw [List.getElem?_eq_none (by rw [hn, el]; omega), List.getElem?_eq_none (by omega)]
structure LeastOf (s : Nat → Int) (p d : Nat) : Prop where
  d1 : 1 ≤ d
  dmin : ∀ e, 1 ≤ e → e < d → ¬ ∃ N, ∀ m, N ≤ m → s (m + e) = s m
  pp : ∀ m, p ≤ m → s (m + d) = s m
  pmin : ∀ q, q < p → ¬ ∀ m, q ≤ m → s (m + d) = s m
theorem LeastOf.uniq {s : Nat → Int} {p d p' d' : Nat} (h : LeastOf s p d) (g : LeastOf s p' d') : p = p' ∧ d = d' := by
  have ed : d = d' := by
    rcases Nat.lt_trichotomy d d' with q | q | q
    · exact absurd ⟨p, h.pp⟩ (g.dmin d h.d1 q)
    · exact q
    · exact absurd ⟨p', g.pp⟩ (h.dmin d' g.d1 q)
  subst ed
  refine ⟨?_, rfl⟩
  rcases Nat.lt_trichotomy p p' with q | q | q
  · exact absurd h.pp (g.pmin p q)
  · exact q
  · exact absurd g.pp (h.pmin p' q)
def mkR (s : Nat → Int) (p d : Nat) : Rw := ⟨(List.range p).map s, (List.range d).map fun i => s (p + i)⟩
/-- the least form of r -/
def IsLeast (r r' : Rw) : Prop := ∃ p d, LeastOf (ent r) p d ∧ r' = mkR (ent r) p d
theorem IsLeast.uniq {r a b : Rw} (h : IsLeast r a) (g : IsLeast r b) : a = b := by
  obtain ⟨p, d, h1, rfl⟩ := h
  obtain ⟨p', d', h2, rfl⟩ := g
  obtain ⟨rfl, rfl⟩ := h1.uniq h2
  rfl
theorem IsLeast.cong {r q a b : Rw} (h : IsLeast r a) (g : IsLeast q b) (e : ∀ i, ent r i = ent q i) : a = b := by
  have : ent r = ent q := funext e
  obtain ⟨p, d, h1, rfl⟩ := h
  obtain ⟨p', d', h2, rfl⟩ := g
  rw [this] at h1 ⊢
  obtain ⟨rfl, rfl⟩ := h1.uniq h2
  rfl
theorem ent_mk {s : Nat → Int} {p d : Nat} (d1 : 1 ≤ d) (hp : ∀ m, p ≤ m → s (m + d) = s m) (i : Nat) : ent (mkR s p d) i = s i := by
  unfold ent mkR
  simp only [List.length_map, List.length_range]
  by_cases h : i < p
  · rw [if_pos h, List.getD_eq_getElem?_getD, List.getElem?_map, List.getElem?_range h]; rfl
  · rw [if_neg h]
    unfold cyc
    rw [List.length_map, List.length_range, List.getD_eq_getElem?_getD, List.getElem?_map, List.getElem?_range (Nat.mod_lt _ d1)]
    show s (p + (i - p) % d) = s i
    have : ∀ k j, p ≤ j → s (j + k * d) = s j := fun k => by
      induction k with
      | zero => intro j hj; rw [Nat.zero_mul, Nat.add_zero]
      | succ k ih => intro j hj; rw [show j + (k + 1) * d = j + k * d + d by rw [Nat.add_mul]; omega, hp _ (by omega), ih j hj]
    have e := this ((i - p) / d) (p + (i - p) % d) (by omega)
    rw [← e]
    congr 1
    have := Nat.div_add_mod (i - p) d
    rw [Nat.mul_comm] at this
    omega
theorem IsLeast.ent_eq {r a : Rw} (h : IsLeast r a) (i : Nat) : ent a i = ent r i := by
  obtain ⟨p, d, h1, rfl⟩ := h
  exact ent_mk h1.d1 h1.pp i
theorem ent_eper {r : Rw} (hc : r.c ≠ []) {e : Nat} (h : ∃ N, ∀ m, N ≤ m → ent r (m + e) = ent r m) : Per r.c e := fun i => by
  obtain ⟨N, h⟩ := h
  have hl : 0 < r.c.length := List.length_pos_iff.mpr hc
  have hN : N ≤ N * r.c.length := Nat.le_mul_of_pos_right _ hl
  have := h (r.h.length + (i + N * r.c.length)) (by omega)
  unfold ent at this
  rw [if_neg (by omega), if_neg (by omega), show r.h.length + (i + N * r.c.length) + e - r.h.length = i + e + N * r.c.length by omega, Nat.add_sub_cancel_left, per_mul (per_len r.c), per_mul (per_len r.c)] at this
  exact this
/-- how many last entries of the head the cycle could say, d the shortest cycle's length -/
structure Spare (h c : List Int) (d sp : Nat) : Prop where
  le : sp ≤ h.length
  yes : ∀ s, s < sp → h.getD (h.length - 1 - s) 0 = cyc c (d - 1 - s % d)
  no : sp < h.length → h.getD (h.length - 1 - sp) 0 ≠ cyc c (d - 1 - sp % d)
theorem back_mod {d s : Nat} (h : d ≤ s) : (s - d) % d = s % d := (Nat.mod_eq_sub_mod h).symm
theorem spare_per {r : Rw} {d sp : Nat} (hc : r.c ≠ []) (hd : MinPer r.c d) (hs : Spare r.h r.c d sp) {s : Nat} (hsl : s < r.h.length) (hss : s ≤ sp) : ent r (r.h.length - 1 - s + d) = cyc r.c (d - 1 - s % d) := by
  have d1 := hd.d1
  unfold ent
  by_cases q : s < d
  · rw [if_neg (by omega), Nat.mod_eq_of_lt q]
    congr 1
    omega
  · rw [if_pos (by omega), show r.h.length - 1 - s + d = r.h.length - 1 - (s - d) by omega, hs.yes (s - d) (by omega), back_mod (by omega)]
theorem leastOf_spare {r : Rw} {d sp : Nat} (hc : r.c ≠ []) (hd : MinPer r.c d) (hs : Spare r.h r.c d sp) : LeastOf (ent r) (r.h.length - sp) d := by
  have d1 := hd.d1
  refine ⟨d1, fun e e1 e2 z => hd.min e e1 e2 (ent_eper hc z), fun m hm => ?_, fun q hq z => ?_⟩
  · by_cases h : r.h.length ≤ m
    · unfold ent
      rw [if_neg (by omega), if_neg (by omega), show m + d - r.h.length = m - r.h.length + d by omega]
      exact hd.per _
    · obtain ⟨s, rfl⟩ : ∃ s, m = r.h.length - 1 - s := ⟨r.h.length - 1 - m, by omega⟩
      by_cases hs0 : s < r.h.length
      · have hss : s < sp := by omega
        rw [spare_per hc hd hs hs0 (by omega), ← hs.yes s hss]
        unfold ent
        rw [if_pos (by omega)]
      · have e0 : r.h.length - 1 - s = r.h.length - 1 - (r.h.length - 1) := by omega
        rw [e0]
        rw [spare_per hc hd hs (by omega) (by omega), ← hs.yes _ (by omega)]
        unfold ent
        rw [if_pos (by omega)]
  · have hlt : sp < r.h.length := by omega
    have e := z (r.h.length - 1 - sp) (by omega)
    rw [spare_per hc hd hs hlt (Nat.le_refl _)] at e
    refine hs.no hlt ?_
    rw [e]
    unfold ent
    rw [if_pos (by omega)]
theorem cyc_cong {c : List Int} {d x y k : Nat} (p : Per c d) (h : x = y + k * d) : cyc c x = cyc c y := by rw [h, per_mul p]
theorem take_cyc {c : List Int} {d : Nat} (hc : c ≠ []) (hd : MinPer c d) (j : Nat) : cyc (c.take d) j = cyc c j := by
  have d1 := hd.d1
  have hl : (c.take d).length = d := by rw [List.length_take]; have := hd.le hc; omega
  have e : cyc (c.take d) j = cyc c (j % d) := by
    have hlt : j % d < d := Nat.mod_lt _ d1
    have hle := hd.le hc
    rw [← cyc_mod, hl, cyc_lt (by rw [hl]; exact hlt), List.getElem_take, cyc_lt (by omega)]
  rw [e]
  refine (cyc_cong (k := j / d) hd.per ?_).symm
  have := Nat.div_add_mod j d
  rw [Nat.mul_comm] at this
  omega
/-- what the program makes is the least form -/
theorem isleast_prog {r : Rw} {d sp st : Nat} (hc : r.c ≠ []) (hd : MinPer r.c d) (hs : Spare r.h r.c d sp) (hst : st < d) (hz : (st + sp) % d = 0) : IsLeast r ⟨r.h.take (r.h.length - sp), rot (r.c.take d) st⟩ := by
  have d1 := hd.d1
  have hl : (r.c.take d).length = d := by rw [List.length_take]; have := hd.le hc; omega
  have hle := hs.le
  refine ⟨r.h.length - sp, d, leastOf_spare hc hd hs, ?_⟩
  unfold mkR
  rw [Rw.mk.injEq]
  constructor
  · apply List.ext_getElem?
    intro i
    by_cases h : i < r.h.length - sp
    · rw [List.getElem?_take, if_pos h, List.getElem?_map, List.getElem?_range h, Option.map_some, List.getElem?_eq_getElem (by omega)]
      unfold ent
      rw [if_pos (by omega), List.getD_eq_getElem?_getD, List.getElem?_eq_getElem (by omega)]; rfl
    · rw [List.getElem?_eq_none (by rw [List.length_take]; omega), List.getElem?_eq_none (by rw [List.length_map, List.length_range]; omega)]
  · apply List.ext_getElem?
    intro i
    by_cases h : i < d
    · rw [rot_at (by rw [hl]; omega) (by rw [hl]; exact h), List.getElem?_map, List.getElem?_range h, Option.map_some, take_cyc hc hd]
      congr 1
      obtain ⟨q, hq⟩ : ∃ q, st + sp = d * q := ⟨(st + sp) / d, by have := Nat.div_add_mod (st + sp) d; omega⟩
      by_cases hi : i < sp
      · obtain ⟨s, hs2⟩ : ∃ s, s = sp - 1 - i := ⟨_, rfl⟩
        have e1 : r.h.length - sp + i = r.h.length - 1 - s := by omega
        rw [e1]
        have e2 : ent r (r.h.length - 1 - s) = cyc r.c (d - 1 - s % d) := by
          rw [← hs.yes s (by omega)]
          unfold ent
          rw [if_pos (by omega)]
        rw [e2]
        have m1 := Nat.div_add_mod s d
        have m2 := Nat.mod_lt s d1
        have hqs : s / d + 1 ≤ q := by
          have : d * (s / d) < d * q := by omega
          exact Nat.lt_of_mul_lt_mul_left this
        obtain ⟨k, rfl⟩ : ∃ k, q = s / d + 1 + k := ⟨q - (s / d + 1), by omega⟩
        refine cyc_cong (k := k) hd.per ?_
        have e3 : d * (s / d + 1 + k) = d * (s / d) + d + k * d := by rw [Nat.mul_add, Nat.mul_add, Nat.mul_one, Nat.mul_comm d k]
        omega
      · unfold ent
        rw [if_neg (by omega)]
        refine cyc_cong (k := q) hd.per ?_
        rw [Nat.mul_comm q d]
        omega
    · rw [List.getElem?_eq_none (by rw [rot_len (by rw [hl]; omega), hl]; omega), List.getElem?_eq_none (by rw [List.length_map, List.length_range]; omega)]
theorem isleast_law {r : Rw} {d p : Nat} (hc : r.c ≠ []) (hd : MinPer r.c d) (hp : p ≤ r.h.length) (h1 : ∀ m, p ≤ m → m < r.h.length → ent r m = ent r (m + d)) (h2 : ∀ q, q + 1 = p → ent r q ≠ ent r (q + d)) : IsLeast r (mkR (ent r) p d) := by
  refine ⟨p, d, ⟨hd.d1, fun e e1 e2 z => hd.min e e1 e2 (ent_eper hc z), fun m hm => ?_, fun q hq z => ?_⟩, rfl⟩
  · by_cases h : r.h.length ≤ m
    · unfold ent
      rw [if_neg (by omega), if_neg (by omega), show m + d - r.h.length = m - r.h.length + d by omega]
      exact hd.per _
    · exact (h1 m hm (by omega)).symm
  · exact h2 (p - 1) (by omega) (z (p - 1) (by omega)).symm
theorem RwOk.least {r a : Rw} (h : RwOk r) (g : IsLeast r a) : RwOk a ∧ a.h.length ≤ r.h.length ∧ a.c.length ≤ r.c.length := by
  have hl : 0 < r.c.length := List.length_pos_iff.mpr h.c0
  have he : ∀ i, 0 ≤ ent r i := fun i => by
    unfold ent cyc
    split
    · rename_i q
      rw [List.getD_eq_getElem?_getD, List.getElem?_eq_getElem q]
      exact h.hp _ (List.getElem_mem q)
    · have q := Nat.mod_lt (i - r.h.length) hl
      rw [List.getD_eq_getElem?_getD, List.getElem?_eq_getElem q]
      exact h.cp _ (List.getElem_mem q)
  obtain ⟨p, d, h1, rfl⟩ := g
  have d1 := h1.d1
  have hp : p ≤ r.h.length := Classical.byContradiction fun z => h1.pmin r.h.length (by omega) fun m hm => by
    have := ent_eper h.c0 ⟨p, h1.pp⟩
    unfold ent
    rw [if_neg (by omega), if_neg (by omega), show m + d - r.h.length = m - r.h.length + d by omega]
    exact this _
  have hd : d ≤ r.c.length := Classical.byContradiction fun z => h1.dmin r.c.length hl (by omega) ⟨r.h.length, fun m hm => by
    unfold ent
    rw [if_neg (by omega), if_neg (by omega), show m + r.c.length - r.h.length = m - r.h.length + r.c.length by omega]
    exact cyc_add _ _⟩
  have e1 : (mkR (ent r) p d).h.length = p := by unfold mkR; simp
  have e2 : (mkR (ent r) p d).c.length = d := by unfold mkR; simp
  refine ⟨⟨fun z => ?_, by rw [e1]; have := h.hl; omega, by rw [e2]; have := h.cl; omega, fun x hx => ?_, fun x hx => ?_⟩, by rw [e1]; exact hp, by rw [e2]; exact hd⟩
  · rw [z] at e2; simp at e2; omega
  · obtain ⟨i, _, rfl⟩ := List.mem_map.mp hx
    exact he i
  · obtain ⟨i, _, rfl⟩ := List.mem_map.mp hx
    exact he _
theorem isleast_ex {r : Rw} (h : RwOk r) : ∃ a, IsLeast r a := by
  obtain ⟨d, hd⟩ := minper_ex h.c0
  obtain ⟨p, hp, h1, h2⟩ := least (P := fun p => p ≤ r.h.length ∧ ∀ m, p ≤ m → m < r.h.length → ent r m = ent r (m + d)) (n := r.h.length) ⟨Nat.le_refl _, fun m a b => by omega⟩
  refine ⟨_, isleast_law h.c0 hd hp h1.2 fun q hq e => h2 q (by omega) ⟨by omega, fun m a b => ?_⟩⟩
  by_cases z : m = q
  · rw [z]; exact e
  · exact h1.2 m (by omega) b
def aft (r : Rw) (k : Nat) : Rw := if k ≤ r.h.length then ⟨r.h.drop k, r.c⟩ else ⟨[], rot r.c ((k - r.h.length) % r.c.length)⟩
def led (es : List Int) (r : Rw) : Rw := ⟨es ++ r.h, r.c⟩
theorem rot_cyc {c : List Int} {d : Nat} (h : d ≤ c.length) (hc : c ≠ []) (i : Nat) : cyc (rot c d) i = cyc c (i + d) := by
  have hl : 0 < c.length := List.length_pos_iff.mpr hc
  have hlt : i % c.length < c.length := Nat.mod_lt _ hl
  rw [← cyc_mod, rot_len h]
  have := rot_at h hlt
  rw [self_at (by rw [rot_len h]; exact hlt)] at this
  rw [Option.some.inj this]
  unfold cyc
  rw [Nat.mod_add_mod]
theorem ent_aft {r : Rw} (hc : r.c ≠ []) (k i : Nat) : ent (aft r k) i = ent r (k + i) := by
  have hl : 0 < r.c.length := List.length_pos_iff.mpr hc
  unfold aft
  by_cases h : k ≤ r.h.length
  · rw [if_pos h]
    unfold ent
    simp only [List.length_drop]
    by_cases q : i < r.h.length - k
    · rw [if_pos q, if_pos (by omega), List.getD_eq_getElem?_getD, List.getD_eq_getElem?_getD, List.getElem?_drop]
    · rw [if_neg q, if_neg (by omega)]
      congr 1
      omega
  · rw [if_neg h]
    unfold ent
    simp only [List.length_nil]
    rw [if_neg (by omega), if_neg (by omega), rot_cyc (Nat.le_of_lt (Nat.mod_lt _ hl)) hc]
    have := Nat.div_add_mod (k - r.h.length) r.c.length
    refine (cyc_cong (k := (k - r.h.length) / r.c.length) (per_len _) ?_).symm
    rw [Nat.mul_comm] at this
    omega
theorem ent_led {es : List Int} {r : Rw} (i : Nat) : ent (led es r) i = if i < es.length then es.getD i 0 else ent r (i - es.length) := by
  unfold led ent
  simp only [List.length_append]
  by_cases h : i < es.length
  · rw [if_pos h, if_pos (by omega), List.getD_eq_getElem?_getD, List.getD_eq_getElem?_getD, List.getElem?_append_left h]
  · rw [if_neg h]
    by_cases q : i < es.length + r.h.length
    · rw [if_pos q, if_pos (by omega), List.getD_eq_getElem?_getD, List.getD_eq_getElem?_getD, List.getElem?_append_right (by omega)]
    · rw [if_neg q, if_neg (by omega)]
      congr 1
      omega
theorem RwOk.aft {r : Rw} (h : RwOk r) (k : Nat) : RwOk (aft r k) ∧ (aft r k).h.length ≤ r.h.length ∧ (aft r k).c.length = r.c.length := by
  have hl : 0 < r.c.length := List.length_pos_iff.mpr h.c0
  have h1 := h.hl
  have h2 := h.cl
  unfold LW.aft
  split
  · exact ⟨⟨h.c0, by simp only [List.length_drop]; omega, h.cl, fun x hx => h.hp x (List.mem_of_mem_drop hx), h.cp⟩, by simp only [List.length_drop]; omega, rfl⟩
  · have e := rot_len (c := r.c) (Nat.le_of_lt (Nat.mod_lt (k - r.h.length) hl))
    exact ⟨⟨fun z => by simp only at z; rw [z] at e; simp at e; omega, by simp, by rw [e]; exact h.cl, fun x hx => by simp at hx, fun x hx => by
      unfold rot at hx
      rcases List.mem_append.mp hx with q | q
      · exact h.cp x (List.mem_of_mem_drop q)
      · exact h.cp x (List.mem_of_mem_take q)⟩, by simp, e⟩
theorem RwOk.led {r : Rw} {es : List Int} (h : RwOk r) (he : ∀ x ∈ es, 0 ≤ x) (hl : es.length + r.h.length ≤ 1000) : RwOk (led es r) := ⟨h.c0, by unfold LW.led; simp only [List.length_append]; exact hl, h.cl, fun x hx => (List.mem_append.mp hx).elim (he x) (h.hp x), h.cp⟩
/-- all places told, from enough of them -/
theorem per_up {s : Nat → Int} {P d : Nat} (h : ∀ m, P ≤ m → s (m + d) = s m) : ∀ k m, P ≤ m → s (m + k * d) = s m
  | 0, m, _ => by rw [Nat.zero_mul, Nat.add_zero]
  | k + 1, m, hm => by rw [show m + (k + 1) * d = m + k * d + d by rw [Nat.add_mul]; omega, h _ (by omega), per_up h k m hm]
theorem per_down {s : Nat → Int} {P d : Nat} (h : ∀ m, P ≤ m → s (m + d) = s m) (j : Nat) : s (P + j) = s (P + j % d) := by
  rw [← per_up h (j / d) (P + j % d) (by omega)]
  congr 1
  have := Nat.div_add_mod j d
  rw [Nat.mul_comm] at this
  omega
theorem agree_all {s t : Nat → Int} {P d e : Nat} (d1 : 1 ≤ d) (e1 : 1 ≤ e) (hs : ∀ m, P ≤ m → s (m + d) = s m) (ht : ∀ m, P ≤ m → t (m + e) = t m) (h : (∀ i, i < P + d * e → s i = t i) ∨ ∀ i, i < P + d + e → s i = t i) (i : Nat) : s i = t i := by
  have key : ∀ D, 1 ≤ D → (∀ m, P ≤ m → s (m + D) = s m) → (∀ m, P ≤ m → t (m + D) = t m) → (∀ i, i < P + D → s i = t i) → s i = t i := fun D D1 hs ht h => by
    by_cases q : i < P
    · exact h i (by omega)
    · obtain ⟨j, rfl⟩ : ∃ j, i = P + j := ⟨i - P, by omega⟩
      rw [per_down hs, per_down ht]
      exact h _ (by have := Nat.mod_lt j D1; omega)
  rcases h with h | h
  · exact key (d * e) (Nat.mul_pos d1 e1) (fun m hm => by rw [Nat.mul_comm]; exact per_up hs e m hm) (fun m hm => per_up ht d m hm) h
  · refine key e e1 (fun m hm => ?_) ht fun i hi => h i (by omega)
    obtain ⟨j, rfl⟩ : ∃ j, m = P + j := ⟨m - P, by omega⟩
    have hj := Nat.mod_lt j d1
    have a : s (P + j + e) = s (P + j % d + e) := by
      have := per_up hs (j / d) (P + j % d + e) (by omega)
      rw [← this]
      congr 1
      have := Nat.div_add_mod j d
      rw [Nat.mul_comm] at this
      omega
    rw [a, per_down hs, h _ (by omega), ht _ (by omega), ← h _ (by omega)]
theorem take_ent {r : Rw} {p : Nat} (h : p ≤ r.h.length) : r.h.take p = (List.range p).map (ent r) := by
  apply List.ext_getElem?
  intro i
  by_cases q : i < p
  · rw [List.getElem?_take, if_pos q, List.getElem?_map, List.getElem?_range q, Option.map_some, List.getElem?_eq_getElem (by omega)]
    unfold ent
    rw [if_pos (by omega), List.getD_eq_getElem?_getD, List.getElem?_eq_getElem (by omega)]; rfl
  · rw [List.getElem?_eq_none (by rw [List.length_take]; omega), List.getElem?_eq_none (by rw [List.length_map, List.length_range]; omega)]
end LW
set_option Elab.async false
set_option linter.all false
set_option maxRecDepth 100000
set_option maxHeartbeats 4000000
namespace LW
open PySem PySem.Spec L2 DW PyProof.Rows
def topS (i : Nat) : Stmt := PySem.Challenge.pw_choosersrow_k38_endless_rows.main.body.getD i (.Pass ⟨0, 0, 0, 0⟩)
local macro_rules | `(tactic| walk_at "wp") => `(tactic| try simp only [w_isiO, u_par, u_iR3, u_makeSD, u_getXN, rngB_len, u_star, u_rev2L, u_callR, u_binXI, u_callX, u_getX, u_restF, u_binX, u_invX, w_neB, u_methXN, u_makeSN, u_tupR1, u_lc2, u_iZM, w_zipLT, w_zipTL, u_cntL, u_lstR1O, u_fld, w_fld, w_someE, u_setF, u_methX, w_objE, u_makeS, u_sortSet, u_lstR1, u_iZipL, u_iEnL, u_idx, u_popAt, u_cntT, u_idxT, u_callF, w_maxL, w_minL, w_ixDc, w_inDc, w_repL, w_listLs, w_tplT, w_tplP, u_isE, w_isE, u_kitER, u_kitET, u_excE, u_xf, w_xf1, u_slS, u_raise1, u_iEn, w_listStr, w_lenStr, w_catStr, w_ixStr, w_inStr, w_strE, w_strI, w_strS, u_rest, cut_to, cut_from1, Int.zero_add, u_revT, w_repT, u_tupG, u_try, u_gPlain, u_gThen, u_gNil, u_yield, u_gWhile, u_while, u_isX, u_kitR, u_kitT, u_excOk, w_zipE, u_goalX, u_lc, rngD_len, Int.toNat_natCast, u_for, u_iT, u_iL, u_iR1, u_iR2, u_iZ, u_iS, w_lstE, dwipe, u_asg, u_asgS, u_ret, u_retN, u_if, u_next, u_break, u_cont, u_drop, u_raise, u_aug, u_var, u_c, u_op, u_un, u_test, u_and, u_or, u_not, u_yes, u_andV, u_orV, u_notV, u_ifE, u_chain, u_nil, u_cons, u_tup, u_lst, u_own, u_cb, u_call, u_callS, u_name, u_etup, u_enil, u_econs, u_sub, u_app, u_slT, u_slL, u_noPart, u_part, u_revL, ex_some, w_I0, w_I, w_uI, w_int, w_bl, w_isi, w_someb, w_eqI, w_neI, w_eqS, w_neS, w_lenT, w_lenL, w_lenS, w_tupL, w_tupT, w_ixT, w_ixL, w_ixS, w_catT, w_catL, w_all, w_any, w_min2, w_divmod, w_listS, w_listL, w_listT, w_isN, w_notN, w_tupE, w_intE, w_consE, w_hdE, w_cellS, w_set, at0, at1, at2, at3, i_tT, i_tI, i_tB, i_tS, i_nT, i_nI, i_nB, i_nS, i_iT, i_iI, i_iB, i_iS, i_bT, i_bI, i_bB, i_bS, i_sT, i_sI, i_sB, i_sS, v_itemsS, w_eqB, isNone, dstart, List.map, List.length, List.replicate, List.cons_append, List.nil_append, List.append_nil, List.getElem?_cons_zero, List.getElem?_cons_succ, List.set_cons_zero, List.set_cons_succ, ix40, ix42, ix43, true_implies, false_implies, and_true, true_and, Bool.not_true, Bool.not_false, decide_eq_true_eq, decide_eq_false_iff_not, List.length_map, Nat.reduceAdd, reduceCtorEq, v_ixH, v_items, v_itemsT, v_itemsL, v_len, v_tuple, v_list, v_listOwn, sset_same, sset_sset, Option.some.injEq, Cell.lst.injEq, Cell.frz.injEq, false_and, exists_false, or_false, false_or, exists_eq_left', ne_eq, not_false_eq_true, isTup, Bool.true_eq_false, Bool.false_eq_true])
local macro_rules | `(tactic| walk_at "wps") => `(tactic| try simp only [u_seq, w_isiO, u_par, u_iR3, u_makeSD, u_getXN, rngB_len, u_star, u_rev2L, u_callR, u_binXI, u_callX, u_getX, u_restF, u_binX, u_invX, w_neB, u_methXN, u_makeSN, u_tupR1, u_lc2, u_iZM, w_zipLT, w_zipTL, u_cntL, u_lstR1O, u_fld, w_fld, w_someE, u_setF, u_methX, w_objE, u_makeS, u_sortSet, u_lstR1, u_iZipL, u_iEnL, u_idx, u_popAt, u_cntT, u_idxT, u_callF, w_maxL, w_minL, w_ixDc, w_inDc, w_repL, w_listLs, w_tplT, w_tplP, u_isE, w_isE, u_kitER, u_kitET, u_excE, u_xf, w_xf1, u_slS, u_raise1, u_iEn, w_listStr, w_lenStr, w_catStr, w_ixStr, w_inStr, w_strE, w_strI, w_strS, u_rest, cut_to, cut_from1, Int.zero_add, u_revT, w_repT, u_tupG, u_try, u_gPlain, u_gThen, u_gNil, u_yield, u_gWhile, u_while, u_isX, u_kitR, u_kitT, u_excOk, w_zipE, u_goalX, u_lc, rngD_len, Int.toNat_natCast, u_for, u_iT, u_iL, u_iR1, u_iR2, u_iZ, u_iS, w_lstE, dwipe, u_asg, u_asgS, u_ret, u_retN, u_if, u_next, u_break, u_cont, u_drop, u_raise, u_aug, u_var, u_c, u_op, u_un, u_test, u_and, u_or, u_not, u_yes, u_andV, u_orV, u_notV, u_ifE, u_chain, u_nil, u_cons, u_tup, u_lst, u_own, u_cb, u_call, u_callS, u_name, u_etup, u_enil, u_econs, u_sub, u_app, u_slT, u_slL, u_noPart, u_part, u_revL, ex_some, w_I0, w_I, w_uI, w_int, w_bl, w_isi, w_someb, w_eqI, w_neI, w_eqS, w_neS, w_lenT, w_lenL, w_lenS, w_tupL, w_tupT, w_ixT, w_ixL, w_ixS, w_catT, w_catL, w_all, w_any, w_min2, w_divmod, w_listS, w_listL, w_listT, w_isN, w_notN, w_tupE, w_intE, w_consE, w_hdE, w_cellS, w_set, at0, at1, at2, at3, i_tT, i_tI, i_tB, i_tS, i_nT, i_nI, i_nB, i_nS, i_iT, i_iI, i_iB, i_iS, i_bT, i_bI, i_bB, i_bS, i_sT, i_sI, i_sB, i_sS, v_itemsS, w_eqB, isNone, dstart, List.map, List.length, List.replicate, List.cons_append, List.nil_append, List.append_nil, List.getElem?_cons_zero, List.getElem?_cons_succ, List.set_cons_zero, List.set_cons_succ, ix40, ix42, ix43, true_implies, false_implies, and_true, true_and, Bool.not_true, Bool.not_false, decide_eq_true_eq, decide_eq_false_iff_not, List.length_map, Nat.reduceAdd, reduceCtorEq, v_ixH, v_items, v_itemsT, v_itemsL, v_len, v_tuple, v_list, v_listOwn, sset_same, sset_sset, Option.some.injEq, Cell.lst.injEq, Cell.frz.injEq, false_and, exists_false, or_false, false_or, exists_eq_left', ne_eq, not_false_eq_true, isTup, Bool.true_eq_false, Bool.false_eq_true])
abbrev s_shortest_cycle : Stmt := topS 7
abbrev N_shortest_cycle : List Str := ["cycle", "length"]
theorem sc_shortest_cycle : FnScope N_shortest_cycle ["cycle"] (defScope s_shortest_cycle) := ⟨rfl, rfl, rfl, by decide +kernel, rfl, by decide +kernel, by decide +kernel⟩
abbrev s_turned_cycle : Stmt := topS 8
abbrev N_turned_cycle : List Str := ["cycle", "count", "start"]
theorem sc_turned_cycle : FnScope N_turned_cycle ["cycle", "count"] (defScope s_turned_cycle) := ⟨rfl, rfl, rfl, by decide +kernel, rfl, by decide +kernel, by decide +kernel⟩
abbrev s_count_spare : Stmt := topS 9
abbrev N_count_spare : List Str := ["head", "cycle", "spare"]
theorem sc_count_spare : FnScope N_count_spare ["head", "cycle"] (defScope s_count_spare) := ⟨rfl, rfl, rfl, by decide +kernel, rfl, by decide +kernel, by decide +kernel⟩
abbrev s_Row___init__ : Stmt := clsS (topS 10) 0
abbrev N_Row___init__ : List Str := ["self", "head", "cycle", "entry"]
theorem sc_Row___init__ : FnScope N_Row___init__ ["self", "head", "cycle"] (defScope s_Row___init__) := ⟨rfl, rfl, rfl, by decide +kernel, rfl, by decide +kernel, by decide +kernel⟩
abbrev s_Row___getitem__ : Stmt := clsS (topS 10) 1
abbrev N_Row___getitem__ : List Str := ["self", "at"]
theorem sc_Row___getitem__ : FnScope N_Row___getitem__ ["self", "at"] (defScope s_Row___getitem__) := ⟨rfl, rfl, rfl, by decide +kernel, rfl, by decide +kernel, by decide +kernel⟩
abbrev s_Row_start : Stmt := clsS (topS 10) 3
abbrev N_Row_start : List Str := ["self", "length", "place"]
theorem sc_Row_start : FnScope N_Row_start ["self", "length"] (defScope s_Row_start) := ⟨rfl, rfl, rfl, by decide +kernel, rfl, by decide +kernel, by decide +kernel⟩
abbrev s_Row_least : Stmt := clsS (topS 10) 4
abbrev N_Row_least : List Str := ["self", "cycle", "spare"]
theorem sc_Row_least : FnScope N_Row_least ["self"] (defScope s_Row_least) := ⟨rfl, rfl, rfl, by decide +kernel, rfl, by decide +kernel, by decide +kernel⟩
abbrev s_Row_after : Stmt := clsS (topS 10) 5
abbrev N_Row_after : List Str := ["self", "count", "passed"]
theorem sc_Row_after : FnScope N_Row_after ["self", "count"] (defScope s_Row_after) := ⟨rfl, rfl, rfl, by decide +kernel, rfl, by decide +kernel, by decide +kernel⟩
abbrev s_Row_lead : Stmt := clsS (topS 10) 6
abbrev N_Row_lead : List Str := ["self", "entries"]
theorem sc_Row_lead : FnScope N_Row_lead ["self", "entries"] (defScope s_Row_lead) := ⟨rfl, rfl, rfl, by decide +kernel, rfl, by decide +kernel, by decide +kernel⟩
abbrev s_same_rows : Stmt := topS 11
abbrev N_same_rows : List Str := ["first", "second", "one", "other"]
theorem sc_same_rows : FnScope N_same_rows ["first", "second"] (defScope s_same_rows) := ⟨rfl, rfl, rfl, by decide +kernel, rfl, by decide +kernel, by decide +kernel⟩
abbrev s__law_start : Stmt := topS 13
abbrev N__law_start : List Str := ["_law_script", "_law_seed", "_law_k"]
theorem sc__law_start : FnScope N__law_start ["_law_script"] (defScope s__law_start) := ⟨rfl, rfl, rfl, by decide +kernel, rfl, by decide +kernel, by decide +kernel⟩
abbrev s__law_pick : Stmt := topS 14
abbrev N__law_pick : List Str := ["_law_state", "_law_limit", "_law_cell", "_law_mixed", "_law_rest"]
theorem sc__law_pick : FnScope N__law_pick ["_law_state", "_law_limit"] (defScope s__law_pick) := ⟨rfl, rfl, rfl, by decide +kernel, rfl, by decide +kernel, by decide +kernel⟩
abbrev s__law_same : Stmt := topS 15
abbrev N__law_same : List Str := ["_law_actual", "_law_due", "_law_p"]
theorem sc__law_same : FnScope N__law_same ["_law_actual", "_law_due"] (defScope s__law_same) := ⟨rfl, rfl, rfl, by decide +kernel, rfl, by decide +kernel, by decide +kernel⟩
abbrev s__law_entry : Stmt := topS 16
abbrev N__law_entry : List Str := ["_law_said_here", "_law_place", "_law_head", "_law_cycle"]
theorem sc__law_entry : FnScope N__law_entry ["_law_said_here", "_law_place"] (defScope s__law_entry) := ⟨rfl, rfl, rfl, by decide +kernel, rfl, by decide +kernel, by decide +kernel⟩
abbrev s__law_least : Stmt := topS 17
abbrev N__law_least : List Str := ["_law_said_here", "_law_cycle", "_law_size", "_law_d", "_law_head", "_law_p"]
theorem sc__law_least : FnScope N__law_least ["_law_said_here"] (defScope s__law_least) := ⟨rfl, rfl, rfl, by decide +kernel, rfl, by decide +kernel, by decide +kernel⟩
abbrev s__law_after : Stmt := topS 18
abbrev N__law_after : List Str := ["_law_said_here", "_law_count", "_law_head", "_law_cycle", "_law_turn"]
theorem sc__law_after : FnScope N__law_after ["_law_said_here", "_law_count"] (defScope s__law_after) := ⟨rfl, rfl, rfl, by decide +kernel, rfl, by decide +kernel, by decide +kernel⟩
abbrev s__law_is : Stmt := topS 19
abbrev N__law_is : List Str := ["_law_actual", "_law_said_here"]
theorem sc__law_is : FnScope N__law_is ["_law_actual", "_law_said_here"] (defScope s__law_is) := ⟨rfl, rfl, rfl, by decide +kernel, rfl, by decide +kernel, by decide +kernel⟩
abbrev s__law_lot : Stmt := topS 20
abbrev N__law_lot : List Str := ["_law_state", "_law_size", "_law_top", "_law_k"]
theorem sc__law_lot : FnScope N__law_lot ["_law_state", "_law_size", "_law_top"] (defScope s__law_lot) := ⟨rfl, rfl, rfl, by decide +kernel, rfl, by decide +kernel, by decide +kernel⟩
abbrev s__law_drawn : Stmt := topS 21
abbrev N__law_drawn : List Str := ["_law_state", "_law_top", "_law_head"]
theorem sc__law_drawn : FnScope N__law_drawn ["_law_state", "_law_top"] (defScope s__law_drawn) := ⟨rfl, rfl, rfl, by decide +kernel, rfl, by decide +kernel, by decide +kernel⟩
abbrev s__law_said : Stmt := topS 22
abbrev N__law_said : List Str := ["_law_state", "_law_base", "_law_cycle", "_law_extra", "_law_turn", "_law_longer", "_law_p"]
theorem sc__law_said : FnScope N__law_said ["_law_state", "_law_base"] (defScope s__law_said) := ⟨rfl, rfl, rfl, by decide +kernel, rfl, by decide +kernel, by decide +kernel⟩
abbrev s__law_large : Stmt := topS 23
abbrev N__law_large : List Str := ["_law_state", "_law_base", "_law_top", "_law_cycle", "_law_filled", "_law_turn"]
theorem sc__law_large : FnScope N__law_large ["_law_state", "_law_base", "_law_top"] (defScope s__law_large) := ⟨rfl, rfl, rfl, by decide +kernel, rfl, by decide +kernel, by decide +kernel⟩
abbrev s__law_missed : Stmt := topS 24
abbrev N__law_missed : List Str := ["_law_state", "_law_said_here", "_law_many", "_law_at", "_law_entries"]
theorem sc__law_missed : FnScope N__law_missed ["_law_state", "_law_said_here"] (defScope s__law_missed) := ⟨rfl, rfl, rfl, by decide +kernel, rfl, by decide +kernel, by decide +kernel⟩
abbrev s__law_alike : Stmt := topS 25
abbrev N__law_alike : List Str := ["_law_first", "_law_second", "_law_one", "_law_other", "_law_places", "_law_p"]
theorem sc__law_alike : FnScope N__law_alike ["_law_first", "_law_second"] (defScope s__law_alike) := ⟨rfl, rfl, rfl, by decide +kernel, rfl, by decide +kernel, by decide +kernel⟩
abbrev s__law_far : Stmt := topS 26
abbrev N__law_far : List Str := ["_law_state", "_law_unit"]
theorem sc__law_far : FnScope N__law_far ["_law_state"] (defScope s__law_far) := ⟨rfl, rfl, rfl, by decide +kernel, rfl, by decide +kernel, by decide +kernel⟩
abbrev s__law_tells : Stmt := topS 27
abbrev N__law_tells : List Str := ["_law_state", "_law_row", "_law_said_here", "_law_top", "_law_near", "_law_place", "_law_length", "_law_count", "_law_rest", "_law_entries", "_law_moved", "_law_p"]
theorem sc__law_tells : FnScope N__law_tells ["_law_state", "_law_row", "_law_said_here", "_law_top"] (defScope s__law_tells) := ⟨rfl, rfl, rfl, by decide +kernel, rfl, by decide +kernel, by decide +kernel⟩
abbrev s__law_ask : Stmt := topS 28
abbrev N__law_ask : List Str := ["_law_how", "_law_row", "_law_head", "_law_cycle", "_law_number"]
theorem sc__law_ask : FnScope N__law_ask ["_law_how", "_law_row", "_law_head", "_law_cycle", "_law_number"] (defScope s__law_ask) := ⟨rfl, rfl, rfl, by decide +kernel, rfl, by decide +kernel, by decide +kernel⟩
abbrev s__law_refused : Stmt := topS 29
abbrev N__law_refused : List Str := ["_law_how", "_law_row", "_law_head", "_law_cycle", "_law_number", "e"]
theorem sc__law_refused : FnScope N__law_refused ["_law_how", "_law_row", "_law_head", "_law_cycle", "_law_number"] (defScope s__law_refused) := ⟨rfl, rfl, rfl, by decide +kernel, rfl, by decide +kernel, by decide +kernel⟩
abbrev s__law_spoilt : Stmt := topS 30
abbrev N__law_spoilt : List Str := ["_law_entries", "_law_at", "_law_number"]
theorem sc__law_spoilt : FnScope N__law_spoilt ["_law_entries", "_law_at", "_law_number"] (defScope s__law_spoilt) := ⟨rfl, rfl, rfl, by decide +kernel, rfl, by decide +kernel, by decide +kernel⟩
abbrev s__law_refuses : Stmt := topS 31
abbrev N__law_refuses : List Str := ["_law_state", "_law_row", "_law_said_here", "_law_head", "_law_cycle", "_law_bad", "_law_how", "_law_short", "_law_wrong"]
theorem sc__law_refuses : FnScope N__law_refuses ["_law_state", "_law_row", "_law_said_here"] (defScope s__law_refuses) := ⟨rfl, rfl, rfl, by decide +kernel, rfl, by decide +kernel, by decide +kernel⟩
abbrev s_law : Stmt := topS 32
abbrev N_law : List Str := ["_law_script", "_law_state", "_law_top", "_law_base", "_law_said_here", "_law_row", "_law_plain", "_law_again", "_law_other", "_law_second", "_law_alike_here"]
theorem sc_law : FnScope N_law ["_law_script"] (defScope s_law) := ⟨rfl, rfl, rfl, by decide +kernel, rfl, by decide +kernel, by decide +kernel⟩
set_option genInjectivity false in
structure Txt (P : Program) (w : World) (K : Fg) (mg : Str → Option Value) where
  f_shortest_cycle : Addr
  d_shortest_cycle : FuncData
  F_shortest_cycle : Fun K "shortest_cycle" "shortest_cycle" s_shortest_cycle f_shortest_cycle d_shortest_cycle
  g_shortest_cycle : mg "shortest_cycle" = some (.ref f_shortest_cycle)
  b_shortest_cycle : Binds K d_shortest_cycle ["cycle"] []
  f_turned_cycle : Addr
  d_turned_cycle : FuncData
  F_turned_cycle : Fun K "turned_cycle" "turned_cycle" s_turned_cycle f_turned_cycle d_turned_cycle
  g_turned_cycle : mg "turned_cycle" = some (.ref f_turned_cycle)
  b_turned_cycle : Binds K d_turned_cycle ["cycle", "count"] []
  f_count_spare : Addr
  d_count_spare : FuncData
  F_count_spare : Fun K "count_spare" "count_spare" s_count_spare f_count_spare d_count_spare
  g_count_spare : mg "count_spare" = some (.ref f_count_spare)
  b_count_spare : Binds K d_count_spare ["head", "cycle"] []
  a_Row___init__ : Addr
  q_Row___init__ : SqTw K a_Row___init__ (([0] : List Int).map V.int)
  f_Row___init__ : Addr
  d_Row___init__ : FuncData
  F_Row___init__ : FunD K "__init__" "Row.__init__" (defArgs s_Row___init__) (defBody s_Row___init__) (defScope s_Row___init__) [V.ref a_Row___init__] [] f_Row___init__ d_Row___init__
  b_Row___init__ : Binds K d_Row___init__ ["self", "head", "cycle"] []
  bd_Row___init__ : ∃ us, Vals [V.ref a_Row___init__] us ∧ Binds K d_Row___init__ ["self", "head", "cycle"] us
  f_Row___getitem__ : Addr
  d_Row___getitem__ : FuncData
  F_Row___getitem__ : Fun K "__getitem__" "Row.__getitem__" s_Row___getitem__ f_Row___getitem__ d_Row___getitem__
  b_Row___getitem__ : Binds K d_Row___getitem__ ["self", "at"] []
  f_Row_start : Addr
  d_Row_start : FuncData
  F_Row_start : Fun K "start" "Row.start" s_Row_start f_Row_start d_Row_start
  b_Row_start : Binds K d_Row_start ["self", "length"] []
  f_Row_least : Addr
  d_Row_least : FuncData
  F_Row_least : Fun K "least" "Row.least" s_Row_least f_Row_least d_Row_least
  b_Row_least : Binds K d_Row_least ["self"] []
  f_Row_after : Addr
  d_Row_after : FuncData
  F_Row_after : Fun K "after" "Row.after" s_Row_after f_Row_after d_Row_after
  b_Row_after : Binds K d_Row_after ["self", "count"] []
  f_Row_lead : Addr
  d_Row_lead : FuncData
  F_Row_lead : Fun K "lead" "Row.lead" s_Row_lead f_Row_lead d_Row_lead
  b_Row_lead : Binds K d_Row_lead ["self", "entries"] []
  f_same_rows : Addr
  d_same_rows : FuncData
  F_same_rows : Fun K "same_rows" "same_rows" s_same_rows f_same_rows d_same_rows
  g_same_rows : mg "same_rows" = some (.ref f_same_rows)
  b_same_rows : Binds K d_same_rows ["first", "second"] []
  f__law_start : Addr
  d__law_start : FuncData
  F__law_start : Fun K "_law_start" "_law_start" s__law_start f__law_start d__law_start
  g__law_start : mg "_law_start" = some (.ref f__law_start)
  b__law_start : Binds K d__law_start ["_law_script"] []
  f__law_pick : Addr
  d__law_pick : FuncData
  F__law_pick : Fun K "_law_pick" "_law_pick" s__law_pick f__law_pick d__law_pick
  g__law_pick : mg "_law_pick" = some (.ref f__law_pick)
  b__law_pick : Binds K d__law_pick ["_law_state", "_law_limit"] []
  f__law_same : Addr
  d__law_same : FuncData
  F__law_same : Fun K "_law_same" "_law_same" s__law_same f__law_same d__law_same
  g__law_same : mg "_law_same" = some (.ref f__law_same)
  b__law_same : Binds K d__law_same ["_law_actual", "_law_due"] []
  f__law_entry : Addr
  d__law_entry : FuncData
  F__law_entry : Fun K "_law_entry" "_law_entry" s__law_entry f__law_entry d__law_entry
  g__law_entry : mg "_law_entry" = some (.ref f__law_entry)
  b__law_entry : Binds K d__law_entry ["_law_said_here", "_law_place"] []
  f__law_least : Addr
  d__law_least : FuncData
  F__law_least : Fun K "_law_least" "_law_least" s__law_least f__law_least d__law_least
  g__law_least : mg "_law_least" = some (.ref f__law_least)
  b__law_least : Binds K d__law_least ["_law_said_here"] []
  f__law_after : Addr
  d__law_after : FuncData
  F__law_after : Fun K "_law_after" "_law_after" s__law_after f__law_after d__law_after
  g__law_after : mg "_law_after" = some (.ref f__law_after)
  b__law_after : Binds K d__law_after ["_law_said_here", "_law_count"] []
  f__law_is : Addr
  d__law_is : FuncData
  F__law_is : Fun K "_law_is" "_law_is" s__law_is f__law_is d__law_is
  g__law_is : mg "_law_is" = some (.ref f__law_is)
  b__law_is : Binds K d__law_is ["_law_actual", "_law_said_here"] []
  f__law_lot : Addr
  d__law_lot : FuncData
  F__law_lot : Fun K "_law_lot" "_law_lot" s__law_lot f__law_lot d__law_lot
  g__law_lot : mg "_law_lot" = some (.ref f__law_lot)
  b__law_lot : Binds K d__law_lot ["_law_state", "_law_size", "_law_top"] []
  f__law_drawn : Addr
  d__law_drawn : FuncData
  F__law_drawn : Fun K "_law_drawn" "_law_drawn" s__law_drawn f__law_drawn d__law_drawn
  g__law_drawn : mg "_law_drawn" = some (.ref f__law_drawn)
  b__law_drawn : Binds K d__law_drawn ["_law_state", "_law_top"] []
  f__law_said : Addr
  d__law_said : FuncData
  F__law_said : Fun K "_law_said" "_law_said" s__law_said f__law_said d__law_said
  g__law_said : mg "_law_said" = some (.ref f__law_said)
  b__law_said : Binds K d__law_said ["_law_state", "_law_base"] []
  f__law_large : Addr
  d__law_large : FuncData
  F__law_large : Fun K "_law_large" "_law_large" s__law_large f__law_large d__law_large
  g__law_large : mg "_law_large" = some (.ref f__law_large)
  b__law_large : Binds K d__law_large ["_law_state", "_law_base", "_law_top"] []
  f__law_missed : Addr
  d__law_missed : FuncData
  F__law_missed : Fun K "_law_missed" "_law_missed" s__law_missed f__law_missed d__law_missed
  g__law_missed : mg "_law_missed" = some (.ref f__law_missed)
  b__law_missed : Binds K d__law_missed ["_law_state", "_law_said_here"] []
  f__law_alike : Addr
  d__law_alike : FuncData
  F__law_alike : Fun K "_law_alike" "_law_alike" s__law_alike f__law_alike d__law_alike
  g__law_alike : mg "_law_alike" = some (.ref f__law_alike)
  b__law_alike : Binds K d__law_alike ["_law_first", "_law_second"] []
  f__law_far : Addr
  d__law_far : FuncData
  F__law_far : Fun K "_law_far" "_law_far" s__law_far f__law_far d__law_far
  g__law_far : mg "_law_far" = some (.ref f__law_far)
  b__law_far : Binds K d__law_far ["_law_state"] []
  f__law_tells : Addr
  d__law_tells : FuncData
  F__law_tells : Fun K "_law_tells" "_law_tells" s__law_tells f__law_tells d__law_tells
  g__law_tells : mg "_law_tells" = some (.ref f__law_tells)
  b__law_tells : Binds K d__law_tells ["_law_state", "_law_row", "_law_said_here", "_law_top"] []
  f__law_ask : Addr
  d__law_ask : FuncData
  F__law_ask : Fun K "_law_ask" "_law_ask" s__law_ask f__law_ask d__law_ask
  g__law_ask : mg "_law_ask" = some (.ref f__law_ask)
  b__law_ask : Binds K d__law_ask ["_law_how", "_law_row", "_law_head", "_law_cycle", "_law_number"] []
  f__law_refused : Addr
  d__law_refused : FuncData
  F__law_refused : Fun K "_law_refused" "_law_refused" s__law_refused f__law_refused d__law_refused
  g__law_refused : mg "_law_refused" = some (.ref f__law_refused)
  b__law_refused : Binds K d__law_refused ["_law_how", "_law_row", "_law_head", "_law_cycle", "_law_number"] []
  f__law_spoilt : Addr
  d__law_spoilt : FuncData
  F__law_spoilt : Fun K "_law_spoilt" "_law_spoilt" s__law_spoilt f__law_spoilt d__law_spoilt
  g__law_spoilt : mg "_law_spoilt" = some (.ref f__law_spoilt)
  b__law_spoilt : Binds K d__law_spoilt ["_law_entries", "_law_at", "_law_number"] []
  f__law_refuses : Addr
  d__law_refuses : FuncData
  F__law_refuses : Fun K "_law_refuses" "_law_refuses" s__law_refuses f__law_refuses d__law_refuses
  g__law_refuses : mg "_law_refuses" = some (.ref f__law_refuses)
  b__law_refuses : Binds K d__law_refuses ["_law_state", "_law_row", "_law_said_here"] []
  f_law : Addr
  d_law : FuncData
  F_law : Fun K "law" "law" s_law f_law d_law
  g_law : mg "law" = some (.ref f_law)
  b_law : Binds K d_law ["_law_script"] []
  z_len : mg "len" = none
  z_range : mg "range" = none
  z_list : mg "list" = none
  z_int : mg "int" = none
  z_isinstance : mg "isinstance" = none
  z_tuple : mg "tuple" = none
  z_str : mg "str" = none
  z_bool : mg "bool" = none
  z_all : mg "all" = none
  z_max : mg "max" = none
  z_min : mg "min" = none
  z_ValueError : mg "ValueError" = none
  c_OutOfRange : Addr
  g_OutOfRange : mg "OutOfRange" = some (.ref c_OutOfRange)
  c_SizeMismatch : Addr
  g_SizeMismatch : mg "SizeMismatch" = some (.ref c_SizeMismatch)
  c_InvalidTerm : Addr
  g_InvalidTerm : mg "InvalidTerm" = some (.ref c_InvalidTerm)
  c_TooLarge : Addr
  g_TooLarge : mg "TooLarge" = some (.ref c_TooLarge)
  c_ChoosersError : Addr
  g_ChoosersError : mg "ChoosersError" = some (.ref c_ChoosersError)
  x_OutOfRange : PySem.W.excIn K c_OutOfRange [.type "ValueError", .type "Exception", .type "BaseException", .type "object"] "ValueError.__new__" = true
  k_OutOfRange : PySem.W.keepIn K (.ref c_OutOfRange) = true
  e_OutOfRange : PySem.W.subIn K (.ref c_OutOfRange) (.type "BaseException") = some true
  t_OutOfRange : PySem.W.typeIn K (.ref c_OutOfRange) = some (.type "type")
  ec_OutOfRange : L2.ExcC K c_OutOfRange
  i_OutOfRange_SizeMismatch : PySem.W.kitOne K (.ref c_OutOfRange) (.ref c_SizeMismatch) = some false
  i_OutOfRange_InvalidTerm : PySem.W.kitOne K (.ref c_OutOfRange) (.ref c_InvalidTerm) = some false
  i_OutOfRange_TooLarge : PySem.W.kitOne K (.ref c_OutOfRange) (.ref c_TooLarge) = some false
  i_OutOfRange_OutOfRange : PySem.W.kitOne K (.ref c_OutOfRange) (.ref c_OutOfRange) = some true
  i_OutOfRange_ValueError : PySem.W.kitOne K (.ref c_OutOfRange) (.type "ValueError") = some true
  m_OutOfRange_ChoosersError : PySem.W.exmOne K (.ref c_OutOfRange) (.ref c_ChoosersError) = some true
  c_Row : Addr
  g_Row : mg "Row" = some (.ref c_Row)
  mk_Row : Mk K c_Row f_Row___init__
  cls_Row : Cls K c_Row
  ki_Row : IsO K c_Row
  fn_Row___getitem__ : PySem.W.fnIn K f_Row___getitem__ = true
  na_Row_head : NoAttr K c_Row "head"
  na_Row_cycle : NoAttr K c_Row "cycle"
  me_Row___getitem__ : Meth K c_Row "__getitem__" f_Row___getitem__
  me_Row_start : Meth K c_Row "start" f_Row_start
  me_Row_least : Meth K c_Row "least" f_Row_least
  me_Row_after : Meth K c_Row "after" f_Row_after
  me_Row_lead : Meth K c_Row "lead" f_Row_lead
section
variable {P : Program} {w : World} {K : Fg} {mg : Str → Option Value} {base : Heap}
def c_shortest_cycle : Con := fun ds μ Φ _ => ∃ (c : List Int) (d : Nat), ds = [.tup (c.map .int)] ∧ c ≠ [] ∧ c.length ≤ 1000 ∧ MinPer c d ∧ Φ (.tup ((c.take d).map .int)) μ
theorem len_shortest_cycle {ds μ Φ Ψ} (h : c_shortest_cycle ds μ Φ Ψ) : ds.length = 1 := by obtain ⟨_, _, rfl, _⟩ := h; rfl
theorem ok_shortest_cycle (T : Txt P w K mg) : FnOk P w K mg base (L2N.CX P w) 1 T.f_shortest_cycle T.d_shortest_cycle ["cycle"] (spOf K c_shortest_cycle) := by
  refine def_okC T.F_shortest_cycle sc_shortest_cycle _ (fun ds μ Φ Ψ h => len_shortest_cycle h) (fun cdv A outer s H E B hW hr =>
    have tk : L2N.Takes (cxOf (L2N.CX P w) P w K mg base N_shortest_cycle "shortest_cycle" (defScope s_shortest_cycle) T.f_shortest_cycle cdv A outer s H E) (fun cls d _ H => E cls d H) := L2N.takes_of rfl rfl rfl rfl
    ⟨_, (pss_cons (ps_set (i := 1) sc_shortest_cycle.nd rfl (Or.inl rfl) pe_int)
      (pss_cons (ps_while (passes_of rfl) (pt_cmpR (op_neD hr.units) (pe_op op_repA (pe_slice sl_tupN (pv 0) po_none (po_some (pv 1))) (pe_op op_fdivW (pe_callB call_len_seq (by rfl) T.z_len PySem.boot_len (pa_cons (pv 0) pa_nil)) (pv 1))) (pv 0) (nomark _)) (pss_one (ps_aug (i := 1) sc_shortest_cycle.nd rfl (Or.inl rfl) pe_int ip_add)))
      (pss_one (ps_ret (pe_slice sl_tupN (pv 0) po_none (po_some (pv 1))))))),
      (sSeq (sAsg sInt sName)
      (sSeq (sWhile (sTest (sOp roNeD (sOp roRepT (sSlT sVar sNoPart (sPart sVar)) (sOp roInt (sCB rcLen (sCons sVar sNil)) sVar)) sVar)) (sAug roIp sInt))
      (sRet (sSlT sVar sNoPart (sPart sVar)))))⟩) (fun ds μ Φ Ψ h => ?hv)
  case hv =>
    obtain ⟨c, d, rfl, hc, hl, hd, h⟩ := h
    refine seq_cut fun M hM => ?_
    walk_at "wp"
    rw [hM]; clear hM M
    refine seq_cut fun M hM => ?_
    walk_at "wp"
    have d1 := hd.d1
    have dn := hd.le hc
    refine ⟨fun m δ' μ' => ∃ L : Nat, μ' = μ ∧ 1 ≤ L ∧ L ≤ d ∧ m = d - L ∧ δ' = [some (.tup (c.map .int)), some (.int L)], ⟨_, 1, rfl, Nat.le_refl _, d1, rfl, rfl⟩, ?_⟩
    rintro m δ' μ' ⟨L, rfl, L1, Ld, rfl, rfl⟩
    walk_at "wp"
    have eq : ((c.length : Int) / (L : Int)) = ((c.length / L : Nat) : Int) := rfl
    have hq : c.length / L ≤ 1000 := Nat.le_trans (Nat.div_le_self _ _) hl
    have hq2 : (((c.length / L : Nat) : Int)) ≤ 1000 := Int.ofNat_le.mpr hq
    have hq3 : (-1000000 : Int) ≤ ((c.length / L : Nat) : Int) := Int.le_trans (by decide) (Int.natCast_nonneg _)
    refine ⟨wide_div (b := 11) (by omega) (by rw [Int.natAbs_natCast]; exact Nat.lt_of_le_of_lt (show L ≤ 1000 by omega) (by decide)) (by decide) (by decide), by rw [eq]; exact hq2, by rw [eq]; exact hq3, by rw [List.length_take]; omega, ?_⟩
    rw [eq, Int.toNat_natCast, show (List.replicate (c.length / L) ((c.map D.int).take L)).flatten = ((List.replicate (c.length / L) (c.take L)).flatten).map D.int by rw [List.map_flatten, List.map_replicate, List.map_take]]
    refine ⟨side_ints _, side_ints _, _, rfl, fun q => ?_, fun q => ?_⟩
    · rw [eqD_ints, Bool.not_eq_true', decide_eq_false_iff_not, rep_per L1 (by omega)] at q
      have hne : L ≠ d := fun e => q ⟨by rw [e]; exact hd.dvd (per_len c), by rw [e]; exact hd.per⟩
      exact ⟨_, by omega, L + 1, rfl, by omega, by omega, rfl, rfl⟩
    · rw [eqD_ints, Bool.not_eq_false', decide_eq_true_eq, rep_per L1 (by omega)] at q
      have hLd : L = d := Classical.byContradiction fun z => hd.min L L1 (by omega) q.2
      subst hLd
      rw [hM]; clear hM M
      walk_at "wps"
      rw [← List.map_take]
      exact ret_same h
def c_turned_cycle : Con := fun ds μ Φ _ => ∃ (c : List Int) (k : Int), ds = [.tup (c.map .int), .int k] ∧ c ≠ [] ∧ c.length ≤ 1000 ∧ Φ (.tup ((rot c (k % (c.length : Int)).toNat).map .int)) μ
theorem len_turned_cycle {ds μ Φ Ψ} (h : c_turned_cycle ds μ Φ Ψ) : ds.length = 2 := by obtain ⟨_, _, rfl, _⟩ := h; rfl
theorem ok_turned_cycle (T : Txt P w K mg) : FnOk P w K mg base (L2N.CX P w) 1 T.f_turned_cycle T.d_turned_cycle ["cycle", "count"] (spOf K c_turned_cycle) := by
  refine def_okC T.F_turned_cycle sc_turned_cycle _ (fun ds μ Φ Ψ h => len_turned_cycle h) (fun cdv A outer s H E B hW hr =>
    have tk : L2N.Takes (cxOf (L2N.CX P w) P w K mg base N_turned_cycle "turned_cycle" (defScope s_turned_cycle) T.f_turned_cycle cdv A outer s H E) (fun cls d _ H => E cls d H) := L2N.takes_of rfl rfl rfl rfl
    ⟨_, (pss_cons (ps_set (i := 2) sc_turned_cycle.nd rfl (Or.inl rfl) (pe_op op_mod (pv 1) (pe_callB call_len_seq (by rfl) T.z_len PySem.boot_len (pa_cons (pv 0) pa_nil))))
      (pss_one (ps_ret (pe_op op_catN (pe_slice sl_tupN (pv 0) (po_some (pv 2)) po_none) (pe_slice sl_tupN (pv 0) po_none (po_some (pv 2))))))),
      (sSeq (sAsg (sOp roInt sVar (sCB rcLen (sCons sVar sNil))) sName)
      (sRet (sOp roCatT (sSlT sVar (sPart sVar) sNoPart) (sSlT sVar sNoPart (sPart sVar)))))⟩) (fun ds μ Φ Ψ h => ?hv)
  case hv =>
    obtain ⟨c, k, rfl, hc, hl, h⟩ := h
    refine seq_cut fun M hM => ?_
    walk_at "wp"
    have hn : 0 < c.length := List.length_pos_iff.mpr hc
    have h0 := Int.emod_nonneg k (show (c.length : Int) ≠ 0 by omega)
    have h1 := Int.emod_lt_of_pos k (show (0 : Int) < c.length by omega)
    refine ⟨by omega, ?_⟩
    obtain ⟨s, hs⟩ : ∃ s : Nat, k % (c.length : Int) = (s : Int) := ⟨_, (Int.toNat_of_nonneg h0).symm⟩
    rw [hs, Int.toNat_natCast] at h
    rw [hs]
    rw [hM]; clear hM M
    walk_at "wps"
    have ec : DW.cutD (c.map D.int) (some (s : Int)) none ++ (c.map D.int).take s = (rot c s).map D.int := by
      unfold rot
      rw [cut_from, List.map_append, List.map_drop, List.map_take]
    have hrl : (DW.cutD (c.map D.int) (some (s : Int)) none).length + ((c.map D.int).take s).length ≤ 100000 := by
      rw [cut_from, List.length_drop, List.length_take, List.length_map]; omega
    refine ⟨hrl, ?_⟩
    rw [ec]
    exact ret_same h
theorem at_neg {l : List Int} {s : Nat} (h : s < l.length) : atI (l.map D.int) (-1 - (s : Int)) = some (.int (l.getD (l.length - 1 - s) 0)) := by
  have e : ixN l.length (-1 - (s : Int)) = some (l.length - 1 - s) := by
    unfold ixN
    rw [if_neg (by omega), if_pos (by omega)]
    congr 1
    omega
  unfold atI
  rw [List.length_map, e, Option.bind_some, List.getElem?_map, List.getElem?_eq_getElem (by omega), List.getD_eq_getElem?_getD, List.getElem?_eq_getElem (by omega)]
  rfl
def c_count_spare : Con := fun ds μ Φ _ => ∃ (h c : List Int) (d sp : Nat), ds = [.tup (h.map .int), .tup ((c.take d).map .int)] ∧ c ≠ [] ∧ c.length ≤ 1000 ∧ h.length ≤ 1000 ∧ MinPer c d ∧ ∀ sp, Spare h c d sp → Φ (.int sp) μ
theorem len_count_spare {ds μ Φ Ψ} (h : c_count_spare ds μ Φ Ψ) : ds.length = 2 := by obtain ⟨_, _, _, _, rfl, _⟩ := h; rfl
theorem ok_count_spare (T : Txt P w K mg) : FnOk P w K mg base (L2N.CX P w) 1 T.f_count_spare T.d_count_spare ["head", "cycle"] (spOf K c_count_spare) := by
  refine def_okC T.F_count_spare sc_count_spare _ (fun ds μ Φ Ψ h => len_count_spare h) (fun cdv A outer s H E B hW hr =>
    have tk : L2N.Takes (cxOf (L2N.CX P w) P w K mg base N_count_spare "count_spare" (defScope s_count_spare) T.f_count_spare cdv A outer s H E) (fun cls d _ H => E cls d H) := L2N.takes_of rfl rfl rfl rfl
    ⟨_, (pss_cons (ps_set (i := 2) sc_count_spare.nd rfl (Or.inl rfl) pe_int)
      (pss_cons (ps_while (passes_of rfl) (PW.pt (pw_and (pt_cmpR op_lt (pv 2) (pe_callB call_len_seq (by rfl) T.z_len PySem.boot_len (pa_cons (pv 0) pa_nil)) (nomark _)) (pw_and1 (pt_cmpR op_eq (pe_ix ix_tup (pv 0) (pe_op op_sub (pe_un un_neg pe_int) (pv 2)) (fun _ _ => rfl)) (pe_ix ix_tup (pv 1) (pe_op op_sub (pe_un un_neg pe_int) (pe_op op_mod (pv 2) (pe_callB call_len_seq (by rfl) T.z_len PySem.boot_len (pa_cons (pv 1) pa_nil)))) (fun _ _ => rfl)) (nomark _))))) (pss_one (ps_aug (i := 2) sc_count_spare.nd rfl (Or.inl rfl) pe_int ip_add)))
      (pss_one (ps_ret (pv 2))))),
      (sSeq (sAsg sInt sName)
      (sSeq (sWhile (sAnd (sTest (sOp roBl0 sVar (sCB rcLen (sCons sVar sNil)))) (sTest (sOp roEq (sOp roIxT sVar (sOp roInt0 (sUn ruInt sInt) sVar)) (sOp roIxT sVar (sOp roInt0 (sUn ruInt sInt) (sOp roInt sVar (sCB rcLen (sCons sVar sNil)))))))) (sAug roIp sInt))
      (sRet sVar)))⟩) (fun ds μ Φ Ψ h => ?hv)
  case hv =>
    obtain ⟨hd, c, d, sp, rfl, hc, hl, hl2, hm, h⟩ := h
    refine seq_cut fun M hM => ?_
    walk_at "wp"
    rw [hM]; clear hM M
    refine seq_cut fun M hM => ?_
    walk_at "wp"
    have d1 := hm.d1
    have dn := hm.le hc
    have hdl : (c.take d).length = d := by rw [List.length_take]; omega
    refine ⟨fun m δ' μ' => ∃ s : Nat, μ' = μ ∧ s ≤ hd.length ∧ (∀ j, j < s → hd.getD (hd.length - 1 - j) 0 = cyc c (d - 1 - j % d)) ∧ m = hd.length - s ∧ δ' = [some (.tup (hd.map .int)), some (.tup ((c.take d).map .int)), some (.int s)], ⟨_, 0, rfl, Nat.zero_le _, nofun, rfl, rfl⟩, ?_⟩
    rintro m δ' μ' ⟨s, rfl, hs, hy, rfl, rfl⟩
    walk_at "wp"
    refine ⟨fun q => ?_, fun q => ?_⟩
    · have hsl : s < hd.length := by omega
      have hmd := Nat.mod_lt s d1
      refine ⟨_, at_neg hsl, by rw [hdl]; omega, _, by rw [hdl]; exact at_neg (s := s % d) (by rw [hdl]; exact hmd), ?_⟩
      have ev : (c.take d).getD ((c.take d).length - 1 - s % d) 0 = cyc c (d - 1 - s % d) := by
        rw [hdl, List.getD_eq_getElem?_getD, List.getElem?_take, if_pos (by omega), self_at (by omega)]; rfl
      rw [ev]
      walk_at "wp"
      refine ⟨fun q => ⟨hd.length - (s + 1), by omega, s + 1, by omega, fun j hj => ?_, rfl, rfl⟩, fun q => ?_⟩
      · rcases Nat.lt_or_ge j s with hj2 | hj2
        · exact hy j hj2
        · obtain rfl : j = s := by omega
          exact q
      · rw [hM]; clear hM M
        walk_at "wps"
        exact ret_same (h s ⟨hs, hy, fun _ => q⟩)
    · rw [hM]; clear hM M
      walk_at "wps"
      exact ret_same (h s ⟨hs, hy, fun z => absurd z (by omega)⟩)
end
section
variable {P : Program} {w : World} {K : Fg} {mg : Str → Option Value} {base : Heap}
def c_Row___init__ (C O : Addr) : Con := fun ds μ Φ Ψ => ∃ (x : Addr) (h c : List Int), ds = [.hd (.ref x), .tup (h.map .int), .tup (c.map .int)] ∧ h.length ≤ 1000 ∧ c.length ≤ 1000 ∧ μ x = some (.ins C [] []) ∧ (¬ (c ≠ [] ∧ ∀ y ∈ h ++ c, 0 ≤ y) → Ψ (.mk O none) μ) ∧ (RwOk ⟨h, c⟩ → Φ .non (sset μ x (.ins C NSA [.tup (h.map .int), .tup (c.map .int)])))
theorem len_Row___init__ {C O ds μ Φ Ψ} (h : c_Row___init__ C O ds μ Φ Ψ) : ds.length = 3 := by obtain ⟨_, _, _, rfl, _⟩ := h; rfl
theorem ok_Row___init__ (T : Txt P w K mg) : FnOk P w K mg base (L2N.CX P w) 2 T.f_Row___init__ T.d_Row___init__ ["self", "head", "cycle"] (spOf K (c_Row___init__ T.c_Row T.c_OutOfRange)) := by
  refine def_okD T.F_Row___init__ sc_Row___init__ _ (fun ds μ Φ Ψ h => len_Row___init__ h) (fun cdv A outer s H E B hW hr =>
    have tk : L2N.Takes (cxOf (L2N.CX P w) P w K mg base N_Row___init__ "Row.__init__" (defScope s_Row___init__) T.f_Row___init__ cdv A outer s H E) (fun cls d _ H => E cls d H) := L2N.takes_of rfl rfl rfl rfl
    ⟨_, (pss_cons (ps_if (PW.pt (pw_or (pt_cmpR op_eq (pe_callB call_len_seq (by rfl) T.z_len PySem.boot_len (pa_cons (pv 2) pa_nil)) pe_int (nomark _)) (pw_or1 (pt_not (pt_val (pe_callB (cr_all rfl) (by rfl) T.z_all (by decide +kernel) (pa_cons (pe_lc (own := [("entry", 3)]) rfl sc_Row___init__.nd (pi_tup (pe_op op_catN (pv 1) (pv 2))) (blkOk_by (N := N_Row___init__) (sc := defScope s_Row___init__) (by decide +kernel)) (fun _ _ _ _ _ => (pg_name (i := 3) sc_Row___init__.nd rfl (Or.inl rfl))) (fun _ _ _ _ _ => pts_nil) (fun _ _ _ _ _ => (pe_cmpR op_ge (pv 3) pe_int (nomark _)))) pa_nil))))))) (pss_one (L2N.ps_raise rfl tk (L2N.pmk_own PySem.F.excBase_ValueError T.x_OutOfRange T.g_OutOfRange T.k_OutOfRange (raises_own T.e_OutOfRange T.t_OutOfRange) rfl))) pss_nil)
      (pss_cons (ps_fld (pv 0) (pv 1) rfl)
      (pss_one (ps_fld (pv 0) (pv 2) rfl)))),
      (sSeq (sIfS (sOr (sTest (sOp roEq (sCB rcLen (sCons sVar sNil)) sInt)) (sNot (sB (sCB rcAll (sCons (sLc (siT (sOp roCatT sVar sVar)) (gwName List.mem_cons_self) (fun _ _ _ => sName) (fun _ _ _ => sYes) (fun _ _ _ => (sOp roBl0 sVar sInt))) sNil))))) (sRaise0W (W := fun cls d _ H => E cls d H) (C := T.c_OutOfRange) (by exact hW)) sNext)
      (sSeq (sSetF T.cls_Row T.na_Row_head sVar sVar)
      (sSetF T.cls_Row T.na_Row_cycle sVar sVar)))⟩) (fun ds μ Φ Ψ h => ?hv)
  case hv =>
    obtain ⟨x, hh, c, rfl, hl, cl, hx, h1, h2⟩ := h
    refine seq_cut fun M hM => ?_
    walk_at "wp"
    have eall : ((hh ++ c).map fun y => D.bl (decide (0 ≤ y))) = ((hh ++ c).map fun y => decide (0 ≤ y)).map .bl := by rw [List.map_map]; rfl
    refine ⟨fun q => ⟨_, Sub.refl, h1 fun z => z.1 (List.eq_nil_of_length_eq_zero (by omega))⟩, fun q => ⟨by omega, ?_⟩⟩
    rw [← List.map_append]
    refine lcZ (fun y => .bl (decide (0 ≤ y))) (by rw [List.length_append]; omega) (fun z μ2 X hz hsub hx => ?_) ?_
    · walk_at "wp"
      exact hx
    rw [eall]
    refine w_allB rfl ⟨_, rfl, fun q2 => ⟨_, Sub.refl, h1 fun z => ?_⟩, fun q2 => ?_⟩
    · have : (((hh ++ c).map fun y => decide (0 ≤ y)).all id) = true := by
        rw [List.all_map, List.all_eq_true]
        exact fun y hy => decide_eq_true (z.2 y hy)
      rw [this] at q2; cases q2
    · have hall : ∀ y ∈ hh ++ c, 0 ≤ y := by
        have : (((hh ++ c).map fun y => decide (0 ≤ y)).all id) = true := by
          cases e : (((hh ++ c).map fun y => decide (0 ≤ y)).all id) with
          | true => rfl
          | false => rw [e] at q2; cases q2
        rw [List.all_map, List.all_eq_true] at this
        exact fun y hy => of_decide_eq_true (this y hy)
      rw [hM]; clear hM M
      walk_at "wps"
      refine ⟨_, _, _, rfl, hx, by decide, by decide, _, _, _, rfl, sset_same, by decide, by decide, ?_⟩
      walk_at "wps"
      exact ret_same (h2 ⟨fun z => q (by have z : c = [] := z; rw [z]; rfl), hl, cl, fun y hy => hall y (List.mem_append_left _ hy), fun y hy => hall y (List.mem_append_right _ hy)⟩)
def c_Row___getitem__ (C O : Addr) : Con := fun ds μ Φ Ψ => ∃ (r : Rw) (i : Int), ds = [rwO C r, .int i] ∧ RwOk r ∧ (i < 0 → Ψ (.mk O none) μ) ∧ (∀ n : Nat, i = (n : Int) → Φ (.int (ent r n)) μ)
theorem len_Row___getitem__ {C O ds μ Φ Ψ} (h : c_Row___getitem__ C O ds μ Φ Ψ) : ds.length = 2 := by obtain ⟨_, _, rfl, _⟩ := h; rfl
theorem ok_Row___getitem__ (T : Txt P w K mg) : FnOk P w K mg base (L2N.CX P w) 2 T.f_Row___getitem__ T.d_Row___getitem__ ["self", "at"] (spOf K (c_Row___getitem__ T.c_Row T.c_OutOfRange)) := by
  refine def_okC T.F_Row___getitem__ sc_Row___getitem__ _ (fun ds μ Φ Ψ h => len_Row___getitem__ h) (fun cdv A outer s H E B hW hr =>
    have tk : L2N.Takes (cxOf (L2N.CX P w) P w K mg base N_Row___getitem__ "Row.__getitem__" (defScope s_Row___getitem__) T.f_Row___getitem__ cdv A outer s H E) (fun cls d _ H => E cls d H) := L2N.takes_of rfl rfl rfl rfl
    ⟨_, (pss_cons (ps_if (pt_cmpR op_lt (pv 1) pe_int (nomark _)) (pss_one (L2N.ps_raise rfl tk (L2N.pmk_own PySem.F.excBase_ValueError T.x_OutOfRange T.g_OutOfRange T.k_OutOfRange (raises_own T.e_OutOfRange T.t_OutOfRange) rfl))) pss_nil)
      (pss_cons (ps_if (pt_cmpR op_lt (pv 1) (pe_callB call_len_seq (by rfl) T.z_len PySem.boot_len (pa_cons (pe_fld (pv 0) rfl) pa_nil)) (nomark _)) (pss_one (ps_ret (pe_ix ix_tup (pe_fld (pv 0) rfl) (pv 1) (fun _ _ => rfl)))) pss_nil)
      (pss_one (ps_ret (pe_ix ix_tup (pe_fld (pv 0) rfl) (pe_op op_mod (pe_op op_sub (pv 1) (pe_callB call_len_seq (by rfl) T.z_len PySem.boot_len (pa_cons (pe_fld (pv 0) rfl) pa_nil))) (pe_callB call_len_seq (by rfl) T.z_len PySem.boot_len (pa_cons (pe_fld (pv 0) rfl) pa_nil))) (fun _ _ => rfl)))))),
      (sSeq (sIfS (sTest (sOp roBl0 sVar sInt)) (sRaise0W (W := fun cls d _ H => E cls d H) (C := T.c_OutOfRange) (by exact hW)) sNext)
      (sSeq (sIfS (sTest (sOp roBl0 sVar (sCB rcLen (sCons (sFldO (NS := NSA) (i := 0) T.cls_Row T.na_Row_head rfl (by decide) sVar) sNil)))) (sRet (sOp roIxT (sFldO (NS := NSA) (i := 0) T.cls_Row T.na_Row_head rfl (by decide) sVar) sVar)) sNext)
      (sRet (sOp roIxT (sFldO (NS := NSA) (i := 1) T.cls_Row T.na_Row_cycle rfl (by decide) sVar) (sOp roInt (sOp roInt0 sVar (sCB rcLen (sCons (sFldO (NS := NSA) (i := 0) T.cls_Row T.na_Row_head rfl (by decide) sVar) sNil))) (sCB rcLen (sCons (sFldO (NS := NSA) (i := 1) T.cls_Row T.na_Row_cycle rfl (by decide) sVar) sNil)))))))⟩) (fun ds μ Φ Ψ h => ?hv)
  case hv =>
    obtain ⟨r, i, rfl, hr, h1, h2⟩ := h
    have e1 : rwO T.c_Row r = D.obj T.c_Row NSA [.tup (r.h.map .int), .tup (r.c.map .int)] := rfl
    refine seq_cut fun M hM => ?_
    rw [e1]
    walk_at "wp"
    refine ⟨fun q => ⟨_, Sub.refl, h1 q⟩, fun q => ?_⟩
    obtain ⟨n, rfl⟩ : ∃ n : Nat, i = (n : Int) := ⟨i.toNat, by omega⟩
    have h2 := h2 n rfl
    show M [some (.obj T.c_Row NSA [.tup (r.h.map .int), .tup (r.c.map .int)]), some (.int n)] μ
    rw [hM]; clear hM M
    refine seq_cut fun M hM => ?_
    walk_at "wp"
    have hcn : 0 < r.c.length := List.length_pos_iff.mpr hr.c0
    refine ⟨fun q => ⟨_, atI_nat (v := .int (ent r n)) ?_, ret_same h2⟩, fun q => ?_⟩
    · have hn : n < r.h.length := by omega
      rw [List.getElem?_map, List.getElem?_eq_getElem hn]
      unfold ent
      rw [if_pos hn, List.getD_eq_getElem?_getD, List.getElem?_eq_getElem hn]; rfl
    · have hn : ¬ n < r.h.length := by omega
      have hm := Nat.mod_lt (n - r.h.length) hcn
      rw [hM]; clear hM M
      walk_at "wps"
      have em : ((n : Int) - (r.h.length : Int)) % (r.c.length : Int) = (((n - r.h.length) % r.c.length : Nat) : Int) := by
        rw [show (n : Int) - (r.h.length : Int) = ((n - r.h.length : Nat) : Int) by omega]; rfl
      rw [em]
      refine ⟨by omega, _, atI_nat (v := .int (ent r n)) ?_, ret_same h2⟩
      rw [List.getElem?_map, self_at hm]
      unfold ent
      rw [if_neg hn, cyc_mod]; rfl
def starts (r : Rw) (n : Nat) : List Int := (List.range n).map (ent r)
def c_Row_start (C O : Addr) : Con := fun ds μ Φ Ψ => ∃ (r : Rw) (i : Int), ds = [rwO C r, .int i] ∧ RwOk r ∧ (i < 0 → Ψ (.mk O none) μ) ∧ (∀ n : Nat, i = (n : Int) → n ≤ 2000 → Φ (.tup ((starts r n).map .int)) μ) ∧ i ≤ 2000
theorem len_Row_start {C O ds μ Φ Ψ} (h : c_Row_start C O ds μ Φ Ψ) : ds.length = 2 := by obtain ⟨_, _, rfl, _⟩ := h; rfl
theorem ok_Row_start (T : Txt P w K mg) : FnOk P w K mg base (L2N.CX P w) 4 T.f_Row_start T.d_Row_start ["self", "length"] (spOf K (c_Row_start T.c_Row T.c_OutOfRange)) := by
  refine def_okC T.F_Row_start sc_Row_start _ (fun ds μ Φ Ψ h => len_Row_start h) (fun cdv A outer s H E B hW hr =>
    have tk : L2N.Takes (cxOf (L2N.CX P w) P w K mg base N_Row_start "Row.start" (defScope s_Row_start) T.f_Row_start cdv A outer s H E) (fun cls d _ H => E cls d H) := L2N.takes_of rfl rfl rfl rfl
    ⟨_, (pss_cons (ps_if (pt_cmpR op_lt (pv 1) pe_int (nomark _)) (pss_one (L2N.ps_raise rfl tk (L2N.pmk_own PySem.F.excBase_ValueError T.x_OutOfRange T.g_OutOfRange T.k_OutOfRange (raises_own T.e_OutOfRange T.t_OutOfRange) rfl))) pss_nil)
      (pss_one (ps_ret (pe_callTy call_tupleN (by rfl) T.z_tuple (by decide +kernel) (pa_cons (pe_lc (own := [("place", 2)]) rfl sc_Row_start.nd (pi_range1 rfl T.z_range (pa_cons (pv 1) pa_nil)) (blkOk_by (N := N_Row_start) (sc := defScope s_Row_start) (by decide +kernel)) (fun _ _ _ _ _ => (pg_name (i := 2) sc_Row_start.nd rfl (Or.inl rfl))) (fun _ _ _ _ _ => pts_nil) (fun _ _ _ _ _ => (pe_getX (E := WE WN) T.me_Row___getitem__ T.fn_Row___getitem__ (ok_Row___getitem__ T) (hr.mono (by decide)) T.b_Row___getitem__ (fun σ => passAtN σ) (pv 0) (pv 2) (fun _ _ => rfl)))) pa_nil))))),
      (sSeq (sIfS (sTest (sOp roBl0 sVar sInt)) (sRaise0W (W := fun cls d _ H => E cls d H) (C := T.c_OutOfRange) (by exact hW)) sNext)
      (sRet (sCB rcTuple (sCons (sLc (siR1 sVar) (gwName List.mem_cons_self) (fun _ _ _ => sName) (fun _ _ _ => sYes) (fun _ _ _ => (sGetXN (NS := NSA) sVar sVar))) sNil))))⟩) (fun ds μ Φ Ψ h => ?hv)
  case hv =>
    obtain ⟨r, i, rfl, hr, h1, h2, hi⟩ := h
    have e1 : rwO T.c_Row r = D.obj T.c_Row NSA [.tup (r.h.map .int), .tup (r.c.map .int)] := rfl
    refine seq_cut fun M hM => ?_
    walk_at "wp"
    refine ⟨fun q => ⟨_, Sub.refl, h1 q⟩, fun q => ?_⟩
    obtain ⟨n, rfl⟩ : ∃ n : Nat, i = (n : Int) := ⟨i.toNat, by omega⟩
    have hn : n ≤ 2000 := by omega
    have h2 := h2 n rfl hn
    rw [hM]; clear hM M
    walk_at "wps"
    refine ⟨by omega, by omega, lcR (fun i => .int (ent r i)) (by omega) (fun i μ2 X hi hsub hx => ?_) ?_⟩
    · walk_at "wp"
      exact ⟨_, e1, r, i, rfl, hr, fun z => absurd z (by omega), fun m hm => by obtain rfl : i = m := Int.ofNat.inj hm; exact hx⟩
    refine ⟨_, .lst _, ret_same ?_⟩
    have e2 : ((List.range n).map fun i => D.int (ent r i)) = (starts r n).map .int := by unfold starts; rw [List.map_map]; rfl
    rw [e2]
    exact h2
def c_Row_least (C : Addr) : Con := fun ds μ Φ _ => ∃ (r : Rw), ds = [rwO C r] ∧ RwOk r ∧ ∀ a, IsLeast r a → Φ (rwO C a) μ
theorem len_Row_least {C ds μ Φ Ψ} (h : c_Row_least C ds μ Φ Ψ) : ds.length = 1 := by obtain ⟨_, rfl, _⟩ := h; rfl
theorem ok_Row_least (T : Txt P w K mg) : FnOk P w K mg base (L2N.CX P w) 4 T.f_Row_least T.d_Row_least ["self"] (spOf K (c_Row_least T.c_Row)) := by
  refine def_okC T.F_Row_least sc_Row_least _ (fun ds μ Φ Ψ h => len_Row_least h) (fun cdv A outer s H E B hW hr =>
    have tk : L2N.Takes (cxOf (L2N.CX P w) P w K mg base N_Row_least "Row.least" (defScope s_Row_least) T.f_Row_least cdv A outer s H E) (fun cls d _ H => E cls d H) := L2N.takes_of rfl rfl rfl rfl
    ⟨_, (pss_cons (ps_set (i := 1) sc_Row_least.nd rfl (Or.inl rfl) (pe_call (ok_shortest_cycle T) (hr.mono (by decide)) rfl T.g_shortest_cycle T.F_shortest_cycle.kp T.b_shortest_cycle .nil passN (pa_cons (pe_fld (pv 0) rfl) pa_nil)))
      (pss_cons (ps_set (i := 2) sc_Row_least.nd rfl (Or.inl rfl) (pe_call (ok_count_spare T) (hr.mono (by decide)) rfl T.g_count_spare T.F_count_spare.kp T.b_count_spare .nil passN (pa_cons (pe_fld (pv 0) rfl) (pa_cons (pv 1) pa_nil))))
      (pss_one (ps_ret (pe_makeS T.mk_Row (ok_Row___init__ T) (hr.mono (by decide)) rfl T.g_Row T.b_Row___init__ (fun σ => L2N.passAt tk σ) (pa_cons (pe_slice sl_tupN (pe_fld (pv 0) rfl) po_none (po_some (pe_op op_sub (pe_callB call_len_seq (by rfl) T.z_len PySem.boot_len (pa_cons (pe_fld (pv 0) rfl) pa_nil)) (pv 2)))) (pa_cons (pe_call (ok_turned_cycle T) (hr.mono (by decide)) rfl T.g_turned_cycle T.F_turned_cycle.kp T.b_turned_cycle .nil passN (pa_cons (pv 1) (pa_cons (pe_un un_neg (pv 2)) pa_nil))) pa_nil))))))),
      (sSeq (sAsg (sCall (sCons (sFldO (NS := NSA) (i := 1) T.cls_Row T.na_Row_cycle rfl (by decide) sVar) sNil)) sName)
      (sSeq (sAsg (sCall (sCons (sFldO (NS := NSA) (i := 0) T.cls_Row T.na_Row_head rfl (by decide) sVar) (sCons sVar sNil))) sName)
      (sRet (sMakeSW (W := fun cls d _ H => E cls d H) (by exact hW) (sCons (sSlT (sFldO (NS := NSA) (i := 0) T.cls_Row T.na_Row_head rfl (by decide) sVar) sNoPart (sPart (sOp roInt0 (sCB rcLen (sCons (sFldO (NS := NSA) (i := 0) T.cls_Row T.na_Row_head rfl (by decide) sVar) sNil)) sVar))) (sCons (sCall (sCons sVar (sCons (sUn ruInt sVar) sNil))) sNil))))))⟩) (fun ds μ Φ Ψ h => ?hv)
  case hv =>
    obtain ⟨r, rfl, hr, h⟩ := h
    have e1 : rwO T.c_Row r = D.obj T.c_Row NSA [.tup (r.h.map .int), .tup (r.c.map .int)] := rfl
    refine seq_cut fun M hM => ?_
    rw [e1]
    walk_at "wp"
    obtain ⟨d, hd⟩ := minper_ex hr.c0
    have d1 := hd.d1
    have dn := hd.le hr.c0
    have hcl := hr.cl
    have hhl := hr.hl
    have hdl : (r.c.take d).length = d := by rw [List.length_take]; omega
    refine ⟨r.c, d, rfl, hr.c0, hr.cl, hd, ?_⟩
    rw [hM]; clear hM M
    refine seq_cut fun M hM => ?_
    walk_at "wp"
    refine ⟨r.h, r.c, d, 0, rfl, hr.c0, hr.cl, hr.hl, hd, fun sp hsp => ?_⟩
    have hle := hsp.le
    rw [hM]; clear hM M
    walk_at "wps"
    refine ⟨r.c.take d, -(sp : Int), rfl, fun z => by rw [z] at hdl; simp at hdl; omega, by omega, ?_⟩
    rw [hdl]
    have z0 := Int.emod_nonneg (-(sp : Int)) (show (d : Int) ≠ 0 by omega)
    have z1 := Int.emod_lt_of_pos (-(sp : Int)) (show (0 : Int) < d by omega)
    obtain ⟨st, hst⟩ : ∃ st : Nat, (-(sp : Int)) % (d : Int) = (st : Int) := ⟨_, (Int.toNat_of_nonneg z0).symm⟩
    rw [hst, Int.toNat_natCast]
    have hstd : st < d := by omega
    have hz : (st + sp) % d = 0 := by
      apply Nat.mod_eq_zero_of_dvd
      have e := Int.mul_ediv_add_emod (-(sp : Int)) (d : Int)
      rw [hst] at e
      have e2 : ((st + sp : Nat) : Int) = (d : Int) * (-(-(sp : Int) / (d : Int))) := by rw [Int.mul_neg]; omega
      exact Int.natCast_dvd_natCast.mp ⟨_, e2⟩
    have hil := isleast_prog (r := r) hr.c0 hd hsp hstd hz
    obtain ⟨ho, _, _⟩ := hr.least hil
    intro y hy
    have eh : DW.cutD (r.h.map D.int) none (some ((r.h.length : Int) - (sp : Int))) = (r.h.take (r.h.length - sp)).map D.int := by
      rw [show (r.h.length : Int) - (sp : Int) = ((r.h.length - sp : Nat) : Int) by omega, cut_to, List.map_take]
    rw [eh]
    refine ⟨y, _, _, rfl, by rw [List.length_take]; omega, ho.cl, sset_same, fun z => absurd ⟨ho.c0, fun v hv => (List.mem_append.mp hv).elim (ho.hp v) (ho.cp v)⟩ z, fun _ => ⟨rfl, NSA, _, sset_same, ?_⟩⟩
    rw [sset_sset, sdel_sset hy]
    exact ret_same (h _ hil)
end
section
variable {P : Program} {w : World} {K : Fg} {mg : Str → Option Value} {base : Heap}
def c_Row_after (C O : Addr) : Con := fun ds μ Φ Ψ => ∃ (r : Rw) (i : Int), ds = [rwO C r, .int i] ∧ RwOk r ∧ (i < 0 → Ψ (.mk O none) μ) ∧ (∀ (n : Nat) a, i = (n : Int) → IsLeast (aft r n) a → Φ (rwO C a) μ)
theorem len_Row_after {C O ds μ Φ Ψ} (h : c_Row_after C O ds μ Φ Ψ) : ds.length = 2 := by obtain ⟨_, _, rfl, _⟩ := h; rfl
theorem ok_Row_after (T : Txt P w K mg) : FnOk P w K mg base (L2N.CX P w) 6 T.f_Row_after T.d_Row_after ["self", "count"] (spOf K (c_Row_after T.c_Row T.c_OutOfRange)) := by
  refine def_okC T.F_Row_after sc_Row_after _ (fun ds μ Φ Ψ h => len_Row_after h) (fun cdv A outer s H E B hW hr =>
    have tk : L2N.Takes (cxOf (L2N.CX P w) P w K mg base N_Row_after "Row.after" (defScope s_Row_after) T.f_Row_after cdv A outer s H E) (fun cls d _ H => E cls d H) := L2N.takes_of rfl rfl rfl rfl
    ⟨_, (pss_cons (ps_if (pt_cmpR op_lt (pv 1) pe_int (nomark _)) (pss_one (L2N.ps_raise rfl tk (L2N.pmk_own PySem.F.excBase_ValueError T.x_OutOfRange T.g_OutOfRange T.k_OutOfRange (raises_own T.e_OutOfRange T.t_OutOfRange) rfl))) pss_nil)
      (pss_cons (ps_set (i := 2) sc_Row_after.nd rfl (Or.inl rfl) (pe_callB (call_max2 rfl) (by rfl) T.z_max (by decide +kernel) (pa_cons pe_int (pa_cons (pe_op op_sub (pv 1) (pe_callB call_len_seq (by rfl) T.z_len PySem.boot_len (pa_cons (pe_fld (pv 0) rfl) pa_nil))) pa_nil))))
      (pss_one (ps_ret (pe_methX0 (pl := _) (pe_makeS T.mk_Row (ok_Row___init__ T) (hr.mono (by decide)) rfl T.g_Row T.b_Row___init__ (fun σ => L2N.passAt tk σ) (pa_cons (pe_slice sl_tupN (pe_fld (pv 0) rfl) (po_some (pv 1)) po_none) (pa_cons (pe_call (ok_turned_cycle T) (hr.mono (by decide)) rfl T.g_turned_cycle T.F_turned_cycle.kp T.b_turned_cycle .nil passN (pa_cons (pe_fld (pv 0) rfl) (pa_cons (pv 2) pa_nil))) pa_nil))) T.cls_Row T.me_Row_least (ok_Row_least T) (hr.mono (by decide)) T.b_Row_least (fun σ => L2N.passAt tk σ)))))),
      (sSeq (sIfS (sTest (sOp roBl0 sVar sInt)) (sRaise0W (W := fun cls d _ H => E cls d H) (C := T.c_OutOfRange) (by exact hW)) sNext)
      (sSeq (sAsg (sCB rcMax2 (sCons sInt (sCons (sOp roInt0 sVar (sCB rcLen (sCons (sFldO (NS := NSA) (i := 0) T.cls_Row T.na_Row_head rfl (by decide) sVar) sNil))) sNil))) sName)
      (sRet (sMethXW (NS := NSA) (W := fun cls d _ H => E cls d H) (by decide) (by exact hW) (sMakeSW (W := fun cls d _ H => E cls d H) (by exact hW) (sCons (sSlT (sFldO (NS := NSA) (i := 0) T.cls_Row T.na_Row_head rfl (by decide) sVar) (sPart sVar) sNoPart) (sCons (sCall (sCons (sFldO (NS := NSA) (i := 1) T.cls_Row T.na_Row_cycle rfl (by decide) sVar) (sCons sVar sNil))) sNil))) sNil))))⟩) (fun ds μ Φ Ψ h => ?hv)
  case hv =>
    obtain ⟨r, i, rfl, hr, h1, h2⟩ := h
    have e1 : rwO T.c_Row r = D.obj T.c_Row NSA [.tup (r.h.map .int), .tup (r.c.map .int)] := rfl
    refine seq_cut fun M hM => ?_
    rw [e1]
    walk_at "wp"
    refine ⟨fun q => ⟨_, Sub.refl, h1 q⟩, fun q => ?_⟩
    obtain ⟨n, rfl⟩ : ∃ n : Nat, i = (n : Int) := ⟨i.toNat, by omega⟩
    have h2 := fun a => h2 n a rfl
    show M [some (.obj T.c_Row NSA [.tup (r.h.map .int), .tup (r.c.map .int)]), some (.int n), none] μ
    rw [hM]; clear hM M
    refine seq_cut fun M hM => ?_
    walk_at "wp"
    refine ⟨_, _, rfl, ?_⟩
    have hcn : 0 < r.c.length := List.length_pos_iff.mpr hr.c0
    have hcl := hr.cl
    have hhl := hr.hl
    obtain ⟨ps, hps⟩ : ∃ ps : Nat, ps = n - r.h.length := ⟨_, rfl⟩
    rw [show (if (n : Int) - (r.h.length : Int) > 0 then (n : Int) - (r.h.length : Int) else 0) = (ps : Int) by split <;> omega]
    have ep : (((ps : Int) % (r.c.length : Int)).toNat) = ps % r.c.length := rfl
    rw [hM]; clear hM M
    walk_at "wps"
    refine ⟨r.c, ps, rfl, hr.c0, hr.cl, ?_⟩
    rw [ep]
    intro y hy
    have ha : aft r n = ⟨r.h.drop n, rot r.c (ps % r.c.length)⟩ := by
      unfold aft
      split
      · have : ps = 0 := by omega
        rw [this, Nat.zero_mod]
        unfold rot
        simp
      · rw [List.drop_eq_nil_of_le (by omega), hps]
    obtain ⟨ho, ho1, ho2⟩ := hr.aft n
    rw [ha] at ho ho1 ho2 h2
    rw [show DW.cutD (r.h.map D.int) (some (n : Int)) none = (r.h.drop n).map D.int by rw [cut_from, List.map_drop]]
    refine ⟨y, _, _, rfl, by rw [List.length_drop]; omega, ho.cl, sset_same, fun z => absurd ⟨ho.c0, fun v hv => (List.mem_append.mp hv).elim (ho.hp v) (ho.cp v)⟩ z, fun _ => ⟨rfl, NSA, _, sset_same, ?_⟩⟩
    rw [sset_sset, sdel_sset hy]
    exact ⟨_, rfl, ⟨r.h.drop n, rot r.c (ps % r.c.length)⟩, rfl, ho, fun a ha => ret_same (h2 a ha)⟩
def c_Row_lead (C O : Addr) : Con := fun ds μ Φ Ψ => ∃ (r : Rw) (es : List Int), ds = [rwO C r, .tup (es.map .int)] ∧ RwOk r ∧ es.length + r.h.length ≤ 1000 ∧ (¬ (∀ x ∈ es, 0 ≤ x) → Ψ (.mk O none) μ) ∧ ((∀ x ∈ es, 0 ≤ x) → ∀ a, IsLeast (led es r) a → Φ (rwO C a) μ)
theorem len_Row_lead {C O ds μ Φ Ψ} (h : c_Row_lead C O ds μ Φ Ψ) : ds.length = 2 := by obtain ⟨_, _, rfl, _⟩ := h; rfl
theorem ok_Row_lead (T : Txt P w K mg) : FnOk P w K mg base (L2N.CX P w) 6 T.f_Row_lead T.d_Row_lead ["self", "entries"] (spOf K (c_Row_lead T.c_Row T.c_OutOfRange)) := by
  refine def_okC T.F_Row_lead sc_Row_lead _ (fun ds μ Φ Ψ h => len_Row_lead h) (fun cdv A outer s H E B hW hr =>
    have tk : L2N.Takes (cxOf (L2N.CX P w) P w K mg base N_Row_lead "Row.lead" (defScope s_Row_lead) T.f_Row_lead cdv A outer s H E) (fun cls d _ H => E cls d H) := L2N.takes_of rfl rfl rfl rfl
    ⟨_, (pss_one (ps_ret (pe_methX0 (pl := _) (pe_makeS T.mk_Row (ok_Row___init__ T) (hr.mono (by decide)) rfl T.g_Row T.b_Row___init__ (fun σ => L2N.passAt tk σ) (pa_cons (pe_op op_catN (pv 1) (pe_fld (pv 0) rfl)) (pa_cons (pe_fld (pv 0) rfl) pa_nil))) T.cls_Row T.me_Row_least (ok_Row_least T) (hr.mono (by decide)) T.b_Row_least (fun σ => L2N.passAt tk σ)))),
      (sRet (sMethXW (NS := NSA) (W := fun cls d _ H => E cls d H) (by decide) (by exact hW) (sMakeSW (W := fun cls d _ H => E cls d H) (by exact hW) (sCons (sOp roCatT sVar (sFldO (NS := NSA) (i := 0) T.cls_Row T.na_Row_head rfl (by decide) sVar)) (sCons (sFldO (NS := NSA) (i := 1) T.cls_Row T.na_Row_cycle rfl (by decide) sVar) sNil))) sNil))⟩) (fun ds μ Φ Ψ h => ?hv)
  case hv =>
    obtain ⟨r, es, rfl, hr, hl, h1, h2⟩ := h
    have e1 : rwO T.c_Row r = D.obj T.c_Row NSA [.tup (r.h.map .int), .tup (r.c.map .int)] := rfl
    rw [e1]
    walk_at "wps"
    have hcl := hr.cl
    refine ⟨by omega, fun y hy => ?_⟩
    rw [← List.map_append]
    refine ⟨y, _, _, rfl, by rw [List.length_append]; exact hl, hcl, sset_same, fun z => ⟨_, Sub.set Sub.refl hy, h1 fun w => z ⟨hr.c0, fun v hv => ?_⟩⟩, fun ho => ⟨rfl, NSA, _, sset_same, ?_⟩⟩
    · rcases List.mem_append.mp hv with q | q
      · exact (List.mem_append.mp q).elim (w v) (hr.hp v)
      · exact hr.cp v q
    · rw [sset_sset, sdel_sset hy]
      exact ⟨_, rfl, ⟨es ++ r.h, r.c⟩, rfl, ho, fun a ha => ret_same (h2 (fun x hx => ho.hp x (List.mem_append_left _ hx)) a ha)⟩
theorem eqD_two (h c h' c' : List Int) : eqD (.tup [.tup (h.map .int), .tup (c.map .int)]) (.tup [.tup (h'.map .int), .tup (c'.map .int)]) = decide (h = h' ∧ c = c') := by
  rw [Bool.eq_iff_iff, decide_eq_true_eq]
  unfold eqD
  simp only [toPy, toPys, PyData.eqv, PyData.eqvAll, Bool.and_eq_true, Bool.and_true, eqvAll_map eqv_int]
theorem side_two (h c : List Int) : EqSide (.tup [.tup (h.map .int), .tup (c.map .int)]) := by
  have s1 := side_ints h
  have s2 := side_ints c
  unfold EqSide at s1 s2 ⊢
  constructor
  · simp only [eqOk, eqOks, Bool.and_true, Bool.and_eq_true] at s1 s2 ⊢
    exact ⟨s1.1, s2.1⟩
  · simp only [dpt, dpts] at s1 s2 ⊢
    have k : ∀ l : List Int, dpts (l.map .int) ≤ 1 := fun l => dpts_all fun d hd => by
      obtain ⟨x, _, rfl⟩ := List.mem_map.mp hd
      simp [dpt]
    have := k h
    have := k c
    omega
def c_same_rows (C : Addr) : Con := fun ds μ Φ _ => ∃ (r q : Rw), ds = [rwO C r, rwO C q] ∧ RwOk r ∧ RwOk q ∧ ∀ a b, IsLeast r a → IsLeast q b → Φ (.bl (decide (a.h = b.h ∧ a.c = b.c))) μ
theorem len_same_rows {C ds μ Φ Ψ} (h : c_same_rows C ds μ Φ Ψ) : ds.length = 2 := by obtain ⟨_, _, rfl, _⟩ := h; rfl
theorem ok_same_rows (T : Txt P w K mg) : FnOk P w K mg base (L2N.CX P w) 6 T.f_same_rows T.d_same_rows ["first", "second"] (spOf K (c_same_rows T.c_Row)) := by
  refine def_okC T.F_same_rows sc_same_rows _ (fun ds μ Φ Ψ h => len_same_rows h) (fun cdv A outer s H E B hW hr =>
    have tk : L2N.Takes (cxOf (L2N.CX P w) P w K mg base N_same_rows "same_rows" (defScope s_same_rows) T.f_same_rows cdv A outer s H E) (fun cls d _ H => E cls d H) := L2N.takes_of rfl rfl rfl rfl
    ⟨_, (pss_cons (ps_par (i := 2) (j := 3) (by rfl) sc_same_rows.nd rfl rfl (by decide) rfl rfl (pa_cons (pe_methX0 (pl := _) (pv 0) T.cls_Row T.me_Row_least (ok_Row_least T) (hr.mono (by decide)) T.b_Row_least (fun σ => L2N.passAt tk σ)) (pa_cons (pe_methX0 (pl := _) (pv 1) T.cls_Row T.me_Row_least (ok_Row_least T) (hr.mono (by decide)) T.b_Row_least (fun σ => L2N.passAt tk σ)) pa_nil)) (by rfl))
      (pss_one (ps_ret (pe_cmpR (op_eqD hr.units) (pe_tupN (pa_cons (pe_fld (pv 2) rfl) (pa_cons (pe_fld (pv 2) rfl) pa_nil))) (pe_tupN (pa_cons (pe_fld (pv 3) rfl) (pa_cons (pe_fld (pv 3) rfl) pa_nil))) (nomark _))))),
      (sSeq (sPar (sCons (sMethXW (NS := NSA) (W := fun cls d _ H => E cls d H) (by decide) (by exact hW) sVar sNil) (sCons (sMethXW (NS := NSA) (W := fun cls d _ H => E cls d H) (by decide) (by exact hW) sVar sNil) sNil)))
      (sRet (sOp roEqD (sTup (sCons (sFldO (NS := NSA) (i := 0) T.cls_Row T.na_Row_head rfl (by decide) sVar) (sCons (sFldO (NS := NSA) (i := 1) T.cls_Row T.na_Row_cycle rfl (by decide) sVar) sNil))) (sTup (sCons (sFldO (NS := NSA) (i := 0) T.cls_Row T.na_Row_head rfl (by decide) sVar) (sCons (sFldO (NS := NSA) (i := 1) T.cls_Row T.na_Row_cycle rfl (by decide) sVar) sNil))))))⟩) (fun ds μ Φ Ψ h => ?hv)
  case hv =>
    obtain ⟨r, q, rfl, hr, hq, h⟩ := h
    refine seq_cut fun M hM => ?_
    walk_at "wp"
    refine ⟨_, rfl, r, rfl, hr, fun a ha => ⟨_, rfl, q, rfl, hq, fun b hb => ?_⟩⟩
    have h := h a b ha hb
    walk_at "wp"
    rw [hM]; clear hM M
    have ea : rwO T.c_Row a = D.obj T.c_Row NSA [.tup (a.h.map .int), .tup (a.c.map .int)] := rfl
    have eb : rwO T.c_Row b = D.obj T.c_Row NSA [.tup (b.h.map .int), .tup (b.c.map .int)] := rfl
    rw [ea, eb]
    walk_at "wps"
    refine ⟨_, _, rfl, _, _, rfl, rfl, _, _, rfl, rfl, by decide, _, _, rfl, rfl, _, _, rfl, rfl, by decide, side_two _ _, side_two _ _, ?_⟩
    rw [eqD_two]
    exact ret_same h
end
section
variable {P : Program} {w : World} {K : Fg} {mg : Str → Option Value} {base : Heap}
structure StC (ns : List Int) (c : List D) : Prop where
  ex : ∃ seed idx rest : Int, c = [.int seed, .lst (ns.map .int), .int idx, .int rest] ∧ 0 ≤ seed ∧ seed < 2147483647 ∧ 0 ≤ idx ∧ 0 ≤ rest
def c__law_pick : Con := fun ds μ Φ _ => ∃ st ns c n, ds = [.hd (.ref st), .int n] ∧ μ st = some (.lst c) ∧ StC ns c ∧ 0 < n ∧ n.natAbs.log2 < 9000 ∧ ∀ r c', 0 ≤ r → r < n → StC ns c' → Φ (.int r) (sset μ st (.lst c'))
theorem len__law_pick {ds μ Φ Ψ} (h : c__law_pick ds μ Φ Ψ) : ds.length = 2 := by obtain ⟨i, _, _, _, rfl, _⟩ := h; rfl
theorem pick_cell {ns : List Int} {idx : Int} {P : D → Prop} (h0 : 0 ≤ idx) (h1 : idx < ns.length) (k : ∀ z, P (.int z)) : ∃ d, atI (ns.map D.int) idx = some d ∧ P d := by
  obtain ⟨j, rfl⟩ : ∃ j : Nat, idx = (j : Int) := ⟨idx.toNat, by omega⟩
  have hj : j < ns.length := by omega
  exact ⟨.int ns[j], atI_nat (by rw [List.getElem?_map, List.getElem?_eq_getElem hj]; rfl), k _⟩
theorem ok__law_pick {cx : CXT} (T : Txt P w K mg) : FnOk P w K mg base cx 1 T.f__law_pick T.d__law_pick ["_law_state", "_law_limit"] (spOf K c__law_pick) := by
  refine def_okC T.F__law_pick sc__law_pick _ (fun ds μ Φ Ψ h => len__law_pick h) (fun cdv A outer s H E B hW hr =>
    ⟨_, (pss_cons (ps_if (pt_cmpR op_ge (pe_ix ix_list (pv 0) pe_int (fun _ _ => rfl)) (pv 1) (nomark _)) (pss_cons (ps_set (i := 4) sc__law_pick.nd rfl (Or.inl rfl) (pe_callTy call_int1 (by rfl) T.z_int (by decide +kernel) (pa_cons (pe_ix ix_list (pv 0) pe_int (fun _ _ => rfl)) pa_nil)))
      (pss_cons (ps_asg (pe_op op_fdivW (pv 4) (pv 1)) (pg_sub (pv 0) pe_int set_list))
      (pss_one (ps_ret (pe_op op_mod (pv 4) (pv 1)))))) pss_nil)
      (pss_cons (ps_set (i := 2) sc__law_pick.nd rfl (Or.inl rfl) pe_int)
      (pss_cons (ps_if (pt_cmpR op_lt (pe_ix ix_list (pv 0) pe_int (fun _ _ => rfl)) (pe_callB call_len_seq (by rfl) T.z_len PySem.boot_len (pa_cons (pe_ix ix_list (pv 0) pe_int (fun _ _ => rfl)) pa_nil)) (nomark _)) (pss_cons (ps_set (i := 2) sc__law_pick.nd rfl (Or.inl rfl) (pe_callTy call_int1 (by rfl) T.z_int (by decide +kernel) (pa_cons (pe_ix ix_list (pe_ix ix_list (pv 0) pe_int (fun _ _ => rfl)) (pe_ix ix_list (pv 0) pe_int (fun _ _ => rfl)) (fun _ _ => rfl)) pa_nil)))
      (pss_cons (ps_asg (pe_op op_add (pe_ix ix_list (pv 0) pe_int (fun _ _ => rfl)) pe_int) (pg_sub (pv 0) pe_int set_list))
      (pss_cons (ps_if (pt_cmpR op_lt (pv 2) pe_int (nomark _)) (pss_one (ps_set (i := 2) sc__law_pick.nd rfl (Or.inl rfl) (pe_op op_sub pe_int (pv 2)))) pss_nil)
      (pss_one (ps_if (pt_cmpR op_ge (pv 2) (pe_op op_pow pe_int pe_int) (nomark _)) (pss_cons (ps_asg (pe_op op_fdivW (pv 2) (pv 1)) (pg_sub (pv 0) pe_int set_list))
      (pss_one (ps_ret (pe_op op_mod (pv 2) (pv 1))))) pss_nil))))) pss_nil)
      (pss_cons (ps_set (i := 3) sc__law_pick.nd rfl (Or.inl rfl) (pe_op op_mod (pe_op op_mulX (pe_op op_add (pe_op op_add (pe_callTy call_int1 (by rfl) T.z_int (by decide +kernel) (pa_cons (pe_ix ix_list (pv 0) pe_int (fun _ _ => rfl)) pa_nil)) (pe_op op_mod (pv 2) pe_int)) pe_int) pe_int) pe_int))
      (pss_cons (ps_asg (pe_op op_mod (pe_op op_add (pe_op op_mulX (pv 3) pe_int) pe_int) pe_int) (pg_sub (pv 0) pe_int set_list))
      (pss_one (ps_ret (pe_op op_mod (pe_op op_fdivW (pe_callTy call_int1 (by rfl) T.z_int (by decide +kernel) (pa_cons (pe_ix ix_list (pv 0) pe_int (fun _ _ => rfl)) pa_nil)) pe_int) (pv 1))))))))),
      (sSeq (sIfS (sTest (sOp roBl0 (sOp roIxL sVar sInt) sVar)) (sSeq (sAsg (sCB rcInt (sCons (sOp roIxL sVar sInt) sNil)) sName)
      (sSeq (sAsgS (sOp roInt sVar sVar) sVar sInt)
      (sRet (sOp roInt sVar sVar)))) sNext)
      (sSeq (sAsg sInt sName)
      (sSeq (sIfS (sTest (sOp roBl0 (sOp roIxL sVar sInt) (sCB rcLen (sCons (sOp roIxL sVar sInt) sNil)))) (sSeq (sAsg (sCB rcInt (sCons (sOp roIxL (sOp roIxL sVar sInt) (sOp roIxL sVar sInt)) sNil)) sName)
      (sSeq (sAsgS (sOp roInt0 (sOp roIxL sVar sInt) sInt) sVar sInt)
      (sSeq (sIfS (sTest (sOp roBl0 sVar sInt)) (sAsg (sOp roInt0 sInt sVar) sName) sNext)
      (sIfS (sTest (sOp roBl0 sVar (sOp roInt sInt sInt))) (sSeq (sAsgS (sOp roInt sVar sVar) sVar sInt)
      (sRet (sOp roInt sVar sVar))) sNext)))) sNext)
      (sSeq (sAsg (sOp roInt (sOp roInt (sOp roInt0 (sOp roInt0 (sCB rcInt (sCons (sOp roIxL sVar sInt) sNil)) (sOp roInt sVar sInt)) sInt) sInt) sInt) sName)
      (sSeq (sAsgS (sOp roInt (sOp roInt0 (sOp roInt sVar sInt) sInt) sInt) sVar sInt)
      (sRet (sOp roInt (sOp roInt (sCB rcInt (sCons (sOp roIxL sVar sInt) sNil)) sInt) sVar)))))))⟩) (fun ds μ Φ Ψ h => ?hv)
  case hv =>
    obtain ⟨st, ns, c, n, rfl, hc, ⟨seed, idx, rest, rfl, h1, h2, h3, h4⟩, hn, hl, h⟩ := h
    have hmod : ∀ a : Int, 0 ≤ a % n ∧ a % n < n := fun a => ⟨Int.emod_nonneg _ (by omega), Int.emod_lt_of_pos _ hn⟩
    have hM : ∀ a : Int, 0 ≤ a % 2147483647 ∧ a % 2147483647 < 2147483647 := fun a => ⟨Int.emod_nonneg _ (by omega), Int.emod_lt_of_pos _ (by omega)⟩
    -- what stands at the end, whatever the cell is
    have tail : ∀ (μ' : Sto) (cell idx' : Int) (x4 : Option D), (∀ c', sset μ' st (.lst c') = sset μ st (.lst c')) → μ' st = some (.lst [.int seed, .lst (ns.map .int), .int idx', .int rest]) → 0 ≤ idx' → (dSeq
      (dAsg
        (dOp (oI (fun x j => 0 < j) fun i j => D.int (i % j))
          (dOp (oI CMulX fun i j => D.int (i * j))
            (dOp (oI0 fun i j => D.int (i + j))
              (dOp (oI0 fun i j => D.int (i + j)) (dCB cInt (dCons (dOp oIxL (dVar 0) (dC (D.int 0))) dNil))
                (dOp (oI (fun x j => 0 < j) fun i j => D.int (i % j)) (dVar 2) (dC (D.int 2147483647))))
              (dC (D.int 1)))
            (dC (D.int 48271)))
          (dC (D.int 2147483647)))
        (eName 3))
      (dSeq
        (dAsgS
          (dOp (oI (fun x j => 0 < j) fun i j => D.int (i % j))
            (dOp (oI0 fun i j => D.int (i + j)) (dOp (oI CMulX fun i j => D.int (i * j)) (dVar 3) (dC (D.int 69621)))
              (dC (D.int 12345)))
            (dC (D.int 2147483647)))
          (dVar 0) (dC (D.int 0)))
        (dRet
          (dOp (oI (fun x j => 0 < j) fun i j => D.int (i % j))
            (dOp (oI CDivW fun i j => D.int (i / j)) (dCB cInt (dCons (dOp oIxL (dVar 0) (dC (D.int 0))) dNil))
              (dC (D.int 7)))
            (dVar 1))))) (goalX Ψ) (goalE Φ) [some (.hd (.ref st)), some (.int n), some (.int cell), none, x4] μ' := by
      intro μ' cell idx' x4 hs hc' hi'
      have b1 := hM cell
      have b2 := hM ((seed + cell % 2147483647 + 1) * 48271)
      have b3 := hM ((seed + cell % 2147483647 + 1) * 48271 % 2147483647 * 69621 + 12345)
      clear hM hc
      walk_at "wps"
      simp only [hc']
      walk_at "wp"
      simp only [hc']
      walk_at "wp"
      refine ⟨by decide, mulx 33 17 (by omega) (by decide) (by decide), by decide, mulx 31 18 (by omega) (by decide) (by decide), by decide, wide_div (b := 3) (by decide) (by decide) (by decide) (by decide), hn, ?_⟩
      rw [hs]
      exact ret_same (h _ _ (hmod _).1 (hmod _).2 ⟨_, _, _, rfl, b3.1, b3.2, hi', h4⟩)
    refine q_seq fun nx hnx => ?_
    walk_at "wp"
    simp only [hc]
    walk_at "wp"
    refine ⟨fun c1 => ?_, fun c1 => ?_⟩
    · walk_at "wps"
      simp only [hc]
      walk_at "wp"
      simp only [hc]
      walk_at "wp"
      exact ⟨⟨hn, hl⟩, hn, ret_same (h _ _ (hmod _).1 (hmod _).2 ⟨_, _, _, rfl, h1, h2, h3, Int.ediv_nonneg h4 (by omega)⟩)⟩
    · subst hnx
      refine q_seq fun nx hnx => ?_
      walk_at "wp"
      subst hnx
      refine q_seq fun nx hnx => ?_
      walk_at "wp"
      simp only [hc]
      walk_at "wp"
      refine ⟨fun c2 => ?_, fun c2 => ?_⟩
      · refine q_seq fun nx2 hnx2 => ?_
        walk_at "wp"
        simp only [hc]
        walk_at "wp"
        refine pick_cell h3 c2 fun z => ?_
        walk_at "wp"
        subst hnx2
        refine q_seq fun nx2 hnx2 => ?_
        walk_at "wp"
        simp only [hc]
        walk_at "wp"
        simp only [hc]
        walk_at "wp"
        subst hnx2
        have hc2 : sset μ st (.lst [.int seed, .lst (ns.map .int), .int (idx + 1), .int rest]) st = some (.lst [.int seed, .lst (ns.map .int), .int (idx + 1), .int rest]) := sset_same
        have fin : ∀ z : Int, 0 ≤ z → dIfS (dTest (dOp (oI0 fun i j => D.bl (decide (j ≤ i))) (dVar 2) (dOp (oI CPow fun i j => D.int (i ^ j.toNat)) (dC (D.int 10)) (dC (D.int 18))))) (dSeq (dAsgS (dOp (oI CDivW fun i j => D.int (i / j)) (dVar 2) (dVar 1)) (dVar 0) (dC (D.int 3))) (dRet (dOp (oI (fun x j => 0 < j) fun i j => D.int (i % j)) (dVar 2) (dVar 1)))) dNext
            (goalX Ψ) ⟨nx, (goalE Φ).rt, (goalE Φ).bk, (goalE Φ).ct⟩ [some (.hd (.ref st)), some (.int n), some (.int z), none, none] (sset μ st (.lst [.int seed, .lst (ns.map .int), .int (idx + 1), .int rest])) := by
          intro z hz
          walk_at "wp"
          refine ⟨⟨by decide, by decide, by decide⟩, fun c3 => ?_, fun c3 => ?_⟩
          · walk_at "wps"
            exact ⟨⟨hn, hl⟩, hn, ret_same (h _ _ (hmod _).1 (hmod _).2 ⟨_, _, _, rfl, h1, h2, by omega, Int.ediv_nonneg hz (by omega)⟩)⟩
          · subst hnx
            exact tail _ z (idx + 1) none (fun c' => sset_sset) sset_same (by omega)
        refine q_seq fun nx2 hnx2 => ?_
        walk_at "wp"
        subst hnx2
        refine ⟨fun c3 => ?_, fun c3 => ?_⟩
        · exact fin _ (by omega)
        · exact fin _ (by omega)
      · subst hnx
        exact tail μ 11 idx none (fun _ => rfl) hc h3
def c__law_start : Con := fun ds μ Φ _ => ∃ ns, ds = [.scr ns] ∧ ns.length ≤ 63 ∧ ∀ p c, μ p = none → StC ns c → Φ (.hd (.ref p)) (sset μ p (.lst c))
theorem len__law_start {ds μ Φ Ψ} (h : c__law_start ds μ Φ Ψ) : ds.length = 1 := by obtain ⟨i, rfl, _⟩ := h; rfl
theorem ok__law_start {cx : CXT} (T : Txt P w K mg) : FnOk P w K mg base cx 1 T.f__law_start T.d__law_start ["_law_script"] (spOf K c__law_start) := by
  refine def_okC T.F__law_start sc__law_start _ (fun ds μ Φ Ψ h => len__law_start h) (fun cdv A outer s H E B hW hr =>
    ⟨_, (pss_cons (ps_set (i := 1) sc__law_start.nd rfl (Or.inl rfl) pe_int)
      (pss_cons (ps_for (passes_of rfl) rfl (pi_range1 rfl T.z_range (pa_cons (pe_callB call_len_seq (by rfl) T.z_len PySem.boot_len (pa_cons (pv 0) pa_nil)) pa_nil)) (pg_name (i := 2) sc__law_start.nd rfl (Or.inl rfl)) (pss_one (ps_set (i := 1) sc__law_start.nd rfl (Or.inl rfl) (pe_op op_mod (pe_op op_add (pe_op op_add (pe_op op_add (pe_op op_mulX (pv 1) pe_int) (pe_op op_mod (pe_callTy call_int1 (by rfl) T.z_int (by decide +kernel) (pa_cons (pe_ix ix_list (pv 0) (pv 2) (fun _ _ => rfl)) pa_nil)) pe_int)) (pv 2)) pe_int) pe_int))))
      (pss_one (ps_ret (pe_lst (pa_cons (pv 1) (pa_cons (pe_callTy call_list_of (by rfl) T.z_list (by decide +kernel) (pa_cons (pv 0) pa_nil)) (pa_cons pe_int (pa_cons pe_int pa_nil))))))))),
      (sSeq (sAsg sInt sName)
      (sSeq (sFor (siR1 (sCB rcLen (sCons sVar sNil))) (fun _ _ _ => sName) (fun _ _ _ => (sAsg (sOp roInt (sOp roInt0 (sOp roInt0 (sOp roInt0 (sOp roInt sVar sInt) (sOp roInt (sCB rcInt (sCons (sOp roIxL sVar sVar) sNil)) sInt)) sVar) sInt) sInt) sName)))
      (sRet (sOwn (sCons sVar (sCons (sCB rcList (sCons sVar sNil)) (sCons sInt (sCons sInt sNil))))))))⟩) (fun ds μ Φ Ψ h => ?hv)
  case hv =>
    obtain ⟨ns, rfl, hl, h⟩ := h
    have hM : ∀ a : Int, 0 ≤ a % 2147483647 ∧ a % 2147483647 < 2147483647 := fun a => ⟨Int.emod_nonneg _ (by omega), Int.emod_lt_of_pos _ (by omega)⟩
    walk_at "wps"
    refine ⟨by omega, by omega, fun i δ' μ' => μ' = μ ∧ ∃ seed x, 0 ≤ seed ∧ seed < 2147483647 ∧ δ' = [some (.scr ns), some (.int seed), x], ⟨rfl, 7, none, by omega, by omega, rfl⟩, ?_, ?_⟩
    · rintro i d δ' μ' hi ⟨rfl, seed, x, h1, h2, rfl⟩
      obtain ⟨hj, rfl⟩ := rngD_get hi
      walk_at "wps"
      refine ⟨mulx 31 17 (by omega) (by decide) (by decide), .int ns[i], ?_, ?_⟩
      · exact atI_nat (by rw [List.getElem?_map, List.getElem?_eq_getElem hj]; rfl)
      · walk_at "wps"
        exact ⟨by decide, by decide, _, _, (hM _).1, (hM _).2, rfl⟩ -- (hM _).1, (hM _).2, rfl⟩
    · rintro δ' μ' ⟨rfl, seed, x, h1, h2, rfl⟩
      walk_at "wps"
      exact ⟨by decide, fun p hp => ret_same (h p _ hp ⟨seed, 0, 0, rfl, h1, h2, by omega, by omega⟩)⟩
mutual
/-- what the law compares: plain data -/
def plainD : D → Bool
  | .non => true
  | .bl _ => true
  | .int _ => true
  | .str _ => true
  | .tup ds => plainDs ds && decide (ds.length ≤ 100000)
  | _ => false
def plainDs : List D → Bool
  | [] => true
  | d :: ds => plainD d && plainDs ds
end
mutual
def depD : D → Nat
  | .tup ds => depDs ds + 1
  | _ => 1
def depDs : List D → Nat
  | [] => 0
  | d :: ds => max (depD d) (depDs ds)
end
mutual
def sameD : D → D → Bool
  | a, .tup ds => match a with
    | .tup es => sameDs es ds
    | _ => false
  | a, .non => match a with
    | .non => true
    | _ => false
  | a, .str s => match a with
    | .str t => decide (t = s)
    | _ => false
  | a, .bl s => match a with
    | .bl t => decide (t = s)
    | _ => false
  | a, .int s => match a with
    | .int t => decide (t = s)
    | _ => false
  | _, _ => false
def sameDs : List D → List D → Bool
  | [], [] => true
  | e :: es, d :: ds => sameD e d && sameDs es ds
  | _, _ => false
end
/-- what may be handed to it -/
def c__law_same : Nat → Con
  | 0 => fun _ _ _ _ => False
  | n + 1 => fun ds μ Φ _ => ∃ a d, ds = [a, d] ∧ plainD a = true ∧ plainD d = true ∧ depD d ≤ n + 1 ∧ Φ (.bl (sameD a d)) μ
theorem len__law_same {n ds μ Φ Ψ} (h : c__law_same n ds μ Φ Ψ) : ds.length = 2 := by
  cases n with
  | zero => exact h.elim
  | succ n => obtain ⟨i, _, rfl, _⟩ := h; rfl
theorem depD_pos (d : D) : 0 < depD d := by cases d <;> simp [depD]
theorem same_at {n a d μ Φ Ψ} (pa : plainD a = true) (pd : plainD d = true) (hd : depD d ≤ n) (h : Φ (.bl (sameD a d)) μ) : c__law_same n [a, d] μ Φ Ψ := by
  cases n with
  | zero => have := depD_pos d; omega
  | succ n => exact ⟨a, d, rfl, pa, pd, hd, h⟩
theorem plain_get : ∀ {ds : List D} {i : Nat} {d : D}, plainDs ds = true → ds[i]? = some d → plainD d = true
  | [], i, d, _, e => by cases e
  | x :: xs, 0, d, h, e => by cases e; simp [plainDs] at h; exact h.1
  | x :: xs, i + 1, d, h, e => by simp [plainDs] at h; exact plain_get h.2 e
theorem dep_get : ∀ {ds : List D} {i : Nat} {d : D}, ds[i]? = some d → depD d ≤ depDs ds
  | [], i, d, e => by cases e
  | x :: xs, 0, d, e => by cases e; simp only [depDs]; omega
  | x :: xs, i + 1, d, e => by have := dep_get (ds := xs) (i := i) e; simp only [depDs]; omega
theorem sameDs_len : ∀ {es ds : List D}, es.length ≠ ds.length → sameDs es ds = false
  | [], [], h => absurd rfl h
  | [], _ :: _, h => by simp [sameDs]
  | _ :: _, [], h => by simp [sameDs]
  | e :: es, d :: ds, h => by simp [sameDs]; intro _; exact sameDs_len (by simpa using h)
theorem sameDs_all : ∀ {es ds : List D}, es.length = ds.length → ((List.range ds.length).map fun i => sameD (es.getD i .non) (ds.getD i .non)).all id = sameDs es ds
  | [], [], h => by simp [sameDs]
  | [], _ :: _, h => by simp at h
  | _ :: _, [], h => by simp at h
  | e :: es, d :: ds, h => by
    have ih := sameDs_all (es := es) (ds := ds) (by simpa using h)
    rw [List.length_cons, List.range_succ_eq_map, List.map_cons, List.map_map, List.all_cons, sameDs, ← ih]
    rfl
theorem step__law_same (T : Txt P w K mg) {k : Nat} (hk : 0 ≤ k) (n : Nat) (ih__law_same : FnOk P w K mg base (L2N.CX P w) k T.f__law_same T.d__law_same ["_law_actual", "_law_due"] (spOf K (c__law_same n))) : FnOk P w K mg base (L2N.CX P w) (k + 1) T.f__law_same T.d__law_same ["_law_actual", "_law_due"] (spOf K (c__law_same (n + 1))) := by
  refine def_okC T.F__law_same sc__law_same _ (fun ds μ Φ Ψ h => len__law_same h) (fun cdv A outer s H E B hW hr =>
    have tk : L2N.Takes (cxOf (L2N.CX P w) P w K mg base N__law_same "_law_same" (defScope s__law_same) T.f__law_same cdv A outer s H E) (fun cls d _ H => E cls d H) := L2N.takes_of rfl rfl rfl rfl
    ⟨_, (pss_cons (ps_if (pt_val (pe_callB call_isi (by rfl) T.z_isinstance (by decide +kernel) (pa_cons (pv 1) (pa_cons (pe_bltn (v := .ty "tuple") rfl T.z_tuple (by decide +kernel) rfl) pa_nil)))) (pss_cons (ps_if (PW.pt (pw_or (pt_not (pt_val (pe_callB call_isi (by rfl) T.z_isinstance (by decide +kernel) (pa_cons (pv 0) (pa_cons (pe_bltn (v := .ty "tuple") rfl T.z_tuple (by decide +kernel) rfl) pa_nil))))) (pw_or1 (pt_cmpR op_ne (pe_callB call_len_seq (by rfl) T.z_len PySem.boot_len (pa_cons (pv 0) pa_nil)) (pe_callB call_len_seq (by rfl) T.z_len PySem.boot_len (pa_cons (pv 1) pa_nil)) (nomark _))))) (pss_one (ps_ret pe_bl)) pss_nil)
      (pss_one (ps_ret (pe_callB (cr_all rfl) (by rfl) T.z_all (by decide +kernel) (pa_cons (pe_lc (own := [("_law_p", 2)]) rfl sc__law_same.nd (pi_range1 rfl T.z_range (pa_cons (pe_callB call_len_seq (by rfl) T.z_len PySem.boot_len (pa_cons (pv 1) pa_nil)) pa_nil)) (blkOk_by (N := N__law_same) (sc := defScope s__law_same) (by decide +kernel)) (fun _ _ _ _ _ => (pg_name (i := 2) sc__law_same.nd rfl (Or.inl rfl))) (fun _ _ _ _ _ => pts_nil) (fun _ _ _ _ _ => (pe_call ih__law_same hr rfl T.g__law_same T.F__law_same.kp T.b__law_same .nil passN (pa_cons (pe_ix ix_tup (pv 0) (pv 2) (fun _ _ => rfl)) (pa_cons (pe_ix ix_tup (pv 1) (pv 2) (fun _ _ => rfl)) pa_nil))))) pa_nil))))) pss_nil)
      (pss_cons (ps_if (pt_cmpR op_isN (pv 1) pe_non (nomark _)) (pss_one (ps_ret (pe_cmpR op_isN (pv 0) pe_non (nomark _)))) pss_nil)
      (pss_cons (ps_if (pt_val (pe_callB call_isi (by rfl) T.z_isinstance (by decide +kernel) (pa_cons (pv 1) (pa_cons (pe_bltn (v := .ty "str") rfl T.z_str (by decide +kernel) rfl) pa_nil)))) (pss_one (ps_ret (pe_and (pe_callB call_isi (by rfl) T.z_isinstance (by decide +kernel) (pa_cons (pv 0) (pa_cons (pe_bltn (v := .ty "str") rfl T.z_str (by decide +kernel) rfl) pa_nil))) (pe_one (pe_cmpR op_eq (pv 0) (pv 1) (nomark _)))))) pss_nil)
      (pss_cons (ps_if (pt_val (pe_callB call_isi (by rfl) T.z_isinstance (by decide +kernel) (pa_cons (pv 1) (pa_cons (pe_bltn (v := .ty "bool") rfl T.z_bool (by decide +kernel) rfl) pa_nil)))) (pss_one (ps_ret (pe_and (pe_callB call_isi (by rfl) T.z_isinstance (by decide +kernel) (pa_cons (pv 0) (pa_cons (pe_bltn (v := .ty "bool") rfl T.z_bool (by decide +kernel) rfl) pa_nil))) (pe_one (pe_cmpR op_eq (pv 0) (pv 1) (nomark _)))))) pss_nil)
      (pss_one (ps_ret (pe_and (pe_callB call_isi (by rfl) T.z_isinstance (by decide +kernel) (pa_cons (pv 0) (pa_cons (pe_bltn (v := .ty "int") rfl T.z_int (by decide +kernel) rfl) pa_nil))) (pe_and (pe_not (pe_callB call_isi (by rfl) T.z_isinstance (by decide +kernel) (pa_cons (pv 0) (pa_cons (pe_bltn (v := .ty "bool") rfl T.z_bool (by decide +kernel) rfl) pa_nil)))) (pe_one (pe_cmpR op_eq (pv 0) (pv 1) (nomark _))))))))))),
      (sSeq (sIfS (sB (sCB (rcIsi (T := "tuple")) (sCons sVar (sCons sHd sNil)))) (sSeq (sIfS (sOr (sNot (sB (sCB (rcIsi (T := "tuple")) (sCons sVar (sCons sHd sNil))))) (sTest (sOp roNe (sCB rcLen (sCons sVar sNil)) (sCB rcLen (sCons sVar sNil))))) (sRet sBl) sNext)
      (sRet (sCB rcAll (sCons (sLc (siR1 (sCB rcLen (sCons sVar sNil))) (gwName List.mem_cons_self) (fun _ _ _ => sName) (fun _ _ _ => sYes) (fun _ _ _ => (sCall (sCons (sOp roIxT sVar sVar) (sCons (sOp roIxT sVar sVar) sNil))))) sNil)))) sNext)
      (sSeq (sIfS (sTest (sOp roIsN sVar sNon)) (sRet (sOp roIsN sVar sNon)) sNext)
      (sSeq (sIfS (sB (sCB (rcIsi (T := "str")) (sCons sVar (sCons sHd sNil)))) (sRet (sAndV (sCB (rcIsi (T := "str")) (sCons sVar (sCons sHd sNil))) (sOp roEq sVar sVar))) sNext)
      (sSeq (sIfS (sB (sCB (rcIsi (T := "bool")) (sCons sVar (sCons sHd sNil)))) (sRet (sAndV (sCB (rcIsi (T := "bool")) (sCons sVar (sCons sHd sNil))) (sOp roEq sVar sVar))) sNext)
      (sRet (sAndV (sCB (rcIsi (T := "int")) (sCons sVar (sCons sHd sNil))) (sAndV (sNotV (sCB (rcIsi (T := "bool")) (sCons sVar (sCons sHd sNil)))) (sOp roEq sVar sVar))))))))⟩) (fun ds μ Φ Ψ h => ?hv)
  case hv =>
    obtain ⟨a, d, rfl, pa, pd, hd, h⟩ := h
    cases d with
    | tup ds =>
      cases a with
      | tup es =>
        walk_at "wps"
        refine ⟨fun c => ?_, fun c => ?_⟩
        · have c : es.length ≠ ds.length := by intro z; rw [z] at c; simp at c
          rw [sameD, sameDs_len c] at h
          exact ret_same h
        · have c : es.length = ds.length := by simp at c; omega
          simp [plainD] at pa pd
          refine ⟨by omega, by omega, lcG_mapN (fun i => .bl (sameD (es.getD i .non) (ds.getD i .non))) (by rw [rngD_len]; omega) (fun i d μ2 X hi hsub hx => ?_) ?_⟩
          · obtain ⟨hj, rfl⟩ := rngD_get hi
            have h1 : es[i]? = some es[i] := List.getElem?_eq_getElem (by omega)
            have h2 : ds[i]? = some ds[i] := List.getElem?_eq_getElem (by omega)
            walk_at "wps"
            refine ⟨_, atI_n h1, ?_⟩
            walk_at "wps"
            refine ⟨_, atI_n h2, same_at (plain_get pa.1 h1) (plain_get pd.1 h2) (by have := dep_get h2; simp only [depD] at hd; omega) ?_⟩
            simpa [List.getD_eq_getElem?_getD, h1, h2] using hx
          · rw [rngD_len]
            refine w_allB (P := (List.range ds.length).map fun i => sameD (es.getD i .non) (ds.getD i .non)) (by rw [List.map_map]; rfl) (ret_same ?_)
            rw [sameDs_all c]
            exact h
      | non => walk_at "wps"; exact ret_same h
      | int i => walk_at "wps"; exact ret_same h
      | bl i => walk_at "wps"; exact ret_same h
      | str i => walk_at "wps"; exact ret_same h
      | _ => simp [plainD] at pa
    | non =>
      cases a with
      | tup es => walk_at "wps"; exact ret_same h
      | non => walk_at "wps"; exact ret_same h
      | int i => walk_at "wps"; exact ret_same h
      | bl i => walk_at "wps"; exact ret_same h
      | str i => walk_at "wps"; exact ret_same h
      | _ => simp [plainD] at pa
    | str t =>
      cases a with
      | tup es => walk_at "wps"; exact ret_same h
      | non => walk_at "wps"; exact ret_same h
      | int i => walk_at "wps"; exact ret_same h
      | bl i => walk_at "wps"; exact ret_same h
      | str i => walk_at "wps"; exact ret_same h
      | _ => simp [plainD] at pa
    | bl t =>
      cases a with
      | tup es => walk_at "wps"; exact ret_same h
      | non => walk_at "wps"; exact ret_same h
      | int i => walk_at "wps"; exact ret_same h
      | bl i => walk_at "wps"; exact ret_same h
      | str i => walk_at "wps"; exact ret_same h
      | _ => simp [plainD] at pa
    | int t =>
      cases a with
      | tup es => walk_at "wps"; exact ret_same h
      | non => walk_at "wps"; exact ret_same h
      | int i => walk_at "wps"; exact ret_same h
      | bl i => walk_at "wps"; exact ret_same h
      | str i => walk_at "wps"; exact ret_same h
      | _ => simp [plainD] at pa
    | _ => simp [plainD] at pd
def sdD (r : Rw) : D := .lst [.tup (r.h.map .int), .tup (r.c.map .int)]
theorem sd_eq (r : Rw) : sdD r = .lst [.tup (r.h.map .int), .tup (r.c.map .int)] := rfl
def c__law_entry : Con := fun ds μ Φ _ => ∃ (r : Rw) (n : Nat), ds = [sdD r, .int n] ∧ r.c ≠ [] ∧ Φ (.int (ent r n)) μ
theorem len__law_entry {ds μ Φ Ψ} (h : c__law_entry ds μ Φ Ψ) : ds.length = 2 := by obtain ⟨_, _, rfl, _⟩ := h; rfl
theorem ok__law_entry {cx : CXT} (T : Txt P w K mg) : FnOk P w K mg base cx 1 T.f__law_entry T.d__law_entry ["_law_said_here", "_law_place"] (spOf K c__law_entry) := by
  refine def_okC T.F__law_entry sc__law_entry _ (fun ds μ Φ Ψ h => len__law_entry h) (fun cdv A outer s H E B hW hr =>
    ⟨_, (pss_cons (ps_set (i := 2) sc__law_entry.nd rfl (Or.inl rfl) (pe_ix ix_list (pv 0) pe_int (fun _ _ => rfl)))
      (pss_cons (ps_set (i := 3) sc__law_entry.nd rfl (Or.inl rfl) (pe_ix ix_list (pv 0) pe_int (fun _ _ => rfl)))
      (pss_cons (ps_if (pt_cmpR op_lt (pv 1) (pe_callB call_len_seq (by rfl) T.z_len PySem.boot_len (pa_cons (pv 2) pa_nil)) (nomark _)) (pss_one (ps_ret (pe_ix ix_tup (pv 2) (pv 1) (fun _ _ => rfl)))) pss_nil)
      (pss_one (ps_ret (pe_ix ix_tup (pv 3) (pe_op op_mod (pe_callTy call_int1 (by rfl) T.z_int (by decide +kernel) (pa_cons (pe_op op_sub (pv 1) (pe_callB call_len_seq (by rfl) T.z_len PySem.boot_len (pa_cons (pv 2) pa_nil))) pa_nil)) (pe_callB call_len_seq (by rfl) T.z_len PySem.boot_len (pa_cons (pv 3) pa_nil))) (fun _ _ => rfl))))))),
      (sSeq (sAsg (sOp roIxL sVar sInt) sName)
      (sSeq (sAsg (sOp roIxL sVar sInt) sName)
      (sSeq (sIfS (sTest (sOp roBl0 sVar (sCB rcLen (sCons sVar sNil)))) (sRet (sOp roIxT sVar sVar)) sNext)
      (sRet (sOp roIxT sVar (sOp roInt (sCB rcInt (sCons (sOp roInt0 sVar (sCB rcLen (sCons sVar sNil))) sNil)) (sCB rcLen (sCons sVar sNil))))))))⟩) (fun ds μ Φ Ψ h => ?hv)
  case hv =>
    obtain ⟨r, n, rfl, hc, h⟩ := h
    rw [sd_eq]
    refine seq_cut fun M hM => ?_
    walk_at "wp"
    rw [hM]; clear hM M
    refine seq_cut fun M hM => ?_
    walk_at "wp"
    rw [hM]; clear hM M
    refine seq_cut fun M hM => ?_
    walk_at "wp"
    have hcn : 0 < r.c.length := List.length_pos_iff.mpr hc
    refine ⟨fun q => ⟨_, atI_nat (v := .int (ent r n)) ?_, ret_same h⟩, fun q => ?_⟩
    · have hn : n < r.h.length := by omega
      rw [List.getElem?_map, List.getElem?_eq_getElem hn]
      unfold ent
      rw [if_pos hn, List.getD_eq_getElem?_getD, List.getElem?_eq_getElem hn]; rfl
    · have hn : ¬ n < r.h.length := by omega
      have hm := Nat.mod_lt (n - r.h.length) hcn
      rw [hM]; clear hM M
      walk_at "wps"
      have em : ((n : Int) - (r.h.length : Int)) % (r.c.length : Int) = (((n - r.h.length) % r.c.length : Nat) : Int) := by
        rw [show (n : Int) - (r.h.length : Int) = ((n - r.h.length : Nat) : Int) by omega]; rfl
      rw [em]
      refine ⟨by omega, _, atI_nat (v := .int (ent r n)) ?_, ret_same h⟩
      rw [List.getElem?_map, self_at hm]
      unfold ent
      rw [if_neg hn, cyc_mod]; rfl
def c__law_least : Con := fun ds μ Φ _ => ∃ (r : Rw), ds = [sdD r] ∧ RwOk r ∧ ∀ a, IsLeast r a → Φ (sdD a) μ
theorem len__law_least {ds μ Φ Ψ} (h : c__law_least ds μ Φ Ψ) : ds.length = 1 := by obtain ⟨_, rfl, _⟩ := h; rfl
theorem ok__law_least {cx : CXT} (T : Txt P w K mg) : FnOk P w K mg base cx 2 T.f__law_least T.d__law_least ["_law_said_here"] (spOf K c__law_least) := by
  refine def_okC T.F__law_least sc__law_least _ (fun ds μ Φ Ψ h => len__law_least h) (fun cdv A outer s H E B hW hr =>
    ⟨_, (pss_cons (ps_set (i := 1) sc__law_least.nd rfl (Or.inl rfl) (pe_ix ix_list (pv 0) pe_int (fun _ _ => rfl)))
      (pss_cons (ps_set (i := 2) sc__law_least.nd rfl (Or.inl rfl) (pe_callB call_len_seq (by rfl) T.z_len PySem.boot_len (pa_cons (pv 1) pa_nil)))
      (pss_cons (ps_for (passes_of rfl) rfl (pi_range3 rfl T.z_range (pa_cons (pe_callB call_len_seq (by rfl) T.z_len PySem.boot_len (pa_cons (pv 1) pa_nil)) (pa_cons pe_int (pa_cons (pe_un un_neg pe_int) pa_nil)))) (pg_name (i := 3) sc__law_least.nd rfl (Or.inl rfl)) (pss_one (ps_if (pt_cmpR (op_eqD hr.units) (pe_op op_catN (pe_slice sl_tupN (pv 1) (po_some (pv 3)) po_none) (pe_slice sl_tupN (pv 1) po_none (po_some (pv 3)))) (pv 1) (nomark _)) (pss_one (ps_set (i := 2) sc__law_least.nd rfl (Or.inl rfl) (pv 3))) pss_nil)))
      (pss_cons (ps_set (i := 4) sc__law_least.nd rfl (Or.inr rfl) (pe_callB call_len_seq (by rfl) T.z_len PySem.boot_len (pa_cons (pe_ix ix_list (pv 0) pe_int (fun _ _ => rfl)) pa_nil)))
      (pss_cons (ps_for (passes_of rfl) rfl (pi_range3 rfl T.z_range (pa_cons (pe_op op_sub (pe_callB call_len_seq (by rfl) T.z_len PySem.boot_len (pa_cons (pe_ix ix_list (pv 0) pe_int (fun _ _ => rfl)) pa_nil)) pe_int) (pa_cons (pe_un un_neg pe_int) (pa_cons (pe_un un_neg pe_int) pa_nil)))) (pg_name (i := 5) sc__law_least.nd rfl (Or.inl rfl)) (pss_one (ps_if (PW.pt (pw_and (pt_cmpR op_eq (pv 4) (pe_op op_add (pv 5) pe_int) (nomark _)) (pw_and1 (pt_cmpR op_eq (pe_call (ok__law_entry T) hr rfl T.g__law_entry T.F__law_entry.kp T.b__law_entry .nil passN (pa_cons (pv 0) (pa_cons (pv 5) pa_nil))) (pe_call (ok__law_entry T) hr rfl T.g__law_entry T.F__law_entry.kp T.b__law_entry .nil passN (pa_cons (pv 0) (pa_cons (pe_op op_add (pv 5) (pv 2)) pa_nil))) (nomark _))))) (pss_one (ps_set (i := 4) sc__law_least.nd rfl (Or.inr rfl) (pv 5))) pss_nil)))
      (pss_one (ps_ret (pe_lst (pa_cons (pe_slice sl_tupN (pe_ix ix_list (pv 0) pe_int (fun _ _ => rfl)) po_none (po_some (pv 4))) (pa_cons (pe_callTy call_tupleN (by rfl) T.z_tuple (by decide +kernel) (pa_cons (pe_lc (own := [("_law_p", 5)]) rfl sc__law_least.nd (pi_range1 rfl T.z_range (pa_cons (pv 2) pa_nil)) (blkOk_by (N := N__law_least) (sc := defScope s__law_least) (by decide +kernel)) (fun _ _ _ _ _ => (pg_name (i := 5) sc__law_least.nd rfl (Or.inl rfl))) (fun _ _ _ _ _ => pts_nil) (fun _ _ _ _ _ => (pe_call (ok__law_entry T) hr rfl T.g__law_entry T.F__law_entry.kp T.b__law_entry .nil passN (pa_cons (pv 0) (pa_cons (pe_op op_add (pv 4) (pv 5)) pa_nil))))) pa_nil)) pa_nil)))))))))),
      (sSeq (sAsg (sOp roIxL sVar sInt) sName)
      (sSeq (sAsg (sCB rcLen (sCons sVar sNil)) sName)
      (sSeq (sFor (siR3 (sCB rcLen (sCons sVar sNil)) sInt (sUn ruInt sInt)) (fun _ _ _ => sName) (fun _ _ _ => (sIfS (sTest (sOp roEqD (sOp roCatT (sSlT sVar (sPart sVar) sNoPart) (sSlT sVar sNoPart (sPart sVar))) sVar)) (sAsg sVar sName) sNext)))
      (sSeq (sAsg (sCB rcLen (sCons (sOp roIxL sVar sInt) sNil)) sName)
      (sSeq (sFor (siR3 (sOp roInt0 (sCB rcLen (sCons (sOp roIxL sVar sInt) sNil)) sInt) (sUn ruInt sInt) (sUn ruInt sInt)) (fun _ _ _ => sName) (fun _ _ _ => (sIfS (sAnd (sTest (sOp roEq sVar (sOp roInt0 sVar sInt))) (sTest (sOp roEq (sCall (sCons sVar (sCons sVar sNil))) (sCall (sCons sVar (sCons (sOp roInt0 sVar sVar) sNil)))))) (sAsg sVar sName) sNext)))
      (sRet (sLst (sCons (sSlT (sOp roIxL sVar sInt) sNoPart (sPart sVar)) (sCons (sCB rcTuple (sCons (sLc (siR1 sVar) (gwName List.mem_cons_self) (fun _ _ _ => sName) (fun _ _ _ => sYes) (fun _ _ _ => (sCall (sCons sVar (sCons (sOp roInt0 sVar sVar) sNil))))) sNil)) sNil)))))))))⟩) (fun ds μ Φ Ψ h => ?hv)
  case hv =>
    obtain ⟨r, rfl, hr, h⟩ := h
    have hcn : 0 < r.c.length := List.length_pos_iff.mpr hr.c0
    have hcl := hr.cl
    have hhl := hr.hl
    obtain ⟨d, hd⟩ := minper_ex hr.c0
    have d1 := hd.d1
    have dn := hd.le hr.c0
    rw [sd_eq]
    refine seq_cut fun M hM => ?_
    walk_at "wp"
    rw [hM]; clear hM M
    refine seq_cut fun M hM => ?_
    walk_at "wp"
    rw [hM]; clear hM M
    refine seq_cut fun M hM => ?_
    walk_at "wp"
    refine ⟨_, _, rfl, rfl, by omega, fun i δ' μ' => ∃ (S : Nat) (x3 : Option D), μ' = μ ∧ δ' = [some (.lst [.tup (r.h.map .int), .tup (r.c.map .int)]), some (.tup (r.c.map .int)), some (.int S), x3, none, none] ∧ Per r.c S ∧ 1 ≤ S ∧ S ≤ r.c.length ∧ (∀ e, r.c.length - i < e → e < S → ¬ Per r.c e), ⟨r.c.length, none, rfl, rfl, per_len _, hcn, Nat.le_refl _, fun e h1 h2 => by omega⟩, ?_, ?_⟩
    · rintro i dd δ' μ' hi ⟨S, x3, rfl, rfl, hS, S1, Sn, hmin⟩
      obtain ⟨hi2, rfl⟩ := rngB_get hi
      have hi2 : i < r.c.length := by omega
      obtain ⟨e0, he0⟩ : ∃ e0, e0 = r.c.length - i := ⟨_, rfl⟩
      have ee : (r.c.length : Int) - (i : Int) = (e0 : Int) := by omega
      rw [ee]
      walk_at "wp"
      have ec : DW.cutD (r.c.map D.int) (some (e0 : Int)) none ++ (r.c.map D.int).take e0 = (rot r.c e0).map D.int := by
        unfold rot
        rw [cut_from, List.map_append, List.map_drop, List.map_take]
      have hrl : (DW.cutD (r.c.map D.int) (some (e0 : Int)) none).length + ((r.c.map D.int).take e0).length ≤ 100000 := by
        rw [cut_from, List.length_drop, List.length_take, List.length_map]; omega
      refine ⟨hrl, ?_⟩
      rw [ec]
      refine ⟨side_ints _, side_ints _, _, rfl, fun q => ?_, fun q => ?_⟩
      · rw [eqD_ints, decide_eq_true_eq, rot_per (by omega) hr.c0] at q
        exact ⟨e0, _, rfl, rfl, q, by omega, by omega, fun e h1 h2 => by omega⟩
      · rw [eqD_ints, decide_eq_false_iff_not, rot_per (by omega) hr.c0] at q
        refine ⟨S, _, rfl, rfl, hS, S1, Sn, fun e h1 h2 => ?_⟩
        by_cases z : e = e0
        · rw [z]; exact q
        · exact hmin e (by omega) h2
    · rintro δ' μ' ⟨S, x3, rfl, rfl, hS, S1, Sn, hmin⟩
      have hSd : S = d := MinPer.uniq ⟨S1, hS, fun e e1 e2 => hmin e (by omega) e2⟩ hd
      subst hSd
      rw [hM]; clear hM M
      refine seq_cut fun M hM => ?_
      walk_at "wp"
      rw [hM]; clear hM M
      refine seq_cut fun M hM => ?_
      walk_at "wp"
      refine ⟨_, _, rfl, rfl, by omega, fun i δ' μ2 => ∃ (Hd : Nat) (x5 : Option D), μ2 = μ' ∧ δ' = [some (.lst [.tup (r.h.map .int), .tup (r.c.map .int)]), some (.tup (r.c.map .int)), some (.int S), x3, some (.int Hd), x5] ∧ Hd ≤ r.h.length ∧ r.h.length - i ≤ Hd ∧ (∀ m, Hd ≤ m → m < r.h.length → ent r m = ent r (m + S)) ∧ (r.h.length - i < Hd → ent r (Hd - 1) ≠ ent r (Hd - 1 + S)), ⟨r.h.length, none, rfl, rfl, Nat.le_refl _, by omega, fun m h1 h2 => by omega, fun z => by omega⟩, ?_, ?_⟩
      · rintro i dd δ' μ2 hi ⟨Hd, x5, rfl, rfl, hH, hHi, hall, hstop⟩
        obtain ⟨hi2, rfl⟩ := rngB_get hi
        have hi2 : i < r.h.length := by omega
        obtain ⟨pp, hpp⟩ : ∃ pp, pp = r.h.length - 1 - i := ⟨_, rfl⟩
        have ee : (r.h.length : Int) - 1 - (i : Int) = (pp : Int) := by omega
        rw [ee]
        walk_at "wp"
        refine ⟨fun q => ⟨r, pp, rfl, hr.c0, r, pp + S, by rw [Int.natCast_add]; rfl, hr.c0, ?_⟩, fun q => ⟨Hd, some (.int pp), rfl, hH, by omega, hall, fun z => hstop (by omega)⟩⟩
        have hHp : Hd = pp + 1 := by omega
        walk_at "wp"
        refine ⟨fun q2 => ⟨pp, some (.int pp), rfl, by omega, by omega, fun m h1 h2 => ?_, fun z => by omega⟩, fun q2 => ⟨Hd, some (.int pp), rfl, hH, by omega, hall, fun z => ?_⟩⟩
        · by_cases z : m = pp
          · rw [z]; exact q2
          · exact hall m (by omega) h2
        · rw [hHp, Nat.add_sub_cancel]; exact q2
      · rintro δ' μ2 ⟨Hd, x5, rfl, rfl, hH, hHi, hall, hstop⟩
        have hil : IsLeast r (mkR (ent r) Hd S) := isleast_law hr.c0 hd hH hall fun q hq => by
          have := hstop (by omega)
          rw [show Hd - 1 = q by omega] at this
          exact this
        rw [hM]; clear hM M
        walk_at "wps"
        refine ⟨by omega, by omega, lcR (fun i => .int (ent r (Hd + i))) (by omega) (fun i μ3 X hi hsub hx => ?_) ?_⟩
        · walk_at "wp"
          exact ⟨r, Hd + i, by rw [Int.natCast_add]; rfl, hr.c0, hx⟩
        refine ⟨_, .lst _, by decide, ?_⟩
        have e1 : (r.h.map D.int).take Hd = (mkR (ent r) Hd S).h.map .int := by rw [← List.map_take, take_ent hH]; rfl
        have e2 : ((List.range S).map fun i => D.int (ent r (Hd + i))) = (mkR (ent r) Hd S).c.map .int := by unfold mkR; rw [List.map_map]; rfl
        rw [e1, e2]
        exact ret_same (h _ hil)
def c__law_after : Con := fun ds μ Φ _ => ∃ (r : Rw) (n : Nat), ds = [sdD r, .int n] ∧ r.c ≠ [] ∧ r.h.length ≤ 1000 ∧ r.c.length ≤ 1000 ∧ Φ (sdD (aft r n)) μ
theorem len__law_after {ds μ Φ Ψ} (h : c__law_after ds μ Φ Ψ) : ds.length = 2 := by obtain ⟨_, _, rfl, _⟩ := h; rfl
theorem ok__law_after {cx : CXT} (T : Txt P w K mg) : FnOk P w K mg base cx 1 T.f__law_after T.d__law_after ["_law_said_here", "_law_count"] (spOf K c__law_after) := by
  refine def_okC T.F__law_after sc__law_after _ (fun ds μ Φ Ψ h => len__law_after h) (fun cdv A outer s H E B hW hr =>
    ⟨_, (pss_cons (ps_set (i := 2) sc__law_after.nd rfl (Or.inl rfl) (pe_ix ix_list (pv 0) pe_int (fun _ _ => rfl)))
      (pss_cons (ps_set (i := 3) sc__law_after.nd rfl (Or.inl rfl) (pe_ix ix_list (pv 0) pe_int (fun _ _ => rfl)))
      (pss_cons (ps_if (pt_cmpR op_le (pv 1) (pe_callB call_len_seq (by rfl) T.z_len PySem.boot_len (pa_cons (pv 2) pa_nil)) (nomark _)) (pss_one (ps_ret (pe_lst (pa_cons (pe_slice sl_tupN (pv 2) (po_some (pv 1)) po_none) (pa_cons (pv 3) pa_nil))))) pss_nil)
      (pss_cons (ps_set (i := 4) sc__law_after.nd rfl (Or.inl rfl) (pe_op op_mod (pe_callTy call_int1 (by rfl) T.z_int (by decide +kernel) (pa_cons (pe_op op_sub (pv 1) (pe_callB call_len_seq (by rfl) T.z_len PySem.boot_len (pa_cons (pv 2) pa_nil))) pa_nil)) (pe_callB call_len_seq (by rfl) T.z_len PySem.boot_len (pa_cons (pv 3) pa_nil))))
      (pss_one (ps_ret (pe_lst (pa_cons (pe_tupN pa_nil) (pa_cons (pe_op op_catN (pe_slice sl_tupN (pv 3) (po_some (pv 4)) po_none) (pe_slice sl_tupN (pv 3) po_none (po_some (pv 4)))) pa_nil))))))))),
      (sSeq (sAsg (sOp roIxL sVar sInt) sName)
      (sSeq (sAsg (sOp roIxL sVar sInt) sName)
      (sSeq (sIfS (sTest (sOp roBl0 sVar (sCB rcLen (sCons sVar sNil)))) (sRet (sLst (sCons (sSlT sVar (sPart sVar) sNoPart) (sCons sVar sNil)))) sNext)
      (sSeq (sAsg (sOp roInt (sCB rcInt (sCons (sOp roInt0 sVar (sCB rcLen (sCons sVar sNil))) sNil)) (sCB rcLen (sCons sVar sNil))) sName)
      (sRet (sLst (sCons (sTup sNil) (sCons (sOp roCatT (sSlT sVar (sPart sVar) sNoPart) (sSlT sVar sNoPart (sPart sVar))) sNil))))))))⟩) (fun ds μ Φ Ψ h => ?hv)
  case hv =>
    obtain ⟨r, n, rfl, hc, hl, cl, h⟩ := h
    have hcn : 0 < r.c.length := List.length_pos_iff.mpr hc
    rw [sd_eq]
    refine seq_cut fun M hM => ?_
    walk_at "wp"
    rw [hM]; clear hM M
    refine seq_cut fun M hM => ?_
    walk_at "wp"
    rw [hM]; clear hM M
    refine seq_cut fun M hM => ?_
    walk_at "wp"
    refine ⟨fun q => ⟨by decide, ?_⟩, fun q => ?_⟩
    · have ha : aft r n = ⟨r.h.drop n, r.c⟩ := by unfold aft; rw [if_pos (by omega)]
      rw [ha] at h
      rw [show DW.cutD (r.h.map D.int) (some (n : Int)) none = (r.h.drop n).map D.int by rw [cut_from, List.map_drop]]
      exact ret_same h
    · have ha : aft r n = ⟨[], rot r.c ((n - r.h.length) % r.c.length)⟩ := by unfold aft; rw [if_neg (by omega)]
      rw [ha] at h
      rw [hM]; clear hM M
      refine seq_cut fun M hM => ?_
      walk_at "wp"
      have em : ((n : Int) - (r.h.length : Int)) % (r.c.length : Int) = (((n - r.h.length) % r.c.length : Nat) : Int) := by
        rw [show (n : Int) - (r.h.length : Int) = ((n - r.h.length : Nat) : Int) by omega]; rfl
      have hm := Nat.mod_lt (n - r.h.length) hcn
      rw [em]
      refine ⟨by omega, ?_⟩
      obtain ⟨s, hs⟩ : ∃ s, s = (n - r.h.length) % r.c.length := ⟨_, rfl⟩
      rw [← hs] at hm h ⊢
      rw [hM]; clear hM M
      walk_at "wps"
      have ec : DW.cutD (r.c.map D.int) (some (s : Int)) none ++ (r.c.map D.int).take s = (rot r.c s).map D.int := by
        unfold rot
        rw [cut_from, List.map_append, List.map_drop, List.map_take]
      refine ⟨by decide, by rw [cut_from, List.length_drop, List.length_take, List.length_map]; omega, by decide, ?_⟩
      rw [ec]
      exact ret_same h
theorem fn_never {P : Program} {w : World} {K : Fg} {mg : Str → Option Value} {base : Heap} {CX : CXT} {k : Nat} {f : Addr} {fd : FuncData} {ps : List Str} {c : Con} (h : ∀ ds μ Φ Ψ, ¬ c ds μ Φ Ψ) : FnOk P w K mg base CX k f fd ps (spOf K c) :=
  ⟨fun vs H Q E q => by obtain ⟨μ, ds, Φ, Ψ, _, _, hc, _⟩ := q; exact absurd hc (h _ _ _ _), fun A outer s H args us vs Q E _ _ _ _ q => by obtain ⟨μ, ds, Φ, Ψ, _, _, hc, _⟩ := q; exact absurd hc (h _ _ _ _)⟩
section
variable {P : Program} {w : World} {K : Fg} {mg : Str → Option Value} {base : Heap}
theorem okN__law_same (T : Txt P w K mg) : ∀ n, FnOk P w K mg base (L2N.CX P w) n T.f__law_same T.d__law_same ["_law_actual", "_law_due"] (spOf K (c__law_same n))
  | 0 => fn_never fun ds μ Φ Ψ h => h
  | n + 1 => step__law_same T (Nat.zero_le _) n (okN__law_same T n)
theorem ok__law_same (T : Txt P w K mg) : FnOk P w K mg base (L2N.CX P w) 8 T.f__law_same T.d__law_same ["_law_actual", "_law_due"] (spOf K (c__law_same 8)) := okN__law_same T 8
end
mutual
theorem same_refl : ∀ d : D, plainD d = true → sameD d d = true
  | .non, _ => rfl
  | .bl b, _ => by simp [sameD]
  | .int b, _ => by simp [sameD]
  | .str b, _ => by simp [sameD]
  | .tup ds, h => by
    simp only [plainD, Bool.and_eq_true] at h
    simp only [sameD]
    exact sames_refl ds h.1
  | .lst _, h => by simp [plainD] at h
  | .pr _, h => by simp [plainD] at h
  | .obj _ _ _, h => by simp [plainD] at h
  | .hd _, h => by simp [plainD] at h
  | .scr _, h => by simp [plainD] at h
theorem sames_refl : ∀ ds : List D, plainDs ds = true → sameDs ds ds = true
  | [], _ => rfl
  | d :: ds, h => by simp only [plainDs, Bool.and_eq_true] at h; simp only [sameDs, same_refl d h.1, sames_refl ds h.2, Bool.and_self]
end
theorem same_self {d : D} {μ : Sto} {Φ : DK} {Ψ : XD → Sto → Prop} (pd : plainD d = true) (hd : depD d ≤ 8) (h : Φ (.bl true) μ) : c__law_same 8 [d, d] μ Φ Ψ := same_at pd pd hd (by rw [same_refl d pd]; exact h)
theorem plainDs_ints : ∀ l : List Int, plainDs (l.map .int) = true
  | [] => rfl
  | a :: l => by simp only [List.map_cons, plainDs, plainD, plainDs_ints l, Bool.and_self]
theorem depDs_ints : ∀ l : List Int, depDs (l.map .int) ≤ 1
  | [] => by simp [depDs]
  | a :: l => by have := depDs_ints l; simp only [List.map_cons, depDs, depD]; omega
def c__law_is (C : Addr) : Con := fun ds μ Φ _ => ∃ (a b : Rw), ds = [rwO C a, sdD b] ∧ RwOk a ∧ RwOk b ∧ a = b ∧ Φ (.bl true) μ
theorem len__law_is {C ds μ Φ Ψ} (h : c__law_is C ds μ Φ Ψ) : ds.length = 2 := by obtain ⟨_, _, rfl, _⟩ := h; rfl
theorem ok__law_is (T : Txt P w K mg) : FnOk P w K mg base (L2N.CX P w) 9 T.f__law_is T.d__law_is ["_law_actual", "_law_said_here"] (spOf K (c__law_is T.c_Row)) := by
  refine def_okC T.F__law_is sc__law_is _ (fun ds μ Φ Ψ h => len__law_is h) (fun cdv A outer s H E B hW hr =>
    have tk : L2N.Takes (cxOf (L2N.CX P w) P w K mg base N__law_is "_law_is" (defScope s__law_is) T.f__law_is cdv A outer s H E) (fun cls d _ H => E cls d H) := L2N.takes_of rfl rfl rfl rfl
    ⟨_, (pss_cons (ps_if (pt_not (pt_val (pe_callB call_isi (by rfl) T.z_isinstance (by decide +kernel) (pa_cons (pv 0) (pa_cons (pe_glob (v := .ref T.c_Row) rfl T.g_Row rfl) pa_nil))))) (pss_one (ps_ret pe_bl)) pss_nil)
      (pss_one (ps_ret (pe_and (pe_call (ok__law_same T) (hr.mono (by decide)) rfl T.g__law_same T.F__law_same.kp T.b__law_same .nil passN (pa_cons (pe_fld (pv 0) rfl) (pa_cons (pe_ix ix_list (pv 1) pe_int (fun _ _ => rfl)) pa_nil))) (pe_one (pe_call (ok__law_same T) (hr.mono (by decide)) rfl T.g__law_same T.F__law_same.kp T.b__law_same .nil passN (pa_cons (pe_fld (pv 0) rfl) (pa_cons (pe_ix ix_list (pv 1) pe_int (fun _ _ => rfl)) pa_nil)))))))),
      (sSeq (sIfS (sNot (sB (sCB (rcIsiO T.ki_Row) (sCons sVar (sCons sHd sNil))))) (sRet sBl) sNext)
      (sRet (sAndV (sCall (sCons (sFldO (NS := NSA) (i := 0) T.cls_Row T.na_Row_head rfl (by decide) sVar) (sCons (sOp roIxL sVar sInt) sNil))) (sCall (sCons (sFldO (NS := NSA) (i := 1) T.cls_Row T.na_Row_cycle rfl (by decide) sVar) (sCons (sOp roIxL sVar sInt) sNil))))))⟩) (fun ds μ Φ Ψ h => ?hv)
  case hv =>
    obtain ⟨a, b, rfl, ha, hb, rfl, h⟩ := h
    have e1 : rwO T.c_Row a = D.obj T.c_Row NSA [.tup (a.h.map .int), .tup (a.c.map .int)] := rfl
    rw [sd_eq, e1]
    refine seq_cut fun M hM => ?_
    walk_at "wp"
    show M [some (.obj T.c_Row NSA [.tup (a.h.map .int), .tup (a.c.map .int)]), some (.lst [.tup (a.h.map .int), .tup (a.c.map .int)])] μ
    have hal := ha.hl
    have hac := ha.cl
    have ps : ∀ l : List Int, l.length ≤ 1000 → plainD (.tup (l.map .int)) = true := fun l hl => by
      simp only [plainD, plainDs_ints, List.length_map, Bool.true_and, decide_eq_true_eq]; omega
    have dp : ∀ l : List Int, depD (.tup (l.map .int)) ≤ 8 := fun l => by
      have := depDs_ints l
      simp only [depD]; omega
    rw [hM]; clear hM M
    walk_at "wps"
    exact same_self (ps _ hal) (dp _) ⟨true, rfl, fun _ => same_self (ps _ hac) (dp _) (ret_same h), nofun⟩
end
section
variable {P : Program} {w : World} {K : Fg} {mg : Str → Option Value} {base : Heap}
theorem lcNum {Ψ : XP} {Φ : DK} {n : Nat} {φ : DE} {δw : DEnv} {μ1 : Sto} {m lim : Nat} {st : Addr} {ns : List Int} {c : List D} (hm : m ≤ 1000) (hst : μ1 st = some (.lst c)) (h0 : StC ns c)
    (hs : ∀ (i : Nat) (μ2 : Sto) (X : DK) (c : List D), μ2 st = some (.lst c) → StC ns c → (∀ (y : Int) c', StC ns c' → 0 ≤ y → y < (lim : Int) → X (.int y) (sset μ2 st (.lst c'))) → φ Ψ (δw.set n (some (.int (i : Int)))) μ2 X)
    (hd : ∀ l c, NumOk m lim l → StC ns c → Φ (.lst (l.map .int)) (sset μ1 st (.lst c))) : LcG (eName n) dYes φ δw Ψ (rngD 0 m) μ1 Φ := by
  refine lcG_drawN (StC ns) (fun i acc => ∃ l : List Int, acc = l.map .int ∧ NumOk i lim l) (by rw [rngD_len]; omega) hst h0 ⟨[], rfl, rfl, by simp⟩ (fun i d μ2 X acc c2 hi hs2 sc ⟨l, e, hl⟩ hla hx => ?_) (fun acc c2 ⟨l, e, hl⟩ hla sc => ?_)
  · obtain ⟨hj, rfl⟩ := rngD_get hi
    rw [Int.zero_add]
    refine hs i μ2 X c2 hs2 sc fun y c' sc' y0 y1 => hx _ c' sc' ⟨l ++ [y], by rw [e, List.map_append]; rfl, by rw [List.length_append, hl.1]; rfl, fun z hz => ?_⟩
    rcases List.mem_append.mp hz with q | q
    · exact hl.2 z q
    · rw [List.mem_singleton.mp q]; exact ⟨y0, y1⟩
  · rw [rngD_len] at hl
    rw [e]
    exact hd l c2 hl sc
theorem log_small {n : Nat} (h : n ≤ 8000) : (n : Int).natAbs.log2 < 9000 := by rw [Int.natAbs_natCast]; have := Nat.log2_le_self n; omega
def c__law_lot : Con := fun ds μ Φ _ => ∃ (p : Addr) (ns : List Int) (c : List D) (m lim : Nat), ds = [.hd (.ref p), .int m, .int lim] ∧ μ p = some (.lst c) ∧ StC ns c ∧ m ≤ 1000 ∧ 1 ≤ lim ∧ lim ≤ 1000000000000 ∧ ∀ r c', NumOk m lim r → StC ns c' → Φ (.tup (r.map .int)) (sset μ p (.lst c'))
theorem len__law_lot {ds μ Φ Ψ} (h : c__law_lot ds μ Φ Ψ) : ds.length = 3 := by obtain ⟨_, _, _, _, _, rfl, _⟩ := h; rfl
theorem log_mid {n : Nat} (h : n ≤ 1000000000000) : (n : Int).natAbs.log2 < 9000 := by
  rw [Int.natAbs_natCast]
  by_cases z : n = 0
  · subst z; decide
  · have := (Nat.log2_lt z (k := 41)).mpr (Nat.lt_of_le_of_lt h (by decide))
    omega
theorem ok__law_lot {cx : CXT} (T : Txt P w K mg) : FnOk P w K mg base cx 2 T.f__law_lot T.d__law_lot ["_law_state", "_law_size", "_law_top"] (spOf K c__law_lot) := by
  refine def_okC T.F__law_lot sc__law_lot _ (fun ds μ Φ Ψ h => len__law_lot h) (fun cdv A outer s H E B hW hr =>
    ⟨_, (pss_one (ps_ret (pe_callTy call_tupleN (by rfl) T.z_tuple (by decide +kernel) (pa_cons (pe_lc (own := [("_law_k", 3)]) rfl sc__law_lot.nd (pi_range1 rfl T.z_range (pa_cons (pv 1) pa_nil)) (blkOk_by (N := N__law_lot) (sc := defScope s__law_lot) (by decide +kernel)) (fun _ _ _ _ _ => (pg_name (i := 3) sc__law_lot.nd rfl (Or.inl rfl))) (fun _ _ _ _ _ => pts_nil) (fun _ _ _ _ _ => (pe_call (ok__law_pick T) hr rfl T.g__law_pick T.F__law_pick.kp T.b__law_pick .nil passN (pa_cons (pv 0) (pa_cons (pv 2) pa_nil))))) pa_nil)))),
      (sRet (sCB rcTuple (sCons (sLc (siR1 sVar) (gwName List.mem_cons_self) (fun _ _ _ => sName) (fun _ _ _ => sYes) (fun _ _ _ => (sCall (sCons sVar (sCons sVar sNil))))) sNil)))⟩) (fun ds μ Φ Ψ h => ?hv)
  case hv =>
    obtain ⟨p, ns, c, m, lim, rfl, hst, sc, hm, l1, l2, h⟩ := h
    walk_at "wps"
    refine ⟨by omega, by omega, lcNum (lim := lim) (ns := ns) (by omega) hst sc (fun i μ2 X c7 hs7 sc7 hx7 => ?_) (fun x c7 hx sc => ?_)⟩
    · walk_at "wps"
      exact ⟨p, ns, c7, lim, rfl, hs7, sc7, by omega, log_mid l2, fun y c8 y0 y1 sc8 => hx7 y c8 sc8 y0 y1⟩
    · exact ⟨_, .lst _, ret_same (h x c7 hx sc)⟩
/-- rows of the law: not long -/
structure Bd (r : Rw) (a b : Nat) : Prop where
  ok : RwOk r
  ha : r.h.length ≤ a
  cb : r.c.length ≤ b
theorem num_rw {m n lim : Nat} {h c : List Int} (hh : NumOk m lim h) (hc : NumOk n lim c) (n1 : 1 ≤ n) (m1 : m ≤ 1000) (n2 : n ≤ 1000) : Bd ⟨h, c⟩ m n :=
  ⟨⟨fun z => by have := hc.1; have z : c = [] := z; rw [z] at this; simp at this; omega, by show h.length ≤ 1000; rw [hh.1]; exact m1, by show c.length ≤ 1000; rw [hc.1]; exact n2, fun x hx => (hh.2 x hx).1, fun x hx => (hc.2 x hx).1⟩, Nat.le_of_eq hh.1, Nat.le_of_eq hc.1⟩
def c__law_drawn : Con := fun ds μ Φ _ => ∃ (p : Addr) (ns : List Int) (c : List D) (top : Nat), ds = [.hd (.ref p), .int top] ∧ μ p = some (.lst c) ∧ StC ns c ∧ 1 ≤ top ∧ top ≤ 1000000000000 ∧ ∀ r c', Bd r 8 12 → StC ns c' → Φ (sdD r) (sset μ p (.lst c'))
theorem len__law_drawn {ds μ Φ Ψ} (h : c__law_drawn ds μ Φ Ψ) : ds.length = 2 := by obtain ⟨_, _, _, _, rfl, _⟩ := h; rfl
theorem ok__law_drawn {cx : CXT} (T : Txt P w K mg) : FnOk P w K mg base cx 3 T.f__law_drawn T.d__law_drawn ["_law_state", "_law_top"] (spOf K c__law_drawn) := by
  refine def_okC T.F__law_drawn sc__law_drawn _ (fun ds μ Φ Ψ h => len__law_drawn h) (fun cdv A outer s H E B hW hr =>
    ⟨_, (pss_cons (ps_set (i := 2) sc__law_drawn.nd rfl (Or.inl rfl) (pe_call (ok__law_lot T) hr rfl T.g__law_lot T.F__law_lot.kp T.b__law_lot .nil passN (pa_cons (pv 0) (pa_cons (pe_ix ix_list (pe_lst (pa_cons pe_int (pa_cons pe_int (pa_cons pe_int (pa_cons pe_int (pa_cons pe_int (pa_cons pe_int pa_nil))))))) (pe_call (ok__law_pick T) (hr.mono (by decide)) rfl T.g__law_pick T.F__law_pick.kp T.b__law_pick .nil passN (pa_cons (pv 0) (pa_cons pe_int pa_nil))) (fun _ _ => rfl)) (pa_cons (pv 1) pa_nil)))))
      (pss_one (ps_ret (pe_lst (pa_cons (pv 2) (pa_cons (pe_call (ok__law_lot T) hr rfl T.g__law_lot T.F__law_lot.kp T.b__law_lot .nil passN (pa_cons (pv 0) (pa_cons (pe_op op_add pe_int (pe_call (ok__law_pick T) (hr.mono (by decide)) rfl T.g__law_pick T.F__law_pick.kp T.b__law_pick .nil passN (pa_cons (pv 0) (pa_cons (pe_ix ix_list (pe_lst (pa_cons pe_int (pa_cons pe_int (pa_cons pe_int (pa_cons pe_int (pa_cons pe_int pa_nil)))))) (pe_call (ok__law_pick T) (hr.mono (by decide)) rfl T.g__law_pick T.F__law_pick.kp T.b__law_pick .nil passN (pa_cons (pv 0) (pa_cons pe_int pa_nil))) (fun _ _ => rfl)) pa_nil)))) (pa_cons (pv 1) pa_nil)))) pa_nil)))))),
      (sSeq (sAsg (sCall (sCons sVar (sCons (sOp roIxL (sLst (sCons sInt (sCons sInt (sCons sInt (sCons sInt (sCons sInt (sCons sInt sNil))))))) (sCall (sCons sVar (sCons sInt sNil)))) (sCons sVar sNil)))) sName)
      (sRet (sLst (sCons sVar (sCons (sCall (sCons sVar (sCons (sOp roInt0 sInt (sCall (sCons sVar (sCons (sOp roIxL (sLst (sCons sInt (sCons sInt (sCons sInt (sCons sInt (sCons sInt sNil)))))) (sCall (sCons sVar (sCons sInt sNil)))) sNil)))) (sCons sVar sNil)))) sNil)))))⟩) (fun ds μ Φ Ψ h => ?hv)
  case hv =>
    obtain ⟨p, ns, c, top, rfl, hst, sc, l1, l2, h⟩ := h
    refine seq_cut fun M hM => ?_
    walk_at "wp"
    refine ⟨by decide, p, ns, c, 6, rfl, hst, sc, by decide, by decide, fun y c1 y0 y1 sc => ?_⟩
    obtain ⟨m, hm, m8⟩ : ∃ m : Nat, atI [D.int 0, D.int 0, D.int 1, D.int 2, D.int 4, D.int 8] y = some (.int m) ∧ m ≤ 8 := by
      obtain ⟨q, rfl⟩ : ∃ q : Nat, y = (q : Int) := ⟨y.toNat, by omega⟩
      rcases (show q = 0 ∨ q = 1 ∨ q = 2 ∨ q = 3 ∨ q = 4 ∨ q = 5 by omega) with rfl | rfl | rfl | rfl | rfl | rfl
      · exact ⟨0, atI_nat (j := 0) rfl, by decide⟩
      · exact ⟨0, atI_nat (j := 1) rfl, by decide⟩
      · exact ⟨1, atI_nat (j := 2) rfl, by decide⟩
      · exact ⟨2, atI_nat (j := 3) rfl, by decide⟩
      · exact ⟨4, atI_nat (j := 4) rfl, by decide⟩
      · exact ⟨8, atI_nat (j := 5) rfl, by decide⟩
    walk_at "wp"
    refine ⟨_, hm, p, ns, c1, m, top, rfl, sset_same, sc, by omega, l1, l2, fun hd c2 hh sc => ?_⟩
    rw [sset_sset]
    rw [hM]; clear hM M
    walk_at "wps"
    refine ⟨by decide, p, ns, c2, 5, rfl, sset_same, sc, by decide, by decide, fun y c3 y0 y1 sc => ?_⟩
    rw [sset_sset]
    obtain ⟨n, hn, n1, n12⟩ : ∃ m : Nat, atI [D.int 1, D.int 2, D.int 3, D.int 6, D.int 12] y = some (.int m) ∧ 1 ≤ m ∧ m ≤ 12 := by
      obtain ⟨q, rfl⟩ : ∃ q : Nat, y = (q : Int) := ⟨y.toNat, by omega⟩
      rcases (show q = 0 ∨ q = 1 ∨ q = 2 ∨ q = 3 ∨ q = 4 by omega) with rfl | rfl | rfl | rfl | rfl
      · exact ⟨1, atI_nat (j := 0) rfl, by decide, by decide⟩
      · exact ⟨2, atI_nat (j := 1) rfl, by decide, by decide⟩
      · exact ⟨3, atI_nat (j := 2) rfl, by decide, by decide⟩
      · exact ⟨6, atI_nat (j := 3) rfl, by decide, by decide⟩
      · exact ⟨12, atI_nat (j := 4) rfl, by decide, by decide⟩
    walk_at "wps"
    refine ⟨_, hn, p, ns, c3, n, rfl, sset_same, sc, by omega, log_small (by omega), fun y c4 y0 y1 sc => ?_⟩
    rw [sset_sset]
    obtain ⟨s, hs, s1, s12⟩ : ∃ s : Nat, (1 : Int) + y = (s : Int) ∧ 1 ≤ s ∧ s ≤ 12 := ⟨(1 + y).toNat, by omega, by omega, by omega⟩
    walk_at "wps"
    rw [hs]
    refine ⟨p, ns, c4, s, top, rfl, sset_same, sc, by omega, l1, l2, fun cy c5 hc sc => ⟨by decide, ?_⟩⟩
    rw [sset_sset]
    have hb := num_rw hh hc s1 (by omega) (by omega)
    exact ret_same (h ⟨hd, cy⟩ c5 ⟨hb.ok, Nat.le_trans hb.ha m8, Nat.le_trans hb.cb s12⟩ sc)
def c__law_said : Con := fun ds μ Φ _ => ∃ (p : Addr) (ns : List Int) (c : List D) (r : Rw), ds = [.hd (.ref p), sdD r] ∧ μ p = some (.lst c) ∧ StC ns c ∧ Bd r 8 12 ∧ ∀ q c', Bd q 400 400 → StC ns c' → Φ (sdD q) (sset μ p (.lst c'))
theorem len__law_said {ds μ Φ Ψ} (h : c__law_said ds μ Φ Ψ) : ds.length = 2 := by obtain ⟨_, _, _, _, rfl, _⟩ := h; rfl
theorem ok__law_said {cx : CXT} (T : Txt P w K mg) : FnOk P w K mg base cx 3 T.f__law_said T.d__law_said ["_law_state", "_law_base"] (spOf K c__law_said) := by
  refine def_okC T.F__law_said sc__law_said _ (fun ds μ Φ Ψ h => len__law_said h) (fun cdv A outer s H E B hW hr =>
    ⟨_, (pss_cons (ps_set (i := 2) sc__law_said.nd rfl (Or.inr rfl) (pe_ix ix_list (pv 1) pe_int (fun _ _ => rfl)))
      (pss_cons (ps_set (i := 3) sc__law_said.nd rfl (Or.inl rfl) (pe_call (ok__law_pick T) (hr.mono (by decide)) rfl T.g__law_pick T.F__law_pick.kp T.b__law_pick .nil passN (pa_cons (pv 0) (pa_cons (pe_ix ix_list (pe_lst (pa_cons pe_int (pa_cons (pe_op op_add pe_int (pe_callB call_len_seq (by rfl) T.z_len PySem.boot_len (pa_cons (pv 2) pa_nil))) (pa_cons (pe_op op_add pe_int (pe_op op_mulX pe_int (pe_callB call_len_seq (by rfl) T.z_len PySem.boot_len (pa_cons (pv 2) pa_nil)))) pa_nil)))) (pe_call (ok__law_pick T) (hr.mono (by decide)) rfl T.g__law_pick T.F__law_pick.kp T.b__law_pick .nil passN (pa_cons (pv 0) (pa_cons pe_int pa_nil))) (fun _ _ => rfl)) pa_nil))))
      (pss_cons (ps_set (i := 4) sc__law_said.nd rfl (Or.inl rfl) (pe_op op_mod (pe_callTy call_int1 (by rfl) T.z_int (by decide +kernel) (pa_cons (pv 3) pa_nil)) (pe_callB call_len_seq (by rfl) T.z_len PySem.boot_len (pa_cons (pv 2) pa_nil))))
      (pss_cons (ps_set (i := 5) sc__law_said.nd rfl (Or.inl rfl) (pe_op op_catN (pe_ix ix_list (pv 1) pe_int (fun _ _ => rfl)) (pe_callTy call_tupleN (by rfl) T.z_tuple (by decide +kernel) (pa_cons (pe_lc (own := [("_law_p", 6)]) rfl sc__law_said.nd (pi_range1 rfl T.z_range (pa_cons (pv 3) pa_nil)) (blkOk_by (N := N__law_said) (sc := defScope s__law_said) (by decide +kernel)) (fun _ _ _ _ _ => (pg_name (i := 6) sc__law_said.nd rfl (Or.inl rfl))) (fun _ _ _ _ _ => pts_nil) (fun _ _ _ _ _ => (pe_ix ix_tup (pv 2) (pe_op op_mod (pe_callTy call_int1 (by rfl) T.z_int (by decide +kernel) (pa_cons (pv 6) pa_nil)) (pe_callB call_len_seq (by rfl) T.z_len PySem.boot_len (pa_cons (pv 2) pa_nil))) (fun _ _ => rfl)))) pa_nil))))
      (pss_one (ps_ret (pe_lst (pa_cons (pv 5) (pa_cons (pe_op op_repA (pe_op op_catN (pe_slice sl_tupN (pv 2) (po_some (pv 4)) po_none) (pe_slice sl_tupN (pv 2) po_none (po_some (pv 4)))) (pe_op op_add pe_int (pe_call (ok__law_pick T) (hr.mono (by decide)) rfl T.g__law_pick T.F__law_pick.kp T.b__law_pick .nil passN (pa_cons (pv 0) (pa_cons pe_int pa_nil))))) pa_nil))))))))),
      (sSeq (sAsg (sOp roIxL sVar sInt) sName)
      (sSeq (sAsg (sCall (sCons sVar (sCons (sOp roIxL (sLst (sCons sInt (sCons (sOp roInt0 sInt (sCB rcLen (sCons sVar sNil))) (sCons (sOp roInt0 sInt (sOp roInt sInt (sCB rcLen (sCons sVar sNil)))) sNil)))) (sCall (sCons sVar (sCons sInt sNil)))) sNil))) sName)
      (sSeq (sAsg (sOp roInt (sCB rcInt (sCons sVar sNil)) (sCB rcLen (sCons sVar sNil))) sName)
      (sSeq (sAsg (sOp roCatT (sOp roIxL sVar sInt) (sCB rcTuple (sCons (sLc (siR1 sVar) (gwName List.mem_cons_self) (fun _ _ _ => sName) (fun _ _ _ => sYes) (fun _ _ _ => (sOp roIxT sVar (sOp roInt (sCB rcInt (sCons sVar sNil)) (sCB rcLen (sCons sVar sNil)))))) sNil))) sName)
      (sRet (sLst (sCons sVar (sCons (sOp roRepT (sOp roCatT (sSlT sVar (sPart sVar) sNoPart) (sSlT sVar sNoPart (sPart sVar))) (sOp roInt0 sInt (sCall (sCons sVar (sCons sInt sNil))))) sNil))))))))⟩) (fun ds μ Φ Ψ h => ?hv)
  case hv =>
    obtain ⟨p, ns, c, r, rfl, hst, sc, hr, h⟩ := h
    have hcn : 0 < r.c.length := List.length_pos_iff.mpr hr.ok.c0
    have hcl := hr.cb
    have hhl := hr.ha
    rw [sd_eq]
    refine seq_cut fun M hM => ?_
    walk_at "wp"
    rw [hM]; clear hM M
    refine seq_cut fun M hM => ?_
    walk_at "wp"
    refine ⟨mulx 10 10 (by decide) (by omega) (by decide), by decide, p, ns, c, 3, rfl, hst, sc, by decide, by decide, fun y c1 y0 y1 sc => ?_⟩
    obtain ⟨lm, hlm, lm1, lm37⟩ : ∃ m : Nat, atI [D.int 1, D.int (1 + (r.c.length : Int)), D.int (1 + 3 * (r.c.length : Int))] y = some (.int m) ∧ 1 ≤ m ∧ m ≤ 37 := by
      obtain ⟨q, rfl⟩ : ∃ q : Nat, y = (q : Int) := ⟨y.toNat, by omega⟩
      rcases (show q = 0 ∨ q = 1 ∨ q = 2 by omega) with rfl | rfl | rfl
      · exact ⟨1, atI_nat (j := 0) rfl, by decide, by decide⟩
      · exact ⟨1 + r.c.length, atI_nat (j := 1) (by rw [Int.natCast_add]; rfl), by omega, by omega⟩
      · exact ⟨1 + 3 * r.c.length, atI_nat (j := 2) (by rw [Int.natCast_add, Int.natCast_mul]; rfl), by omega, by omega⟩
    walk_at "wp"
    refine ⟨_, hlm, p, ns, c1, lm, rfl, sset_same, sc, by omega, log_small (by omega), fun y c2 y0 y1 sc => ?_⟩
    rw [sset_sset]
    obtain ⟨ex, rfl⟩ : ∃ ex : Nat, y = (ex : Int) := ⟨y.toNat, by omega⟩
    rw [hM]; clear hM M
    refine seq_cut fun M hM => ?_
    walk_at "wp"
    have em : (ex : Int) % (r.c.length : Int) = ((ex % r.c.length : Nat) : Int) := rfl
    have hm := Nat.mod_lt ex hcn
    rw [em]
    refine ⟨by omega, ?_⟩
    obtain ⟨s, hs⟩ : ∃ s, s = ex % r.c.length := ⟨_, rfl⟩
    rw [← hs] at hm ⊢
    rw [hM]; clear hM M
    refine seq_cut fun M hM => ?_
    walk_at "wp"
    refine ⟨by omega, by omega, lcR (m := ex) (fun i => .int (cyc r.c i)) (by omega) (fun i μ2 X hi hsub hx => ?_) ?_⟩
    · walk_at "wp"
      have em2 : (i : Int) % (r.c.length : Int) = ((i % r.c.length : Nat) : Int) := rfl
      rw [em2]
      exact ⟨by omega, _, atI_nat (v := .int (cyc r.c i)) (by rw [List.getElem?_map, self_at (Nat.mod_lt _ hcn), cyc_mod]; rfl), hx⟩
    refine ⟨_, .lst _, ?_⟩
    obtain ⟨tl, htl⟩ : ∃ tl : List Int, tl = (List.range ex).map (cyc r.c) := ⟨_, rfl⟩
    have htll : tl.length = ex := by rw [htl]; simp
    have htl0 : ∀ x ∈ tl, 0 ≤ x := fun x hx => by
      rw [htl] at hx
      obtain ⟨i, _, rfl⟩ := List.mem_map.mp hx
      rw [← cyc_mod, cyc_lt (Nat.mod_lt _ hcn)]
      exact hr.ok.cp _ (List.getElem_mem _)
    rw [show ((List.range ex).map fun i => D.int (cyc r.c i)) = tl.map .int by rw [htl, List.map_map]; rfl]
    refine ⟨by rw [List.length_map]; omega, ?_⟩
    rw [← List.map_append]
    rw [hM]; clear hM M
    walk_at "wps"
    have ec : DW.cutD (r.c.map D.int) (some (s : Int)) none ++ (r.c.map D.int).take s = (rot r.c s).map D.int := by
      unfold rot
      rw [cut_from, List.map_append, List.map_drop, List.map_take]
    have hrl : (DW.cutD (r.c.map D.int) (some (s : Int)) none).length + ((r.c.map D.int).take s).length ≤ 100000 := by
      rw [cut_from, List.length_drop, List.length_take, List.length_map]; omega
    refine ⟨hrl, p, ns, c2, 3, rfl, sset_same, sc, by decide, by decide, fun y c3 y0 y1 sc => ?_⟩
    rw [sset_sset, ec]
    obtain ⟨g, hg, g1, g3⟩ : ∃ g : Nat, (1 : Int) + y = (g : Int) ∧ 1 ≤ g ∧ g ≤ 3 := ⟨(1 + y).toNat, by omega, by omega, by omega⟩
    walk_at "wps"
    rw [hg]
    have hrot := rot_len (c := r.c) (d := s) (by omega)
    have h0 : ∀ x ∈ rot r.c s, 0 ≤ x := fun x hx => by
      unfold rot at hx
      rcases List.mem_append.mp hx with q | q
      · exact hr.ok.cp x (List.mem_of_mem_drop q)
      · exact hr.ok.cp x (List.mem_of_mem_take q)
    refine ⟨by omega, by omega, by omega, by decide, ?_⟩
    obtain ⟨cy, hcy⟩ : ∃ cy, cy = (List.replicate g (rot r.c s)).flatten := ⟨_, rfl⟩
    have hcyl : cy.length = g * r.c.length := by rw [hcy]; simp [hrot]
    have hge : 1 * 1 ≤ g * r.c.length := Nat.mul_le_mul g1 hcn
    have hle : g * r.c.length ≤ 3 * 12 := Nat.mul_le_mul g3 hcl
    rw [Int.toNat_natCast, show (List.replicate g ((rot r.c s).map D.int)).flatten = cy.map .int by rw [hcy, List.map_flatten, List.map_replicate]]
    refine ret_same (h ⟨r.h ++ tl, cy⟩ c3 ⟨⟨fun z => ?_, ?_, ?_, fun x hx => ?_, fun x hx => ?_⟩, ?_, ?_⟩ sc)
    · have z : cy = [] := z
      rw [z] at hcyl; simp at hcyl; omega
    · show (r.h ++ tl).length ≤ 1000
      rw [List.length_append]; omega
    · show cy.length ≤ 1000
      omega
    · exact (List.mem_append.mp hx).elim (hr.ok.hp x) (htl0 x)
    · have hx : x ∈ cy := hx
      rw [hcy] at hx
      obtain ⟨l, hl, hxl⟩ := List.mem_flatten.mp hx
      rw [List.eq_of_mem_replicate hl] at hxl
      exact h0 x hxl
    · show (r.h ++ tl).length ≤ 400
      rw [List.length_append]; omega
    · show cy.length ≤ 400
      omega
def c__law_large : Con := fun ds μ Φ _ => ∃ (p : Addr) (ns : List Int) (c : List D) (r : Rw) (top : Nat), ds = [.hd (.ref p), sdD r, .int top] ∧ μ p = some (.lst c) ∧ StC ns c ∧ Bd r 8 12 ∧ 1 ≤ top ∧ top ≤ 1000000000000 ∧ ∀ q c', Bd q 400 400 → StC ns c' → Φ (sdD q) (sset μ p (.lst c'))
theorem len__law_large {ds μ Φ Ψ} (h : c__law_large ds μ Φ Ψ) : ds.length = 3 := by obtain ⟨_, _, _, _, _, rfl, _⟩ := h; rfl
theorem ok__law_large {cx : CXT} (T : Txt P w K mg) : FnOk P w K mg base cx 3 T.f__law_large T.d__law_large ["_law_state", "_law_base", "_law_top"] (spOf K c__law_large) := by
  refine def_okC T.F__law_large sc__law_large _ (fun ds μ Φ Ψ h => len__law_large h) (fun cdv A outer s H E B hW hr =>
    ⟨_, (pss_cons (ps_set (i := 3) sc__law_large.nd rfl (Or.inl rfl) (pe_call (ok__law_lot T) hr rfl T.g__law_lot T.F__law_lot.kp T.b__law_lot .nil passN (pa_cons (pv 0) (pa_cons (pe_ix ix_list (pe_lst (pa_cons pe_int (pa_cons pe_int (pa_cons pe_int (pa_cons pe_int (pa_cons pe_int (pa_cons pe_int (pa_cons pe_int (pa_cons pe_int (pa_cons pe_int (pa_cons pe_int pa_nil))))))))))) (pe_call (ok__law_pick T) (hr.mono (by decide)) rfl T.g__law_pick T.F__law_pick.kp T.b__law_pick .nil passN (pa_cons (pv 0) (pa_cons pe_int pa_nil))) (fun _ _ => rfl)) (pa_cons (pv 2) pa_nil)))))
      (pss_cons (ps_set (i := 3) sc__law_large.nd rfl (Or.inl rfl) (pe_op op_repA (pv 3) (pe_op op_fdivW pe_int (pe_callB (call_max2 rfl) (by rfl) T.z_max (by decide +kernel) (pa_cons pe_int (pa_cons (pe_callB call_len_seq (by rfl) T.z_len PySem.boot_len (pa_cons (pv 3) pa_nil)) pa_nil))))))
      (pss_cons (ps_set (i := 4) sc__law_large.nd rfl (Or.inl rfl) (pe_op op_sub pe_int (pe_callB call_len_seq (by rfl) T.z_len PySem.boot_len (pa_cons (pe_ix ix_list (pv 1) pe_int (fun _ _ => rfl)) pa_nil))))
      (pss_cons (ps_set (i := 5) sc__law_large.nd rfl (Or.inl rfl) (pv 4))
      (pss_one (ps_ret (pe_lst (pa_cons (pe_op op_catN (pe_ix ix_list (pv 1) pe_int (fun _ _ => rfl)) (pe_slice sl_tupN (pv 3) po_none (po_some (pv 4)))) (pa_cons (pe_op op_catN (pe_slice sl_tupN (pv 3) (po_some (pv 5)) po_none) (pe_slice sl_tupN (pv 3) po_none (po_some (pv 5)))) pa_nil))))))))),
      (sSeq (sAsg (sCall (sCons sVar (sCons (sOp roIxL (sLst (sCons sInt (sCons sInt (sCons sInt (sCons sInt (sCons sInt (sCons sInt (sCons sInt (sCons sInt (sCons sInt (sCons sInt sNil))))))))))) (sCall (sCons sVar (sCons sInt sNil)))) (sCons sVar sNil)))) sName)
      (sSeq (sAsg (sOp roRepT sVar (sOp roInt sInt (sCB rcMax2 (sCons sInt (sCons (sCB rcLen (sCons sVar sNil)) sNil))))) sName)
      (sSeq (sAsg (sOp roInt0 sInt (sCB rcLen (sCons (sOp roIxL sVar sInt) sNil))) sName)
      (sSeq (sAsg sVar sName)
      (sRet (sLst (sCons (sOp roCatT (sOp roIxL sVar sInt) (sSlT sVar sNoPart (sPart sVar))) (sCons (sOp roCatT (sSlT sVar (sPart sVar) sNoPart) (sSlT sVar sNoPart (sPart sVar))) sNil))))))))⟩) (fun ds μ Φ Ψ h => ?hv)
  case hv =>
    obtain ⟨p, ns, c, r, top, rfl, hst, sc, hr, l1, l2, h⟩ := h
    have hhl := hr.ha
    rw [sd_eq]
    refine seq_cut fun M hM => ?_
    walk_at "wp"
    refine ⟨by decide, p, ns, c, 10, rfl, hst, sc, by decide, by decide, fun y c1 y0 y1 sc => ?_⟩
    obtain ⟨m, hm, m1, m400⟩ : ∃ m : Nat, atI [D.int 1, D.int 2, D.int 4, D.int 5, D.int 8, D.int 10, D.int 16, D.int 20, D.int 25, D.int 400] y = some (.int m) ∧ 1 ≤ m ∧ m ≤ 400 ∧ 400 / m * m = 400 := by
      obtain ⟨q, rfl⟩ : ∃ q : Nat, y = (q : Int) := ⟨y.toNat, by omega⟩
      rcases (show q = 0 ∨ q = 1 ∨ q = 2 ∨ q = 3 ∨ q = 4 ∨ q = 5 ∨ q = 6 ∨ q = 7 ∨ q = 8 ∨ q = 9 by omega) with rfl | rfl | rfl | rfl | rfl | rfl | rfl | rfl | rfl | rfl
      · exact ⟨1, atI_nat (j := 0) rfl, by decide, by decide⟩
      · exact ⟨2, atI_nat (j := 1) rfl, by decide, by decide⟩
      · exact ⟨4, atI_nat (j := 2) rfl, by decide, by decide⟩
      · exact ⟨5, atI_nat (j := 3) rfl, by decide, by decide⟩
      · exact ⟨8, atI_nat (j := 4) rfl, by decide, by decide⟩
      · exact ⟨10, atI_nat (j := 5) rfl, by decide, by decide⟩
      · exact ⟨16, atI_nat (j := 6) rfl, by decide, by decide⟩
      · exact ⟨20, atI_nat (j := 7) rfl, by decide, by decide⟩
      · exact ⟨25, atI_nat (j := 8) rfl, by decide, by decide⟩
      · exact ⟨400, atI_nat (j := 9) rfl, by decide, by decide⟩
    walk_at "wp"
    refine ⟨_, hm, p, ns, c1, m, top, rfl, sset_same, sc, by omega, l1, l2, fun cy c2 hc sc => ?_⟩
    rw [sset_sset]
    rw [hM]; clear hM M
    refine seq_cut fun M hM => ?_
    walk_at "wp"
    have hcyl : cy.length = m := hc.1
    refine ⟨_, _, rfl, ?_⟩
    rw [hcyl, show (if (m : Int) > 1 then (m : Int) else 1) = (m : Int) by split <;> omega]
    walk_at "wp"
    have eq : ((400 : Int) / (m : Int)) = ((400 / m : Nat) : Int) := rfl
    have hq : 400 / m ≤ 400 := Nat.div_le_self _ _
    have hq2 : (((400 / m : Nat) : Int)) ≤ 1000 := Int.le_trans (Int.ofNat_le.mpr hq) (by decide)
    have hq3 : (-1000000 : Int) ≤ ((400 / m : Nat) : Int) := Int.le_trans (by decide) (Int.natCast_nonneg _)
    rw [eq]
    refine ⟨wide_div (b := 11) (by omega) (by rw [Int.natAbs_natCast]; exact Nat.lt_of_le_of_lt m400.1 (by decide)) (by decide) (by decide), hq2, hq3, by omega, ?_⟩
    obtain ⟨c4, hc4⟩ : ∃ c4, c4 = (List.replicate (400 / m) cy).flatten := ⟨_, rfl⟩
    have hc4l : c4.length = 400 := by rw [hc4]; simp [hcyl, m400.2]
    have hc40 : ∀ x ∈ c4, 0 ≤ x := fun x hx => by
      rw [hc4] at hx
      obtain ⟨l, hl, hxl⟩ := List.mem_flatten.mp hx
      rw [List.eq_of_mem_replicate hl] at hxl
      exact (hc.2 x hxl).1
    rw [Int.toNat_natCast, show (List.replicate (400 / m) (cy.map D.int)).flatten = c4.map .int by rw [hc4, List.map_flatten, List.map_replicate]]
    rw [hM]; clear hM M
    refine seq_cut fun M hM => ?_
    walk_at "wp"
    obtain ⟨fl, hfl⟩ : ∃ fl : Nat, fl = 390 - r.h.length := ⟨_, rfl⟩
    rw [show (390 : Int) - (r.h.length : Int) = (fl : Int) by omega]
    rw [hM]; clear hM M
    refine seq_cut fun M hM => ?_
    walk_at "wp"
    rw [hM]; clear hM M
    walk_at "wps"
    have ec : DW.cutD (c4.map D.int) (some (fl : Int)) none ++ (c4.map D.int).take fl = (rot c4 fl).map D.int := by
      unfold rot
      rw [cut_from, List.map_append, List.map_drop, List.map_take]
    refine ⟨by rw [List.length_take, List.length_map]; omega, by rw [cut_from, List.length_drop, List.length_take, List.length_map]; omega, by decide, ?_⟩
    rw [ec, ← List.map_take, ← List.map_append]
    have hrot := rot_len (c := c4) (d := fl) (by omega)
    refine ret_same (h ⟨r.h ++ c4.take fl, rot c4 fl⟩ c2 ⟨⟨fun z => ?_, ?_, ?_, fun x hx => ?_, fun x hx => ?_⟩, ?_, ?_⟩ sc)
    · have z := congrArg List.length (show rot c4 fl = [] from z)
      rw [hrot, List.length_nil] at z; omega
    · show (r.h ++ c4.take fl).length ≤ 1000
      rw [List.length_append, List.length_take]; omega
    · show (rot c4 fl).length ≤ 1000
      omega
    · exact (List.mem_append.mp hx).elim (hr.ok.hp x) fun q => hc40 x (List.mem_of_mem_take q)
    · have hx : x ∈ rot c4 fl := hx
      unfold rot at hx
      rcases List.mem_append.mp hx with q | q
      · exact hc40 x (List.mem_of_mem_drop q)
      · exact hc40 x (List.mem_of_mem_take q)
    · show (r.h ++ c4.take fl).length ≤ 400
      rw [List.length_append, List.length_take]; omega
    · show (rot c4 fl).length ≤ 400
      omega
def c__law_missed : Con := fun ds μ Φ _ => ∃ (p : Addr) (ns : List Int) (c : List D) (r : Rw), ds = [.hd (.ref p), sdD r] ∧ μ p = some (.lst c) ∧ StC ns c ∧ Bd r 400 400 ∧ ∀ q c', Bd q 400 400 → StC ns c' → Φ (sdD q) (sset μ p (.lst c'))
theorem len__law_missed {ds μ Φ Ψ} (h : c__law_missed ds μ Φ Ψ) : ds.length = 2 := by obtain ⟨_, _, _, _, rfl, _⟩ := h; rfl
theorem ok__law_missed {cx : CXT} (T : Txt P w K mg) : FnOk P w K mg base cx 3 T.f__law_missed T.d__law_missed ["_law_state", "_law_said_here"] (spOf K c__law_missed) := by
  refine def_okC T.F__law_missed sc__law_missed _ (fun ds μ Φ Ψ h => len__law_missed h) (fun cdv A outer s H E B hW hr =>
    ⟨_, (pss_cons (ps_set (i := 2) sc__law_missed.nd rfl (Or.inl rfl) (pe_op op_add (pe_callB call_len_seq (by rfl) T.z_len PySem.boot_len (pa_cons (pe_ix ix_list (pv 1) pe_int (fun _ _ => rfl)) pa_nil)) (pe_callB call_len_seq (by rfl) T.z_len PySem.boot_len (pa_cons (pe_ix ix_list (pv 1) pe_int (fun _ _ => rfl)) pa_nil))))
      (pss_cons (ps_set (i := 3) sc__law_missed.nd rfl (Or.inl rfl) (pe_call (ok__law_pick T) (hr.mono (by decide)) rfl T.g__law_pick T.F__law_pick.kp T.b__law_pick .nil passN (pa_cons (pv 0) (pa_cons (pv 2) pa_nil))))
      (pss_cons (ps_set (i := 4) sc__law_missed.nd rfl (Or.inl rfl) (pe_op op_catN (pe_ix ix_list (pv 1) pe_int (fun _ _ => rfl)) (pe_ix ix_list (pv 1) pe_int (fun _ _ => rfl))))
      (pss_cons (ps_set (i := 4) sc__law_missed.nd rfl (Or.inl rfl) (pe_op op_catN (pe_op op_catN (pe_slice sl_tupN (pv 4) po_none (po_some (pv 3))) (pe_tupN (pa_cons (pe_op op_add (pe_ix ix_tup (pv 4) (pv 3) (fun _ _ => rfl)) pe_int) pa_nil))) (pe_slice sl_tupN (pv 4) (po_some (pe_op op_add (pv 3) pe_int)) po_none)))
      (pss_one (ps_ret (pe_lst (pa_cons (pe_slice sl_tupN (pv 4) po_none (po_some (pe_callB call_len_seq (by rfl) T.z_len PySem.boot_len (pa_cons (pe_ix ix_list (pv 1) pe_int (fun _ _ => rfl)) pa_nil)))) (pa_cons (pe_slice sl_tupN (pv 4) (po_some (pe_callB call_len_seq (by rfl) T.z_len PySem.boot_len (pa_cons (pe_ix ix_list (pv 1) pe_int (fun _ _ => rfl)) pa_nil))) po_none) pa_nil))))))))),
      (sSeq (sAsg (sOp roInt0 (sCB rcLen (sCons (sOp roIxL sVar sInt) sNil)) (sCB rcLen (sCons (sOp roIxL sVar sInt) sNil))) sName)
      (sSeq (sAsg (sCall (sCons sVar (sCons sVar sNil))) sName)
      (sSeq (sAsg (sOp roCatT (sOp roIxL sVar sInt) (sOp roIxL sVar sInt)) sName)
      (sSeq (sAsg (sOp roCatT (sOp roCatT (sSlT sVar sNoPart (sPart sVar)) (sTup (sCons (sOp roInt0 (sOp roIxT sVar sVar) sInt) sNil))) (sSlT sVar (sPart (sOp roInt0 sVar sInt)) sNoPart)) sName)
      (sRet (sLst (sCons (sSlT sVar sNoPart (sPart (sCB rcLen (sCons (sOp roIxL sVar sInt) sNil)))) (sCons (sSlT sVar (sPart (sCB rcLen (sCons (sOp roIxL sVar sInt) sNil))) sNoPart) sNil))))))))⟩) (fun ds μ Φ Ψ h => ?hv)
  case hv =>
    obtain ⟨p, ns, c, r, rfl, hst, sc, hr, h⟩ := h
    have hcn : 0 < r.c.length := List.length_pos_iff.mpr hr.ok.c0
    have hhl := hr.ha
    have hcl := hr.cb
    rw [sd_eq]
    refine seq_cut fun M hM => ?_
    walk_at "wp"
    rw [hM]; clear hM M
    refine seq_cut fun M hM => ?_
    walk_at "wp"
    refine ⟨p, ns, c, ((r.h.length + r.c.length : Nat) : Int), by rw [Int.natCast_add], hst, sc, by omega, log_small (by omega), fun y c1 y0 y1 sc => ?_⟩
    obtain ⟨a, rfl⟩ : ∃ a : Nat, y = (a : Int) := ⟨y.toNat, by omega⟩
    have ha : a < r.h.length + r.c.length := by omega
    rw [hM]; clear hM M
    refine seq_cut fun M hM => ?_
    walk_at "wp"
    refine ⟨by omega, ?_⟩
    rw [← List.map_append]
    obtain ⟨l, hl⟩ : ∃ l, l = r.h ++ r.c := ⟨_, rfl⟩
    have hll : l.length = r.h.length + r.c.length := by rw [hl, List.length_append]
    have hl0 : ∀ x ∈ l, 0 ≤ x := fun x hx => by
      rw [hl] at hx
      exact (List.mem_append.mp hx).elim (hr.ok.hp x) (hr.ok.cp x)
    rw [← hl]
    rw [hM]; clear hM M
    refine seq_cut fun M hM => ?_
    walk_at "wp"
    have hal : a < l.length := by omega
    refine ⟨.int l[a], atI_nat (by rw [List.getElem?_map, List.getElem?_eq_getElem hal]; rfl), ?_⟩
    walk_at "wp"
    have hla := hl0 _ (List.getElem_mem hal)
    obtain ⟨v, hv⟩ : ∃ v, v = l[a] + 1 := ⟨_, rfl⟩
    rw [← hv]
    refine ⟨by decide, by rw [List.length_take, List.length_map]; omega, by simp only [List.length_append, List.length_take, List.length_drop, List.length_singleton, List.length_map]; omega, ?_⟩
    obtain ⟨l2, hl2⟩ : ∃ l2, l2 = l.take a ++ [v] ++ l.drop (a + 1) := ⟨_, rfl⟩
    have hl2l : l2.length = r.h.length + r.c.length := by rw [hl2]; simp only [List.length_append, List.length_take, List.length_drop, List.length_singleton]; omega
    have hl20 : ∀ x ∈ l2, 0 ≤ x := fun x hx => by
      rw [hl2] at hx
      rcases List.mem_append.mp hx with hx | hx
      · rcases List.mem_append.mp hx with hx | hx
        · exact hl0 x (List.mem_of_mem_take hx)
        · rw [List.mem_singleton.mp hx, hv]; omega
      · exact hl0 x (List.mem_of_mem_drop hx)
    rw [show (l.map D.int).take a ++ [D.int v] ++ (l.map D.int).drop (a + 1) = l2.map .int by rw [hl2]; simp only [List.map_append, List.map_take, List.map_drop, List.map_cons, List.map_nil]]
    rw [hM]; clear hM M
    walk_at "wps"
    rw [cut_from, ← List.map_take, ← List.map_drop]
    refine ⟨by decide, ?_⟩
    refine ret_same (h ⟨l2.take r.h.length, l2.drop r.h.length⟩ c1 ⟨⟨fun z => ?_, ?_, ?_, fun x hx => hl20 x (List.mem_of_mem_take hx), fun x hx => hl20 x (List.mem_of_mem_drop hx)⟩, ?_, ?_⟩ sc)
    · have z := congrArg List.length (show l2.drop r.h.length = [] from z)
      rw [List.length_drop, List.length_nil] at z
      omega
    · show (l2.take r.h.length).length ≤ 1000
      rw [List.length_take]; omega
    · show (l2.drop r.h.length).length ≤ 1000
      rw [List.length_drop]; omega
    · show (l2.take r.h.length).length ≤ 400
      rw [List.length_take]; omega
    · show (l2.drop r.h.length).length ≤ 400
      rw [List.length_drop]; omega
def c__law_far : Con := fun ds μ Φ _ => ∃ (p : Addr) (ns : List Int) (c : List D), ds = [.hd (.ref p)] ∧ μ p = some (.lst c) ∧ StC ns c ∧ ∀ (n : Nat) c', StC ns c' → Φ (.int n) (sset μ p (.lst c'))
theorem len__law_far {ds μ Φ Ψ} (h : c__law_far ds μ Φ Ψ) : ds.length = 1 := by obtain ⟨_, _, _, rfl, _⟩ := h; rfl
theorem ok__law_far {cx : CXT} (T : Txt P w K mg) : FnOk P w K mg base cx 2 T.f__law_far T.d__law_far ["_law_state"] (spOf K c__law_far) := by
  refine def_okC T.F__law_far sc__law_far _ (fun ds μ Φ Ψ h => len__law_far h) (fun cdv A outer s H E B hW hr =>
    ⟨_, (pss_cons (ps_set (i := 1) sc__law_far.nd rfl (Or.inl rfl) (pe_ix ix_list (pe_lst (pa_cons pe_int (pa_cons (pe_op op_pow pe_int pe_int) (pa_cons (pe_op op_pow pe_int pe_int) (pa_cons (pe_op op_pow pe_int pe_int) (pa_cons (pe_op op_pow pe_int pe_int) pa_nil)))))) (pe_call (ok__law_pick T) hr rfl T.g__law_pick T.F__law_pick.kp T.b__law_pick .nil passN (pa_cons (pv 0) (pa_cons pe_int pa_nil))) (fun _ _ => rfl)))
      (pss_one (ps_ret (pe_op op_add (pe_op op_mulX (pv 1) (pe_call (ok__law_pick T) hr rfl T.g__law_pick T.F__law_pick.kp T.b__law_pick .nil passN (pa_cons (pv 0) (pa_cons pe_int pa_nil)))) (pe_call (ok__law_pick T) hr rfl T.g__law_pick T.F__law_pick.kp T.b__law_pick .nil passN (pa_cons (pv 0) (pa_cons (pe_op op_pow pe_int pe_int) pa_nil))))))),
      (sSeq (sAsg (sOp roIxL (sLst (sCons sInt (sCons (sOp roInt sInt sInt) (sCons (sOp roInt sInt sInt) (sCons (sOp roInt sInt sInt) (sCons (sOp roInt sInt sInt) sNil)))))) (sCall (sCons sVar (sCons sInt sNil)))) sName)
      (sRet (sOp roInt0 (sOp roInt sVar (sCall (sCons sVar (sCons sInt sNil)))) (sCall (sCons sVar (sCons (sOp roInt sInt sInt) sNil))))))⟩) (fun ds μ Φ Ψ h => ?hv)
  case hv =>
    obtain ⟨p, ns, c, rfl, hst, sc, h⟩ := h
    refine seq_cut fun M hM => ?_
    walk_at "wp"
    have ok : ∀ n : Nat, n ≤ 39 → CPow 10 n := fun n hn => by
      refine ⟨Int.natCast_nonneg _, ?_, by decide⟩
      omega
    refine ⟨ok 3 (by decide), ok 9 (by decide), ok 18 (by decide), ok 39 (by decide), by decide, p, ns, c, 5, rfl, hst, sc, by decide, by decide, fun y c1 y0 y1 sc => ?_⟩
    obtain ⟨u, hu, ub⟩ : ∃ u : Nat, atI [D.int 0, D.int (10 ^ Int.toNat 3), D.int (10 ^ Int.toNat 9), D.int (10 ^ Int.toNat 18), D.int (10 ^ Int.toNat 39)] y = some (.int u) ∧ u ≤ 10 ^ 39 := by
      obtain ⟨q, rfl⟩ : ∃ q : Nat, y = (q : Int) := ⟨y.toNat, by omega⟩
      rcases (show q = 0 ∨ q = 1 ∨ q = 2 ∨ q = 3 ∨ q = 4 by omega) with rfl | rfl | rfl | rfl | rfl
      · exact ⟨0, atI_nat (j := 0) rfl, by decide⟩
      · exact ⟨10 ^ 3, atI_nat (j := 1) rfl, by decide⟩
      · exact ⟨10 ^ 9, atI_nat (j := 2) rfl, by decide⟩
      · exact ⟨10 ^ 18, atI_nat (j := 3) rfl, by decide⟩
      · exact ⟨10 ^ 39, atI_nat (j := 4) rfl, by decide⟩
    walk_at "wp"
    refine ⟨_, hu, ?_⟩
    rw [hM]; clear hM M
    walk_at "wps"
    refine ⟨p, ns, c1, 10, rfl, sset_same, sc, by decide, by decide, fun y c2 y0 y1 sc => ?_⟩
    rw [sset_sset]
    obtain ⟨v, rfl⟩ : ∃ v : Nat, y = (v : Int) := ⟨y.toNat, by omega⟩
    walk_at "wps"
    refine ⟨mulx 140 10 (by rw [Int.natAbs_natCast]; exact Nat.lt_of_le_of_lt ub (by decide)) (by omega) (by decide), ok 6 (by decide), p, ns, c2, 1000000, rfl, sset_same, sc, by decide, by decide, fun y c3 y0 y1 sc => ?_⟩
    rw [sset_sset]
    obtain ⟨z, rfl⟩ : ∃ z : Nat, y = (z : Int) := ⟨y.toNat, by omega⟩
    walk_at "wps"
    have e : (u : Int) * (v : Int) + (z : Int) = ((u * v + z : Nat) : Int) := by rw [Int.natCast_add, Int.natCast_mul]
    rw [e]
    exact ret_same (h _ c3 sc)
def c__law_spoilt : Con := fun ds μ Φ _ => ∃ (l : List Int) (a : Nat) (z : Int), ds = [.tup (l.map .int), .int a, .int z] ∧ l.length ≤ 1000 ∧ Φ (.tup ((l.take a ++ [z] ++ l.drop (a + 1)).map .int)) μ
theorem len__law_spoilt {ds μ Φ Ψ} (h : c__law_spoilt ds μ Φ Ψ) : ds.length = 3 := by obtain ⟨_, _, _, rfl, _⟩ := h; rfl
theorem ok__law_spoilt {cx : CXT} (T : Txt P w K mg) : FnOk P w K mg base cx 1 T.f__law_spoilt T.d__law_spoilt ["_law_entries", "_law_at", "_law_number"] (spOf K c__law_spoilt) := by
  refine def_okC T.F__law_spoilt sc__law_spoilt _ (fun ds μ Φ Ψ h => len__law_spoilt h) (fun cdv A outer s H E B hW hr =>
    ⟨_, (pss_one (ps_ret (pe_op op_catN (pe_op op_catN (pe_slice sl_tupN (pv 0) po_none (po_some (pv 1))) (pe_tupN (pa_cons (pv 2) pa_nil))) (pe_slice sl_tupN (pv 0) (po_some (pe_op op_add (pv 1) pe_int)) po_none)))),
      (sRet (sOp roCatT (sOp roCatT (sSlT sVar sNoPart (sPart sVar)) (sTup (sCons sVar sNil))) (sSlT sVar (sPart (sOp roInt0 sVar sInt)) sNoPart)))⟩) (fun ds μ Φ Ψ h => ?hv)
  case hv =>
    obtain ⟨l, a, z, rfl, hl, h⟩ := h
    walk_at "wps"
    refine ⟨by decide, by rw [List.length_take, List.length_map]; omega, by simp only [List.length_append, List.length_take, List.length_drop, List.length_singleton, List.length_map]; omega, ?_⟩
    rw [show (l.map D.int).take a ++ [D.int z] ++ (l.map D.int).drop (a + 1) = (l.take a ++ [z] ++ l.drop (a + 1)).map .int by simp only [List.map_append, List.map_take, List.map_drop, List.map_cons, List.map_nil]]
    exact ret_same h
end
section
variable {P : Program} {w : World} {K : Fg} {mg : Str → Option Value} {base : Heap}
theorem least_iff {r q a b : Rw} (ha : IsLeast r a) (hb : IsLeast q b) : (a.h = b.h ∧ a.c = b.c) ↔ ∀ i, ent r i = ent q i := by
  constructor
  · rintro ⟨e1, e2⟩ i
    have e : a = b := by cases a; cases b; simp only at e1 e2; rw [e1, e2]
    rw [← ha.ent_eq i, ← hb.ent_eq i, e]
  · intro h
    have e := ha.cong hb h
    rw [e]
    exact ⟨rfl, rfl⟩
def c__law_alike : Con := fun ds μ Φ _ => ∃ (r q : Rw), ds = [sdD r, sdD q] ∧ Bd r 400 400 ∧ Bd q 400 400 ∧ ∀ b : Bool, (b = true ↔ ∀ i, ent r i = ent q i) → Φ (.bl b) μ
theorem len__law_alike {ds μ Φ Ψ} (h : c__law_alike ds μ Φ Ψ) : ds.length = 2 := by obtain ⟨_, _, rfl, _⟩ := h; rfl
theorem ok__law_alike {cx : CXT} (T : Txt P w K mg) : FnOk P w K mg base cx 3 T.f__law_alike T.d__law_alike ["_law_first", "_law_second"] (spOf K c__law_alike) := by
  refine def_okC T.F__law_alike sc__law_alike _ (fun ds μ Φ Ψ h => len__law_alike h) (fun cdv A outer s H E B hW hr =>
    ⟨_, (pss_cons (ps_set (i := 2) sc__law_alike.nd rfl (Or.inl rfl) (pe_call (ok__law_least T) hr rfl T.g__law_least T.F__law_least.kp T.b__law_least .nil passN (pa_cons (pv 0) pa_nil)))
      (pss_cons (ps_set (i := 3) sc__law_alike.nd rfl (Or.inl rfl) (pe_call (ok__law_least T) hr rfl T.g__law_least T.F__law_least.kp T.b__law_least .nil passN (pa_cons (pv 1) pa_nil)))
      (pss_cons (ps_set (i := 4) sc__law_alike.nd rfl (Or.inl rfl) (pe_op op_add (pe_callB (call_max2 rfl) (by rfl) T.z_max (by decide +kernel) (pa_cons (pe_callB call_len_seq (by rfl) T.z_len PySem.boot_len (pa_cons (pe_ix ix_list (pv 2) pe_int (fun _ _ => rfl)) pa_nil)) (pa_cons (pe_callB call_len_seq (by rfl) T.z_len PySem.boot_len (pa_cons (pe_ix ix_list (pv 3) pe_int (fun _ _ => rfl)) pa_nil)) pa_nil))) (pe_op op_mulX (pe_callB call_len_seq (by rfl) T.z_len PySem.boot_len (pa_cons (pe_ix ix_list (pv 2) pe_int (fun _ _ => rfl)) pa_nil)) (pe_callB call_len_seq (by rfl) T.z_len PySem.boot_len (pa_cons (pe_ix ix_list (pv 3) pe_int (fun _ _ => rfl)) pa_nil)))))
      (pss_cons (ps_if (pt_cmpR op_gt (pe_op op_mulX (pe_callB call_len_seq (by rfl) T.z_len PySem.boot_len (pa_cons (pe_ix ix_list (pv 2) pe_int (fun _ _ => rfl)) pa_nil)) (pe_callB call_len_seq (by rfl) T.z_len PySem.boot_len (pa_cons (pe_ix ix_list (pv 3) pe_int (fun _ _ => rfl)) pa_nil))) pe_int (nomark _)) (pss_one (ps_set (i := 4) sc__law_alike.nd rfl (Or.inl rfl) (pe_op op_add (pe_op op_add (pe_callB (call_max2 rfl) (by rfl) T.z_max (by decide +kernel) (pa_cons (pe_callB call_len_seq (by rfl) T.z_len PySem.boot_len (pa_cons (pe_ix ix_list (pv 2) pe_int (fun _ _ => rfl)) pa_nil)) (pa_cons (pe_callB call_len_seq (by rfl) T.z_len PySem.boot_len (pa_cons (pe_ix ix_list (pv 3) pe_int (fun _ _ => rfl)) pa_nil)) pa_nil))) (pe_callB call_len_seq (by rfl) T.z_len PySem.boot_len (pa_cons (pe_ix ix_list (pv 2) pe_int (fun _ _ => rfl)) pa_nil))) (pe_callB call_len_seq (by rfl) T.z_len PySem.boot_len (pa_cons (pe_ix ix_list (pv 3) pe_int (fun _ _ => rfl)) pa_nil))))) pss_nil)
      (pss_one (ps_ret (pe_callB (cr_all rfl) (by rfl) T.z_all (by decide +kernel) (pa_cons (pe_lc (own := [("_law_p", 5)]) rfl sc__law_alike.nd (pi_range1 rfl T.z_range (pa_cons (pv 4) pa_nil)) (blkOk_by (N := N__law_alike) (sc := defScope s__law_alike) (by decide +kernel)) (fun _ _ _ _ _ => (pg_name (i := 5) sc__law_alike.nd rfl (Or.inl rfl))) (fun _ _ _ _ _ => pts_nil) (fun _ _ _ _ _ => (pe_cmpR op_eq (pe_call (ok__law_entry T) (hr.mono (by decide)) rfl T.g__law_entry T.F__law_entry.kp T.b__law_entry .nil passN (pa_cons (pv 0) (pa_cons (pv 5) pa_nil))) (pe_call (ok__law_entry T) (hr.mono (by decide)) rfl T.g__law_entry T.F__law_entry.kp T.b__law_entry .nil passN (pa_cons (pv 1) (pa_cons (pv 5) pa_nil))) (nomark _)))) pa_nil)))))))),
      (sSeq (sAsg (sCall (sCons sVar sNil)) sName)
      (sSeq (sAsg (sCall (sCons sVar sNil)) sName)
      (sSeq (sAsg (sOp roInt0 (sCB rcMax2 (sCons (sCB rcLen (sCons (sOp roIxL sVar sInt) sNil)) (sCons (sCB rcLen (sCons (sOp roIxL sVar sInt) sNil)) sNil))) (sOp roInt (sCB rcLen (sCons (sOp roIxL sVar sInt) sNil)) (sCB rcLen (sCons (sOp roIxL sVar sInt) sNil)))) sName)
      (sSeq (sIfS (sTest (sOp roBl0 (sOp roInt (sCB rcLen (sCons (sOp roIxL sVar sInt) sNil)) (sCB rcLen (sCons (sOp roIxL sVar sInt) sNil))) sInt)) (sAsg (sOp roInt0 (sOp roInt0 (sCB rcMax2 (sCons (sCB rcLen (sCons (sOp roIxL sVar sInt) sNil)) (sCons (sCB rcLen (sCons (sOp roIxL sVar sInt) sNil)) sNil))) (sCB rcLen (sCons (sOp roIxL sVar sInt) sNil))) (sCB rcLen (sCons (sOp roIxL sVar sInt) sNil))) sName) sNext)
      (sRet (sCB rcAll (sCons (sLc (siR1 sVar) (gwName List.mem_cons_self) (fun _ _ _ => sName) (fun _ _ _ => sYes) (fun _ _ _ => (sOp roEq (sCall (sCons sVar (sCons sVar sNil))) (sCall (sCons sVar (sCons sVar sNil)))))) sNil)))))))⟩) (fun ds μ Φ Ψ h => ?hv)
  case hv =>
    obtain ⟨r, q, rfl, hr, hq, h⟩ := h
    refine seq_cut fun M hM => ?_
    walk_at "wp"
    refine ⟨r, rfl, hr.ok, fun a ha => ?_⟩
    rw [hM]; clear hM M
    refine seq_cut fun M hM => ?_
    walk_at "wp"
    refine ⟨q, rfl, hq.ok, fun b hb => ?_⟩
    obtain ⟨oa, la1, la2⟩ := hr.ok.least ha
    obtain ⟨ob, lb1, lb2⟩ := hq.ok.least hb
    have r1 := hr.ha
    have r2 := hr.cb
    have q1 := hq.ha
    have q2 := hq.cb
    rw [sd_eq a, sd_eq b]
    rw [hM]; clear hM M
    refine seq_cut fun M hM => ?_
    walk_at "wp"
    obtain ⟨p1, d1, L1, ea⟩ := ha
    obtain ⟨p2, d2, L2, eb⟩ := hb
    have a1 : a.h.length = p1 := by rw [ea]; unfold mkR; simp
    have a2 : a.c.length = d1 := by rw [ea]; unfold mkR; simp
    have b1 : b.h.length = p2 := by rw [eb]; unfold mkR; simp
    have b2 : b.c.length = d2 := by rw [eb]; unfold mkR; simp
    rw [a1, a2, b1, b2]
    have hd1 := L1.d1
    have hd2 := L2.d1
    obtain ⟨P, hP, hP1, hP2, hP3⟩ : ∃ P : Nat, (if (p2 : Int) > (p1 : Int) then (p2 : Int) else (p1 : Int)) = (P : Int) ∧ p1 ≤ P ∧ p2 ≤ P ∧ P ≤ 400 := ⟨max p1 p2, by split <;> omega, by omega, by omega, by omega⟩
    refine ⟨_, _, rfl, mulx 10 10 (by omega) (by omega) (by decide), ?_⟩
    rw [hP]
    walk_at "wp"
    have em : (P : Int) + (d1 : Int) * (d2 : Int) = ((P + d1 * d2 : Nat) : Int) := by rw [Int.natCast_add, Int.natCast_mul]
    rw [em]
    have hs : ∀ m, P ≤ m → ent r (m + d1) = ent r m := fun m hm => L1.pp m (by omega)
    have ht : ∀ m, P ≤ m → ent q (m + d2) = ent q m := fun m hm => L2.pp m (by omega)
    rw [hM]; clear hM M
    refine seq_cut fun M hM => ?_
    have main : ∀ pl : Nat, pl ≤ 3000 → (pl = P + d1 * d2 ∨ pl = P + d1 + d2) → M [some (sdD r), some (sdD q), some (.lst [.tup (a.h.map .int), .tup (a.c.map .int)]), some (.lst [.tup (b.h.map .int), .tup (b.c.map .int)]), some (.int pl), none] μ := fun pl hpl hpp => by
      rw [hM]; clear hM M
      walk_at "wps"
      refine ⟨by omega, by omega, lcR (m := pl) (fun i => .bl (decide (ent r i = ent q i))) (by omega) (fun i μ2 X hi hsub hx => ?_) ?_⟩
      · walk_at "wp"
        refine ⟨r, i, rfl, hr.ok.c0, q, i, rfl, hq.ok.c0, ?_⟩
        walk_at "wp"
        exact hx
      refine w_allB (P := (List.range pl).map fun i => decide (ent r i = ent q i)) (by rw [List.map_map]; rfl) (ret_same (h _ ?_))
      rw [List.all_map, List.all_eq_true]
      constructor
      · intro hall i
        have hall : ∀ i, i < pl → ent r i = ent q i := fun i hi => of_decide_eq_true (hall i (List.mem_range.mpr hi))
        refine agree_all hd1 hd2 hs ht ?_ i
        rcases hpp with rfl | rfl
        · exact .inl hall
        · exact .inr hall
      · intro hall i _
        exact decide_eq_true (hall i)
    walk_at "wp"
    refine ⟨mulx 10 10 (by omega) (by omega) (by decide), ?_⟩
    walk_at "wp"
    rw [a1, a2, b1, b2]
    obtain ⟨Kd, hK⟩ : ∃ Kd, Kd = d1 * d2 := ⟨_, rfl⟩
    have hKi : (d1 : Int) * (d2 : Int) = (Kd : Int) := by rw [hK, Int.natCast_mul]
    rw [hKi]
    rw [← hK] at main ⊢
    refine ⟨fun _ => ⟨_, _, rfl, ?_⟩, fun z => main _ (by omega) (.inl rfl)⟩
    rw [hP]
    walk_at "wp"
    rw [show (P : Int) + (d1 : Int) + (d2 : Int) = ((P + d1 + d2 : Nat) : Int) by omega]
    exact main _ (by omega) (.inr rfl)
def c__law_ask (C O : Addr) : Con := fun ds μ Φ Ψ => ∃ (k : Nat) (r : Rw) (h c : List Int) (n : Int), ds = [.int k, rwO C r, .tup (h.map .int), .tup (c.map .int), .int n] ∧ RwOk r ∧ k ≤ 4 ∧ n ≤ 2000 ∧ h.length + r.h.length ≤ 1000 ∧ h.length ≤ 1000 ∧ c.length ≤ 1000 ∧
  (((k ≤ 2 ∧ n < 0) ∨ (k = 3 ∧ ¬ ∀ x ∈ h, 0 ≤ x) ∨ (k = 4 ∧ ¬ (c ≠ [] ∧ ∀ x ∈ h ++ c, 0 ≤ x))) → Ψ (.mk O none) μ) ∧
  ((k ≤ 2 ∧ 0 ≤ n) ∨ (k = 3 ∧ ∀ x ∈ h, 0 ≤ x) ∨ (k = 4 ∧ c ≠ [] ∧ ∀ x ∈ h ++ c, 0 ≤ x) → ∀ d, Φ d μ)
theorem len__law_ask {C O ds μ Φ Ψ} (h : c__law_ask C O ds μ Φ Ψ) : ds.length = 5 := by obtain ⟨_, _, _, _, _, rfl, _⟩ := h; rfl
theorem ok__law_ask (T : Txt P w K mg) : FnOk P w K mg base (L2N.CX P w) 7 T.f__law_ask T.d__law_ask ["_law_how", "_law_row", "_law_head", "_law_cycle", "_law_number"] (spOf K (c__law_ask T.c_Row T.c_OutOfRange)) := by
  refine def_okC T.F__law_ask sc__law_ask _ (fun ds μ Φ Ψ h => len__law_ask h) (fun cdv A outer s H E B hW hr =>
    have tk : L2N.Takes (cxOf (L2N.CX P w) P w K mg base N__law_ask "_law_ask" (defScope s__law_ask) T.f__law_ask cdv A outer s H E) (fun cls d _ H => E cls d H) := L2N.takes_of rfl rfl rfl rfl
    ⟨_, (pss_cons (ps_if (pt_cmpR op_eq (pv 0) pe_int (nomark _)) (pss_one (ps_ret (pe_getX T.me_Row___getitem__ T.fn_Row___getitem__ (ok_Row___getitem__ T) (hr.mono (by decide)) T.b_Row___getitem__ (fun σ => L2N.passAt tk σ) (pv 1) (pv 4) (fun _ _ => rfl)))) pss_nil)
      (pss_cons (ps_if (pt_cmpR op_eq (pv 0) pe_int (nomark _)) (pss_one (ps_ret (pe_methX (pl := _) (pv 1) T.cls_Row T.me_Row_start (ok_Row_start T) (hr.mono (by decide)) T.b_Row_start (fun σ => L2N.passAt tk σ) (pa_cons (pv 4) pa_nil)))) pss_nil)
      (pss_cons (ps_if (pt_cmpR op_eq (pv 0) pe_int (nomark _)) (pss_one (ps_ret (pe_methX (pl := _) (pv 1) T.cls_Row T.me_Row_after (ok_Row_after T) (hr.mono (by decide)) T.b_Row_after (fun σ => L2N.passAt tk σ) (pa_cons (pv 4) pa_nil)))) pss_nil)
      (pss_cons (ps_if (pt_cmpR op_eq (pv 0) pe_int (nomark _)) (pss_one (ps_ret (pe_methX (pl := _) (pv 1) T.cls_Row T.me_Row_lead (ok_Row_lead T) (hr.mono (by decide)) T.b_Row_lead (fun σ => L2N.passAt tk σ) (pa_cons (pv 2) pa_nil)))) pss_nil)
      (pss_one (ps_ret (pe_makeS T.mk_Row (ok_Row___init__ T) (hr.mono (by decide)) rfl T.g_Row T.b_Row___init__ (fun σ => L2N.passAt tk σ) (pa_cons (pv 2) (pa_cons (pv 3) pa_nil))))))))),
      (sSeq (sIfS (sTest (sOp roEq sVar sInt)) (sRet (sGetX (NS := NSA) (W := fun cls d _ H => E cls d H) (by exact hW) sVar sVar)) sNext)
      (sSeq (sIfS (sTest (sOp roEq sVar sInt)) (sRet (sMethXW (NS := NSA) (W := fun cls d _ H => E cls d H) (by decide) (by exact hW) sVar (sCons sVar sNil))) sNext)
      (sSeq (sIfS (sTest (sOp roEq sVar sInt)) (sRet (sMethXW (NS := NSA) (W := fun cls d _ H => E cls d H) (by decide) (by exact hW) sVar (sCons sVar sNil))) sNext)
      (sSeq (sIfS (sTest (sOp roEq sVar sInt)) (sRet (sMethXW (NS := NSA) (W := fun cls d _ H => E cls d H) (by decide) (by exact hW) sVar (sCons sVar sNil))) sNext)
      (sRet (sMakeSW (W := fun cls d _ H => E cls d H) (by exact hW) (sCons sVar (sCons sVar sNil))))))))⟩) (fun ds μ Φ Ψ h => ?hv)
  case hv =>
    obtain ⟨k, r, hh, c, n, rfl, hr, hk, hn, hl, hhl, cl, h1, h2⟩ := h
    have e1 : rwO T.c_Row r = D.obj T.c_Row NSA [.tup (r.h.map .int), .tup (r.c.map .int)] := rfl
    refine seq_cut fun M hM => ?_
    walk_at "wp"
    refine ⟨fun q => ?_, fun q0 => ?_⟩
    · have hk0 : k = 0 := by omega
      subst hk0
      refine ⟨_, e1, r, n, rfl, hr, fun z => ⟨_, Sub.refl, h1 (.inl ⟨by decide, z⟩)⟩, fun m hm => ret_same (h2 (.inl ⟨by decide, by omega⟩) _)⟩
    show M [some (.int k), some (rwO T.c_Row r), some (.tup (hh.map .int)), some (.tup (c.map .int)), some (.int n)] μ
    rw [hM]; clear hM M
    refine seq_cut fun M hM => ?_
    walk_at "wp"
    refine ⟨fun q => ?_, fun q1 => ?_⟩
    · have hk0 : k = 1 := by omega
      subst hk0
      exact ⟨_, e1, r, n, rfl, hr, fun z => ⟨_, Sub.refl, h1 (.inl ⟨by decide, z⟩)⟩, fun m hm _ => ret_same (h2 (.inl ⟨by decide, by omega⟩) _), hn⟩
    rw [hM]; clear hM M
    refine seq_cut fun M hM => ?_
    walk_at "wp"
    refine ⟨fun q => ?_, fun q2 => ?_⟩
    · have hk0 : k = 2 := by omega
      subst hk0
      exact ⟨_, e1, r, n, rfl, hr, fun z => ⟨_, Sub.refl, h1 (.inl ⟨by decide, z⟩)⟩, fun m a hm _ => ret_same (h2 (.inl ⟨by decide, by omega⟩) _)⟩
    rw [hM]; clear hM M
    refine seq_cut fun M hM => ?_
    walk_at "wp"
    refine ⟨fun q => ?_, fun q3 => ?_⟩
    · have hk0 : k = 3 := by omega
      subst hk0
      exact ⟨_, e1, r, hh, rfl, hr, hl, fun z => ⟨_, Sub.refl, h1 (.inr (.inl ⟨rfl, z⟩))⟩, fun z a _ => ret_same (h2 (.inr (.inl ⟨rfl, z⟩)) _)⟩
    have hk0 : k = 4 := by omega
    subst hk0
    rw [hM]; clear hM M
    walk_at "wps"
    intro y hy
    refine ⟨y, hh, c, rfl, hhl, cl, sset_same, fun z => ⟨_, Sub.set Sub.refl hy, h1 (.inr (.inr ⟨rfl, z⟩))⟩, fun z => ⟨rfl, NSA, _, sset_same, ?_⟩⟩
    rw [sset_sset, sdel_sset hy]
    exact ret_same (h2 (.inr (.inr ⟨rfl, z.c0, fun x hx => (List.mem_append.mp hx).elim (z.hp x) (z.cp x)⟩)) _)
end
section
variable {P : Program} {w : World} {K : Fg} {mg : Str → Option Value} {base : Heap}
def AskBad (k : Nat) (h c : List Int) (n : Int) : Prop := (k ≤ 2 ∧ n < 0) ∨ (k = 3 ∧ ¬ ∀ x ∈ h, 0 ≤ x) ∨ (k = 4 ∧ ¬ (c ≠ [] ∧ ∀ x ∈ h ++ c, 0 ≤ x))
def c__law_refused (C O : Addr) : Con := fun ds μ Φ _ => ∃ (k : Nat) (r : Rw) (h c : List Int) (n : Int), ds = [.int k, rwO C r, .tup (h.map .int), .tup (c.map .int), .int n] ∧ RwOk r ∧ k ≤ 4 ∧ n ≤ 2000 ∧ h.length + r.h.length ≤ 1000 ∧ h.length ≤ 1000 ∧ c.length ≤ 1000 ∧
  (AskBad k h c n → Φ (.str "range") μ) ∧
  ((k ≤ 2 ∧ 0 ≤ n) ∨ (k = 3 ∧ ∀ x ∈ h, 0 ≤ x) ∨ (k = 4 ∧ c ≠ [] ∧ ∀ x ∈ h ++ c, 0 ≤ x) → Φ (.str "let") μ)
theorem len__law_refused {C O ds μ Φ Ψ} (h : c__law_refused C O ds μ Φ Ψ) : ds.length = 5 := by obtain ⟨_, _, _, _, _, rfl, _⟩ := h; rfl
theorem ok__law_refused (T : Txt P w K mg) : FnOk P w K mg base (L2N.CX P w) 8 T.f__law_refused T.d__law_refused ["_law_how", "_law_row", "_law_head", "_law_cycle", "_law_number"] (spOf K (c__law_refused T.c_Row T.c_OutOfRange)) := by
  refine def_okC T.F__law_refused sc__law_refused _ (fun ds μ Φ Ψ h => len__law_refused h) (fun cdv A outer s H E B hW hr =>
    have tk : L2N.Takes (cxOf (L2N.CX P w) P w K mg base N__law_refused "_law_refused" (defScope s__law_refused) T.f__law_refused cdv A outer s H E) (fun cls d _ H => E cls d H) := L2N.takes_of rfl rfl rfl rfl
    ⟨_, (pss_cons (L2N.ps_try_as (i := 5) rfl rfl sc__law_refused.nd rfl rfl ⟨rfl, by decide, .inl T.g_ChoosersError⟩ tk (fun W pn xe tk pown => (pss_one (ps_expr (pe_callS (ok__law_ask T) hr rfl T.g__law_ask T.F__law_ask.kp T.b__law_ask (fun σ => L2N.passAt tk σ) (pa_cons (pv 0) (pa_cons (pv 1) (pa_cons (pv 2) (pa_cons (pv 3) (pa_cons (pv 4) pa_nil)))))))))
      (fun a oe cls d pn hz hf => (pss_cons (ps_if (PW.pt (pw_or (pt_val (pe_callB (call_isH hz hf) (by rfl) T.z_isinstance (by decide +kernel) (pa_cons (pv 5) (pa_cons (pe_glob (v := .ref T.c_SizeMismatch) rfl T.g_SizeMismatch rfl) pa_nil)))) (pw_or (pt_val (pe_callB (call_isH hz hf) (by rfl) T.z_isinstance (by decide +kernel) (pa_cons (pv 5) (pa_cons (pe_glob (v := .ref T.c_InvalidTerm) rfl T.g_InvalidTerm rfl) pa_nil)))) (pw_or1 (pt_val (pe_callB (call_isH hz hf) (by rfl) T.z_isinstance (by decide +kernel) (pa_cons (pv 5) (pa_cons (pe_glob (v := .ref T.c_TooLarge) rfl T.g_TooLarge rfl) pa_nil)))))))) (pss_one (ps_ret pe_str)) pss_nil)
      (pss_one (ps_ret (pe_ix ix_list (pe_lst (pa_cons pe_str (pa_cons pe_str pa_nil))) (pe_callTy call_int1 (by rfl) T.z_int (by decide +kernel) (pa_cons (pe_and (pe_callB (call_isH hz hf) (by rfl) T.z_isinstance (by decide +kernel) (pa_cons (pv 5) (pa_cons (pe_glob (v := .ref T.c_OutOfRange) rfl T.g_OutOfRange rfl) pa_nil))) (pe_one (pe_callB (call_isH hz hf) (by rfl) T.z_isinstance (by decide +kernel) (pa_cons (pv 5) (pa_cons (pe_bltn (v := .ty "ValueError") rfl T.z_ValueError (by decide +kernel) rfl) pa_nil))))) pa_nil)) (fun _ _ => rfl)))))))
      (pss_one (ps_ret pe_str))),
      (sSeq (sTryAs (c := .ref T.c_ChoosersError) (i := 5) hW (fun W B hW => (sDrop (sCallSW (W := W) (by exact hW) (sCons sVar (sCons sVar (sCons sVar (sCons sVar (sCons sVar sNil))))))))
      (fun a cls dd x B hW rx => (sSeq (sIfS (sOr (sB (sIsE rx (sCons sVar (sCons sHd sNil)))) (sOr (sB (sIsE rx (sCons sVar (sCons sHd sNil)))) (sB (sIsE rx (sCons sVar (sCons sHd sNil)))))) (sRet sStr) sNext)
      (sRet (sOp roIxL (sLst (sCons sStr (sCons sStr sNil))) (sCB rcInt (sCons (sAndV (sIsE rx (sCons sVar (sCons sHd sNil))) (sIsE rx (sCons sVar (sCons sHd sNil)))) sNil)))))))
      (sRet sStr))⟩) (fun ds μ Φ Ψ h => ?hv)
  case hv =>
    obtain ⟨k, r, hh, c, n, rfl, hr, hk, hn, hl, hhl, cl, h1, h2⟩ := h
    walk_at "wps"
    refine ⟨k, r, hh, c, n, rfl, hr, hk, hn, hl, hhl, cl, fun z => ?_, fun z _ => ret_same (h2 z)⟩
    refine ⟨true, T.m_OutOfRange_ChoosersError, fun _ p hp => ?_, nofun⟩
    refine ⟨false, T.i_OutOfRange_SizeMismatch, T.ec_OutOfRange, nofun, fun _ => ⟨false, T.i_OutOfRange_InvalidTerm, T.ec_OutOfRange, nofun, fun _ => ⟨false, T.i_OutOfRange_TooLarge, T.ec_OutOfRange, nofun, fun _ => ⟨by decide, true, T.i_OutOfRange_OutOfRange, T.ec_OutOfRange, fun _ => ⟨true, T.i_OutOfRange_ValueError, T.ec_OutOfRange, ?_⟩, nofun⟩⟩⟩⟩
    walk_at "wps"
    refine ⟨0, .inr ⟨true, rfl, ?_⟩⟩
    show oIxL (.lst [.str "other", .str "range"]) (.int 1) μ _
    walk_at "wps"
    exact ret_same (h1 z)
end
section
variable {P : Program} {w : World} {K : Fg} {mg : Str → Option Value} {base : Heap}
theorem spoil_len {l : List Int} {a : Nat} {z : Int} (h : a ≤ l.length) : (l.take a ++ [z] ++ l.drop (a + 1)).length ≤ l.length + 1 := by
  simp only [List.length_append, List.length_take, List.length_drop, List.length_singleton]; omega
theorem spoil_bad {l : List Int} {a : Nat} {z : Int} (h : z < 0) : ¬ ∀ x ∈ l.take a ++ [z] ++ l.drop (a + 1), 0 ≤ x := fun g => by
  have := g z (by simp)
  omega
def c__law_refuses (C O : Addr) : Con := fun ds μ Φ _ => ∃ (p : Addr) (ns : List Int) (c : List D) (r : Rw), ds = [.hd (.ref p), rwO C r, sdD r] ∧ μ p = some (.lst c) ∧ StC ns c ∧ Bd r 400 400 ∧ ∀ c', StC ns c' → Φ (.bl true) (sset μ p (.lst c'))
theorem len__law_refuses {C O ds μ Φ Ψ} (h : c__law_refuses C O ds μ Φ Ψ) : ds.length = 3 := by obtain ⟨_, _, _, _, rfl, _⟩ := h; rfl
theorem ok__law_refuses (T : Txt P w K mg) : FnOk P w K mg base (L2N.CX P w) 10 T.f__law_refuses T.d__law_refuses ["_law_state", "_law_row", "_law_said_here"] (spOf K (c__law_refuses T.c_Row T.c_OutOfRange)) := by
  refine def_okC T.F__law_refuses sc__law_refuses _ (fun ds μ Φ Ψ h => len__law_refuses h) (fun cdv A outer s H E B hW hr =>
    have tk : L2N.Takes (cxOf (L2N.CX P w) P w K mg base N__law_refuses "_law_refuses" (defScope s__law_refuses) T.f__law_refuses cdv A outer s H E) (fun cls d _ H => E cls d H) := L2N.takes_of rfl rfl rfl rfl
    ⟨_, (pss_cons (ps_set (i := 3) sc__law_refuses.nd rfl (Or.inl rfl) (pe_ix ix_list (pv 2) pe_int (fun _ _ => rfl)))
      (pss_cons (ps_set (i := 4) sc__law_refuses.nd rfl (Or.inl rfl) (pe_ix ix_list (pv 2) pe_int (fun _ _ => rfl)))
      (pss_cons (ps_set (i := 5) sc__law_refuses.nd rfl (Or.inl rfl) (pe_op op_sub (pe_un un_neg pe_int) (pe_call (ok__law_pick T) (hr.mono (by decide)) rfl T.g__law_pick T.F__law_pick.kp T.b__law_pick .nil passN (pa_cons (pv 0) (pa_cons pe_int pa_nil)))))
      (pss_cons (ps_for (passes_of rfl) rfl (pi_range1 rfl T.z_range (pa_cons pe_int pa_nil)) (pg_name (i := 6) sc__law_refuses.nd rfl (Or.inl rfl)) (pss_one (ps_if (PW.pt (pw_or (pt_cmpR op_ne (pe_call (ok__law_refused T) (hr.mono (by decide)) rfl T.g__law_refused T.F__law_refused.kp T.b__law_refused .nil passN (pa_cons (pv 6) (pa_cons (pv 1) (pa_cons (pe_tupN pa_nil) (pa_cons (pe_tupN (pa_cons pe_int pa_nil)) (pa_cons (pv 5) pa_nil)))))) pe_str (nomark _)) (pw_or1 (pt_cmpR op_ne (pe_call (ok__law_refused T) (hr.mono (by decide)) rfl T.g__law_refused T.F__law_refused.kp T.b__law_refused .nil passN (pa_cons (pv 6) (pa_cons (pv 1) (pa_cons (pe_tupN pa_nil) (pa_cons (pe_tupN (pa_cons pe_int pa_nil)) (pa_cons pe_int pa_nil)))))) pe_str (nomark _))))) (pss_one (ps_ret pe_bl)) pss_nil)))
      (pss_cons (ps_set (i := 7) sc__law_refuses.nd rfl (Or.inl rfl) (pe_slice sl_tupN (pv 3) po_none (po_some pe_int)))
      (pss_cons (ps_set (i := 8) sc__law_refuses.nd rfl (Or.inl rfl) (pe_call (ok__law_spoilt T) (hr.mono (by decide)) rfl T.g__law_spoilt T.F__law_spoilt.kp T.b__law_spoilt .nil passN (pa_cons (pv 7) (pa_cons (pe_call (ok__law_pick T) (hr.mono (by decide)) rfl T.g__law_pick T.F__law_pick.kp T.b__law_pick .nil passN (pa_cons (pv 0) (pa_cons (pe_op op_add pe_int (pe_callB call_len_seq (by rfl) T.z_len PySem.boot_len (pa_cons (pv 7) pa_nil))) pa_nil))) (pa_cons (pv 5) pa_nil)))))
      (pss_cons (ps_if (PW.pt (pw_or (pt_cmpR op_ne (pe_call (ok__law_refused T) (hr.mono (by decide)) rfl T.g__law_refused T.F__law_refused.kp T.b__law_refused .nil passN (pa_cons pe_int (pa_cons (pv 1) (pa_cons (pv 8) (pa_cons (pv 4) (pa_cons pe_int pa_nil)))))) pe_str (nomark _)) (pw_or1 (pt_cmpR op_ne (pe_call (ok__law_refused T) (hr.mono (by decide)) rfl T.g__law_refused T.F__law_refused.kp T.b__law_refused .nil passN (pa_cons pe_int (pa_cons (pv 1) (pa_cons (pv 7) (pa_cons (pv 4) (pa_cons pe_int pa_nil)))))) pe_str (nomark _))))) (pss_one (ps_ret pe_bl)) pss_nil)
      (pss_cons (ps_set (i := 8) sc__law_refuses.nd rfl (Or.inl rfl) (pe_call (ok__law_spoilt T) (hr.mono (by decide)) rfl T.g__law_spoilt T.F__law_spoilt.kp T.b__law_spoilt .nil passN (pa_cons (pv 3) (pa_cons (pe_call (ok__law_pick T) (hr.mono (by decide)) rfl T.g__law_pick T.F__law_pick.kp T.b__law_pick .nil passN (pa_cons (pv 0) (pa_cons (pe_op op_add pe_int (pe_callB call_len_seq (by rfl) T.z_len PySem.boot_len (pa_cons (pv 3) pa_nil))) pa_nil))) (pa_cons (pv 5) pa_nil)))))
      (pss_cons (ps_if (PW.pt (pw_or (pt_cmpR op_ne (pe_call (ok__law_refused T) (hr.mono (by decide)) rfl T.g__law_refused T.F__law_refused.kp T.b__law_refused .nil passN (pa_cons pe_int (pa_cons (pv 1) (pa_cons (pv 8) (pa_cons (pv 4) (pa_cons pe_int pa_nil)))))) pe_str (nomark _)) (pw_or1 (pt_cmpR op_ne (pe_call (ok__law_refused T) (hr.mono (by decide)) rfl T.g__law_refused T.F__law_refused.kp T.b__law_refused .nil passN (pa_cons pe_int (pa_cons (pv 1) (pa_cons (pv 3) (pa_cons (pe_tupN pa_nil) (pa_cons pe_int pa_nil)))))) pe_str (nomark _))))) (pss_one (ps_ret pe_bl)) pss_nil)
      (pss_cons (ps_if (pt_cmpR op_ne (pe_call (ok__law_refused T) (hr.mono (by decide)) rfl T.g__law_refused T.F__law_refused.kp T.b__law_refused .nil passN (pa_cons pe_int (pa_cons (pv 1) (pa_cons (pv 3) (pa_cons (pe_call (ok__law_spoilt T) (hr.mono (by decide)) rfl T.g__law_spoilt T.F__law_spoilt.kp T.b__law_spoilt .nil passN (pa_cons (pv 4) (pa_cons (pe_call (ok__law_pick T) (hr.mono (by decide)) rfl T.g__law_pick T.F__law_pick.kp T.b__law_pick .nil passN (pa_cons (pv 0) (pa_cons (pe_callB call_len_seq (by rfl) T.z_len PySem.boot_len (pa_cons (pv 4) pa_nil)) pa_nil))) (pa_cons (pv 5) pa_nil)))) (pa_cons pe_int pa_nil)))))) pe_str (nomark _)) (pss_one (ps_ret pe_bl)) pss_nil)
      (pss_one (ps_ret (pe_and (pe_cmpR op_eq (pe_call (ok__law_refused T) (hr.mono (by decide)) rfl T.g__law_refused T.F__law_refused.kp T.b__law_refused .nil passN (pa_cons pe_int (pa_cons (pv 1) (pa_cons (pv 3) (pa_cons (pv 4) (pa_cons pe_int pa_nil)))))) pe_str (nomark _)) (pe_one (pe_cmpR op_eq (pe_call (ok__law_refused T) (hr.mono (by decide)) rfl T.g__law_refused T.F__law_refused.kp T.b__law_refused .nil passN (pa_cons pe_int (pa_cons (pv 1) (pa_cons (pe_tupN pa_nil) (pa_cons (pv 4) (pa_cons pe_int pa_nil)))))) pe_str (nomark _)))))))))))))))),
      (sSeq (sAsg (sOp roIxL sVar sInt) sName)
      (sSeq (sAsg (sOp roIxL sVar sInt) sName)
      (sSeq (sAsg (sOp roInt0 (sUn ruInt sInt) (sCall (sCons sVar (sCons sInt sNil)))) sName)
      (sSeq (sFor (siR1 sInt) (fun _ _ _ => sName) (fun _ _ _ => (sIfS (sOr (sTest (sOp roNe (sCall (sCons sVar (sCons sVar (sCons (sTup sNil) (sCons (sTup (sCons sInt sNil)) (sCons sVar sNil)))))) sStr)) (sTest (sOp roNe (sCall (sCons sVar (sCons sVar (sCons (sTup sNil) (sCons (sTup (sCons sInt sNil)) (sCons sInt sNil)))))) sStr))) (sRet sBl) sNext)))
      (sSeq (sAsg (sSlT sVar sNoPart (sPart sInt)) sName)
      (sSeq (sAsg (sCall (sCons sVar (sCons (sCall (sCons sVar (sCons (sOp roInt0 sInt (sCB rcLen (sCons sVar sNil))) sNil))) (sCons sVar sNil)))) sName)
      (sSeq (sIfS (sOr (sTest (sOp roNe (sCall (sCons sInt (sCons sVar (sCons sVar (sCons sVar (sCons sInt sNil)))))) sStr)) (sTest (sOp roNe (sCall (sCons sInt (sCons sVar (sCons sVar (sCons sVar (sCons sInt sNil)))))) sStr))) (sRet sBl) sNext)
      (sSeq (sAsg (sCall (sCons sVar (sCons (sCall (sCons sVar (sCons (sOp roInt0 sInt (sCB rcLen (sCons sVar sNil))) sNil))) (sCons sVar sNil)))) sName)
      (sSeq (sIfS (sOr (sTest (sOp roNe (sCall (sCons sInt (sCons sVar (sCons sVar (sCons sVar (sCons sInt sNil)))))) sStr)) (sTest (sOp roNe (sCall (sCons sInt (sCons sVar (sCons sVar (sCons (sTup sNil) (sCons sInt sNil)))))) sStr))) (sRet sBl) sNext)
      (sSeq (sIfS (sTest (sOp roNe (sCall (sCons sInt (sCons sVar (sCons sVar (sCons (sCall (sCons sVar (sCons (sCall (sCons sVar (sCons (sCB rcLen (sCons sVar sNil)) sNil))) (sCons sVar sNil)))) (sCons sInt sNil)))))) sStr)) (sRet sBl) sNext)
      (sRet (sAndV (sOp roEq (sCall (sCons sInt (sCons sVar (sCons sVar (sCons sVar (sCons sInt sNil)))))) sStr) (sOp roEq (sCall (sCons sInt (sCons sVar (sCons (sTup sNil) (sCons sVar (sCons sInt sNil)))))) sStr)))))))))))))⟩) (fun ds μ Φ Ψ h => ?hv)
  case hv =>
    obtain ⟨p, ns, c, r, rfl, hst, sc, hr, h⟩ := h
    have r1 := hr.ha
    have r2 := hr.cb
    have hcn : 0 < r.c.length := List.length_pos_iff.mpr hr.ok.c0
    rw [sd_eq]
    refine seq_cut fun M hM => ?_
    walk_at "wp"
    rw [hM]; clear hM M
    refine seq_cut fun M hM => ?_
    walk_at "wp"
    rw [hM]; clear hM M
    refine seq_cut fun M hM => ?_
    walk_at "wp"
    refine ⟨p, ns, c, 9, rfl, hst, sc, by decide, by decide, fun y c1 y0 y1 sc => ?_⟩
    obtain ⟨bad, hbad⟩ : ∃ b : Int, b = -1 - y := ⟨_, rfl⟩
    have hb0 : bad < 0 := by omega
    walk_at "wp"
    rw [← hbad]
    rw [hM]; clear hM M
    refine seq_cut fun M hM => ?_
    walk_at "wp"
    have bad1 : ∀ (k : Nat) (hh cc : List Int) (n : Int) (Z : DK) (Y : XD → Sto → Prop) (μ' : Sto), k ≤ 4 → n ≤ 2000 → hh.length ≤ 500 → cc.length ≤ 500 → AskBad k hh cc n → Z (.str "range") μ' → c__law_refused T.c_Row T.c_OutOfRange [.int k, rwO T.c_Row r, .tup (hh.map .int), .tup (cc.map .int), .int n] μ' Z Y := fun k hh cc n Z Y μ' hk hn hl cl hb hz =>
      ⟨k, r, hh, cc, n, rfl, hr.ok, hk, hn, by omega, by omega, by omega, fun _ => hz, fun z => absurd hb fun q => by
        rcases q with ⟨q1, q2⟩ | ⟨rfl, q2⟩ | ⟨rfl, q2⟩
        · rcases z with ⟨z1, z2⟩ | ⟨z1, z2⟩ | ⟨z1, z2⟩ <;> omega
        · rcases z with ⟨z1, z2⟩ | ⟨z1, z2⟩ | ⟨z1, z2⟩
          · omega
          · exact q2 z2
          · omega
        · rcases z with ⟨z1, z2⟩ | ⟨z1, z2⟩ | ⟨z1, z2⟩
          · omega
          · omega
          · exact q2 z2⟩
    have let1 : ∀ (k : Nat) (hh cc : List Int) (n : Int) (Z : DK) (Y : XD → Sto → Prop) (μ' : Sto), k ≤ 4 → n ≤ 2000 → hh.length ≤ 500 → cc.length ≤ 500 → ((k ≤ 2 ∧ 0 ≤ n) ∨ (k = 3 ∧ ∀ x ∈ hh, 0 ≤ x) ∨ (k = 4 ∧ cc ≠ [] ∧ ∀ x ∈ hh ++ cc, 0 ≤ x)) → Z (.str "let") μ' → c__law_refused T.c_Row T.c_OutOfRange [.int k, rwO T.c_Row r, .tup (hh.map .int), .tup (cc.map .int), .int n] μ' Z Y := fun k hh cc n Z Y μ' hk hn hl cl hb hz =>
      ⟨k, r, hh, cc, n, rfl, hr.ok, hk, hn, by omega, by omega, by omega, fun q => absurd hb fun z => by
        rcases q with ⟨q1, q2⟩ | ⟨rfl, q2⟩ | ⟨rfl, q2⟩
        · rcases z with ⟨z1, z2⟩ | ⟨z1, z2⟩ | ⟨z1, z2⟩ <;> omega
        · rcases z with ⟨z1, z2⟩ | ⟨z1, z2⟩ | ⟨z1, z2⟩
          · omega
          · exact q2 z2
          · omega
        · rcases z with ⟨z1, z2⟩ | ⟨z1, z2⟩ | ⟨z1, z2⟩
          · omega
          · omega
          · exact q2 z2, fun _ => hz⟩
    refine ⟨by decide, by decide, fun i δ' μ' => ∃ x6 : Option D, μ' = sset μ p (.lst c1) ∧ δ' = [some (.hd (.ref p)), some (rwO T.c_Row r), some (.lst [.tup (r.h.map .int), .tup (r.c.map .int)]), some (.tup (r.h.map .int)), some (.tup (r.c.map .int)), some (.int bad), x6, none, none], ⟨none, rfl, rfl⟩, ?_, ?_⟩
    · rintro i d δ' μ' hi ⟨x6, rfl, rfl⟩
      obtain ⟨hi2, rfl⟩ := rngD_get hi
      have hi2 : i < 3 := hi2
      walk_at "wp"
      refine ⟨by decide, by decide, bad1 i [] [0] bad _ _ _ (by omega) (by omega) (by simp) (by simp) (.inl ⟨by omega, hb0⟩) ?_⟩
      walk_at "wp"
      refine ⟨fun q => by simp at q, fun _ => ⟨by decide, by decide, let1 i [] [0] 0 _ _ _ (by omega) (by omega) (by simp) (by simp) (.inl ⟨by omega, by decide⟩) ?_⟩⟩
      walk_at "wp"
      exact ⟨fun q => by simp at q, fun _ => ⟨_, rfl⟩⟩
    · rintro δ' μ' ⟨x6, rfl, rfl⟩
      rw [hM]; clear hM M
      refine seq_cut fun M hM => ?_
      walk_at "wp"
      obtain ⟨sh, hsh⟩ : ∃ sh, sh = r.h.take 6 := ⟨_, rfl⟩
      have hshl : sh.length ≤ 6 := by rw [hsh, List.length_take]; omega
      have hsh0 : ∀ x ∈ sh, 0 ≤ x := fun x hx => by rw [hsh] at hx; exact hr.ok.hp x (List.mem_of_mem_take hx)
      rw [show DW.cutD (r.h.map D.int) none (some 6) = sh.map .int by rw [hsh, List.map_take]; exact cut_to 6]
      rw [hM]; clear hM M
      refine seq_cut fun M hM => ?_
      walk_at "wp"
      refine ⟨p, ns, c1, ((1 + sh.length : Nat) : Int), by rw [Int.natCast_add]; rfl, sset_same, sc, by omega, log_small (by omega), fun y c2 y0 y1 sc => ?_⟩
      rw [sset_sset]
      obtain ⟨a, rfl⟩ : ∃ a : Nat, y = (a : Int) := ⟨y.toNat, by omega⟩
      refine ⟨sh, a, bad, rfl, by omega, ?_⟩
      have hw1 := spoil_len (l := sh) (a := a) (z := bad) (by omega)
      have hw2 := spoil_bad (l := sh) (a := a) hb0
      obtain ⟨wr, hwr⟩ : ∃ wr, wr = sh.take a ++ [bad] ++ sh.drop (a + 1) := ⟨_, rfl⟩
      rw [← hwr] at hw1 hw2 ⊢
      rw [hM]; clear hM M
      refine seq_cut fun M hM => ?_
      walk_at "wp"
      refine bad1 3 wr r.c 0 _ _ _ (by decide) (by decide) (by omega) (by omega) (.inr (.inl ⟨rfl, hw2⟩)) ?_
      walk_at "wp"
      refine ⟨fun q => by simp at q, fun _ => let1 3 sh r.c 0 _ _ _ (by decide) (by decide) (by omega) (by omega) (.inr (.inl ⟨rfl, hsh0⟩)) ?_⟩
      walk_at "wp"
      refine ⟨fun q => by simp at q, fun _ => ?_⟩
      rw [hM]; clear hM M
      refine seq_cut fun M hM => ?_
      walk_at "wp"
      refine ⟨p, ns, c2, ((1 + r.h.length : Nat) : Int), by rw [Int.natCast_add]; rfl, sset_same, sc, by omega, log_small (by omega), fun y c3 y0 y1 sc => ?_⟩
      rw [sset_sset]
      obtain ⟨a2, rfl⟩ : ∃ a : Nat, y = (a : Int) := ⟨y.toNat, by omega⟩
      refine ⟨r.h, a2, bad, rfl, by omega, ?_⟩
      have hv1 := spoil_len (l := r.h) (a := a2) (z := bad) (by omega)
      have hv2 := spoil_bad (l := r.h) (a := a2) hb0
      obtain ⟨wv, hwv⟩ : ∃ wr, wr = r.h.take a2 ++ [bad] ++ r.h.drop (a2 + 1) := ⟨_, rfl⟩
      rw [← hwv] at hv1 hv2 ⊢
      rw [hM]; clear hM M
      refine seq_cut fun M hM => ?_
      walk_at "wp"
      refine bad1 4 wv r.c 0 _ _ _ (by decide) (by decide) (by omega) (by omega) (.inr (.inr ⟨rfl, fun q => hv2 fun x hx => q.2 x (List.mem_append_left _ hx)⟩)) ?_
      walk_at "wp"
      refine ⟨fun q => by simp at q, fun _ => ⟨by decide, bad1 4 r.h [] 0 _ _ _ (by decide) (by decide) (by omega) (by simp) (.inr (.inr ⟨rfl, fun q => q.1 rfl⟩)) ?_⟩⟩
      walk_at "wp"
      refine ⟨fun q => by simp at q, fun _ => ?_⟩
      rw [hM]; clear hM M
      refine seq_cut fun M hM => ?_
      walk_at "wp"
      refine ⟨p, ns, c3, r.c.length, rfl, sset_same, sc, by omega, log_small (by omega), fun y c4 y0 y1 sc => ?_⟩
      rw [sset_sset]
      obtain ⟨a3, rfl⟩ : ∃ a : Nat, y = (a : Int) := ⟨y.toNat, by omega⟩
      refine ⟨r.c, a3, bad, rfl, by omega, ?_⟩
      have hu1 := spoil_len (l := r.c) (a := a3) (z := bad) (by omega)
      have hu2 := spoil_bad (l := r.c) (a := a3) hb0
      obtain ⟨wu, hwu⟩ : ∃ wr, wr = r.c.take a3 ++ [bad] ++ r.c.drop (a3 + 1) := ⟨_, rfl⟩
      rw [← hwu] at hu1 hu2 ⊢
      refine bad1 4 r.h wu 0 _ _ _ (by decide) (by decide) (by omega) (by omega) (.inr (.inr ⟨rfl, fun q => hu2 fun x hx => q.2 x (List.mem_append_right _ hx)⟩)) ?_
      walk_at "wp"
      refine ⟨fun q => by simp at q, fun _ => ?_⟩
      rw [hM]; clear hM M
      walk_at "wps"
      refine let1 4 r.h r.c 0 _ _ _ (by decide) (by decide) (by omega) (by omega) (.inr (.inr ⟨rfl, hr.ok.c0, fun x hx => (List.mem_append.mp hx).elim (hr.ok.hp x) (hr.ok.cp x)⟩)) ?_
      walk_at "wps"
      refine ⟨⟨by decide, let1 4 [] r.c 0 _ _ _ (by decide) (by decide) (by simp) (by omega) (.inr (.inr ⟨rfl, hr.ok.c0, fun x hx => hr.ok.cp x (by simpa using hx)⟩)) ?_⟩, fun z => absurd trivial z⟩
      walk_at "wps"
      exact ret_same (h c4 sc)
end
section
variable {P : Program} {w : World} {K : Fg} {mg : Str → Option Value} {base : Heap}
theorem RwOk.ent0 {r : Rw} (h : RwOk r) (i : Nat) : 0 ≤ ent r i := by
  have hl : 0 < r.c.length := List.length_pos_iff.mpr h.c0
  unfold ent cyc
  split
  · rename_i q
    rw [List.getD_eq_getElem?_getD, List.getElem?_eq_getElem q]
    exact h.hp _ (List.getElem_mem q)
  · have q := Nat.mod_lt (i - r.h.length) hl
    rw [List.getD_eq_getElem?_getD, List.getElem?_eq_getElem q]
    exact h.cp _ (List.getElem_mem q)
theorem led_starts {r a : Rw} {n : Nat} (hc : r.c ≠ []) (ha : IsLeast (aft r n) a) (i : Nat) : ent (led (starts r n) a) i = ent r i := by
  have hl : (starts r n).length = n := by unfold starts; simp
  rw [ent_led, hl]
  split
  · rename_i q
    unfold starts
    rw [List.getD_eq_getElem?_getD, List.getElem?_map, List.getElem?_range q]; rfl
  · rw [ha.ent_eq, ent_aft hc]
    congr 1
    omega
theorem same_ints {l : List Int} {μ : Sto} {Φ : DK} {Ψ : XD → Sto → Prop} (hl : l.length ≤ 1000) (h : Φ (.bl true) μ) : c__law_same 8 [.tup (l.map .int), .tup (l.map .int)] μ Φ Ψ := by
  refine same_self ?_ ?_ h
  · simp only [plainD, plainDs_ints, List.length_map, Bool.true_and, decide_eq_true_eq]; omega
  · have := depDs_ints l
    simp only [depD]; omega
def c__law_tells (C O : Addr) : Con := fun ds μ Φ _ => ∃ (p : Addr) (ns : List Int) (c : List D) (r : Rw) (top : Nat), ds = [.hd (.ref p), rwO C r, sdD r, .int top] ∧ μ p = some (.lst c) ∧ StC ns c ∧ Bd r 400 400 ∧ 1 ≤ top ∧ top ≤ 1000000000000 ∧ ∀ c', StC ns c' → Φ (.bl true) (sset μ p (.lst c'))
theorem len__law_tells {C O ds μ Φ Ψ} (h : c__law_tells C O ds μ Φ Ψ) : ds.length = 4 := by obtain ⟨_, _, _, _, _, rfl, _⟩ := h; rfl
theorem ok__law_tells (T : Txt P w K mg) : FnOk P w K mg base (L2N.CX P w) 10 T.f__law_tells T.d__law_tells ["_law_state", "_law_row", "_law_said_here", "_law_top"] (spOf K (c__law_tells T.c_Row T.c_OutOfRange)) := by
  refine def_okC T.F__law_tells sc__law_tells _ (fun ds μ Φ Ψ h => len__law_tells h) (fun cdv A outer s H E B hW hr =>
    have tk : L2N.Takes (cxOf (L2N.CX P w) P w K mg base N__law_tells "_law_tells" (defScope s__law_tells) T.f__law_tells cdv A outer s H E) (fun cls d _ H => E cls d H) := L2N.takes_of rfl rfl rfl rfl
    ⟨_, (pss_cons (ps_if (pt_not (pt_val (pe_call (ok__law_is T) hr rfl T.g__law_is T.F__law_is.kp T.b__law_is .nil passN (pa_cons (pe_methX0 (pl := _) (pv 1) T.cls_Row T.me_Row_least (ok_Row_least T) (hr.mono (by decide)) T.b_Row_least (fun σ => L2N.passAt tk σ)) (pa_cons (pe_call (ok__law_least T) (hr.mono (by decide)) rfl T.g__law_least T.F__law_least.kp T.b__law_least .nil passN (pa_cons (pv 2) pa_nil)) pa_nil))))) (pss_one (ps_ret pe_bl)) pss_nil)
      (pss_cons (ps_set (i := 4) sc__law_tells.nd rfl (Or.inl rfl) (pe_callB (call_min2 rfl) (by rfl) T.z_min (by decide +kernel) (pa_cons pe_int (pa_cons (pe_op op_add (pe_callB call_len_seq (by rfl) T.z_len PySem.boot_len (pa_cons (pe_ix ix_list (pv 2) pe_int (fun _ _ => rfl)) pa_nil)) (pe_op op_mulX pe_int (pe_callB call_len_seq (by rfl) T.z_len PySem.boot_len (pa_cons (pe_ix ix_list (pv 2) pe_int (fun _ _ => rfl)) pa_nil)))) pa_nil))))
      (pss_cons (ps_for (passes_of rfl) rfl (pi_list (pe_lst (pa_cons pe_int (pa_cons (pe_callB call_len_seq (by rfl) T.z_len PySem.boot_len (pa_cons (pe_ix ix_list (pv 2) pe_int (fun _ _ => rfl)) pa_nil)) (pa_cons (pe_call (ok__law_pick T) (hr.mono (by decide)) rfl T.g__law_pick T.F__law_pick.kp T.b__law_pick .nil passN (pa_cons (pv 0) (pa_cons (pv 4) pa_nil))) (pa_cons (pe_call (ok__law_far T) (hr.mono (by decide)) rfl T.g__law_far T.F__law_far.kp T.b__law_far .nil passN (pa_cons (pv 0) pa_nil)) pa_nil)))))) (pg_name (i := 5) sc__law_tells.nd rfl (Or.inl rfl)) (pss_one (ps_if (pt_not (pt_val (pe_call (ok__law_same T) (hr.mono (by decide)) rfl T.g__law_same T.F__law_same.kp T.b__law_same .nil passN (pa_cons (pe_getX T.me_Row___getitem__ T.fn_Row___getitem__ (ok_Row___getitem__ T) (hr.mono (by decide)) T.b_Row___getitem__ (fun σ => L2N.passAt tk σ) (pv 1) (pv 5) (fun _ _ => rfl)) (pa_cons (pe_call (ok__law_entry T) (hr.mono (by decide)) rfl T.g__law_entry T.F__law_entry.kp T.b__law_entry .nil passN (pa_cons (pv 2) (pa_cons (pv 5) pa_nil))) pa_nil))))) (pss_one (ps_ret pe_bl)) pss_nil)))
      (pss_cons (ps_for (passes_of rfl) rfl (pi_list (pe_lst (pa_cons pe_int (pa_cons (pe_call (ok__law_pick T) (hr.mono (by decide)) rfl T.g__law_pick T.F__law_pick.kp T.b__law_pick .nil passN (pa_cons (pv 0) (pa_cons (pe_op op_add (pe_callB (call_min2 rfl) (by rfl) T.z_min (by decide +kernel) (pa_cons (pv 4) (pa_cons pe_int pa_nil))) pe_int) pa_nil))) (pa_cons (pe_ix ix_list (pe_lst (pa_cons pe_int (pa_cons (pv 4) (pa_cons (pv 4) (pa_cons pe_int pa_nil))))) (pe_callB (call_min2 rfl) (by rfl) T.z_min (by decide +kernel) (pa_cons pe_int (pa_cons (pe_call (ok__law_pick T) (hr.mono (by decide)) rfl T.g__law_pick T.F__law_pick.kp T.b__law_pick .nil passN (pa_cons (pv 0) (pa_cons pe_int pa_nil))) pa_nil))) (fun _ _ => rfl)) pa_nil))))) (pg_name (i := 6) sc__law_tells.nd rfl (Or.inl rfl)) (pss_one (ps_if (pt_not (pt_val (pe_call (ok__law_same T) (hr.mono (by decide)) rfl T.g__law_same T.F__law_same.kp T.b__law_same .nil passN (pa_cons (pe_methX (pl := _) (pv 1) T.cls_Row T.me_Row_start (ok_Row_start T) (hr.mono (by decide)) T.b_Row_start (fun σ => L2N.passAt tk σ) (pa_cons (pv 6) pa_nil)) (pa_cons (pe_callTy call_tupleN (by rfl) T.z_tuple (by decide +kernel) (pa_cons (pe_lc (own := [("_law_p", 11)]) rfl sc__law_tells.nd (pi_range1 rfl T.z_range (pa_cons (pv 6) pa_nil)) (blkOk_by (N := N__law_tells) (sc := defScope s__law_tells) (by decide +kernel)) (fun _ _ _ _ _ => (pg_name (i := 11) sc__law_tells.nd rfl (Or.inl rfl))) (fun _ _ _ _ _ => pts_nil) (fun _ _ _ _ _ => (pe_call (ok__law_entry T) (hr.mono (by decide)) rfl T.g__law_entry T.F__law_entry.kp T.b__law_entry .nil passN (pa_cons (pv 2) (pa_cons (pv 11) pa_nil))))) pa_nil)) pa_nil))))) (pss_one (ps_ret pe_bl)) pss_nil)))
      (pss_cons (ps_for (passes_of rfl) rfl (pi_list (pe_lst (pa_cons pe_int (pa_cons (pe_callB call_len_seq (by rfl) T.z_len PySem.boot_len (pa_cons (pe_ix ix_list (pv 2) pe_int (fun _ _ => rfl)) pa_nil)) (pa_cons (pe_call (ok__law_pick T) (hr.mono (by decide)) rfl T.g__law_pick T.F__law_pick.kp T.b__law_pick .nil passN (pa_cons (pv 0) (pa_cons (pv 4) pa_nil))) (pa_cons (pe_call (ok__law_far T) (hr.mono (by decide)) rfl T.g__law_far T.F__law_far.kp T.b__law_far .nil passN (pa_cons (pv 0) pa_nil)) pa_nil)))))) (pg_name (i := 7) sc__law_tells.nd rfl (Or.inl rfl)) (pss_cons (ps_set (i := 8) sc__law_tells.nd rfl (Or.inl rfl) (pe_call (ok__law_least T) (hr.mono (by decide)) rfl T.g__law_least T.F__law_least.kp T.b__law_least .nil passN (pa_cons (pe_call (ok__law_after T) (hr.mono (by decide)) rfl T.g__law_after T.F__law_after.kp T.b__law_after .nil passN (pa_cons (pv 2) (pa_cons (pv 7) pa_nil))) pa_nil)))
      (pss_cons (ps_set (i := 9) sc__law_tells.nd rfl (Or.inl rfl) (pe_call (ok__law_lot T) (hr.mono (by decide)) rfl T.g__law_lot T.F__law_lot.kp T.b__law_lot .nil passN (pa_cons (pv 0) (pa_cons (pe_ix ix_list (pe_lst (pa_cons pe_int (pa_cons pe_int (pa_cons pe_int (pa_cons pe_int pa_nil))))) (pe_call (ok__law_pick T) (hr.mono (by decide)) rfl T.g__law_pick T.F__law_pick.kp T.b__law_pick .nil passN (pa_cons (pv 0) (pa_cons pe_int pa_nil))) (fun _ _ => rfl)) (pa_cons (pv 3) pa_nil)))))
      (pss_cons (ps_set (i := 10) sc__law_tells.nd rfl (Or.inl rfl) (pe_methX (pl := _) (pv 1) T.cls_Row T.me_Row_after (ok_Row_after T) (hr.mono (by decide)) T.b_Row_after (fun σ => L2N.passAt tk σ) (pa_cons (pv 7) pa_nil)))
      (pss_one (ps_if (PW.pt (pw_or (pt_not (pt_val (pe_call (ok__law_is T) hr rfl T.g__law_is T.F__law_is.kp T.b__law_is .nil passN (pa_cons (pv 10) (pa_cons (pv 8) pa_nil))))) (pw_or1 (pt_not (pt_val (pe_call (ok__law_is T) hr rfl T.g__law_is T.F__law_is.kp T.b__law_is .nil passN (pa_cons (pe_methX (pl := _) (pv 10) T.cls_Row T.me_Row_lead (ok_Row_lead T) (hr.mono (by decide)) T.b_Row_lead (fun σ => L2N.passAt tk σ) (pa_cons (pv 9) pa_nil)) (pa_cons (pe_call (ok__law_least T) (hr.mono (by decide)) rfl T.g__law_least T.F__law_least.kp T.b__law_least .nil passN (pa_cons (pe_lst (pa_cons (pe_op op_catN (pv 9) (pe_ix ix_list (pv 8) pe_int (fun _ _ => rfl))) (pa_cons (pe_ix ix_list (pv 8) pe_int (fun _ _ => rfl)) pa_nil))) pa_nil)) pa_nil)))))))) (pss_one (ps_ret pe_bl)) pss_nil))))))
      (pss_cons (ps_set (i := 7) sc__law_tells.nd rfl (Or.inl rfl) (pe_call (ok__law_pick T) (hr.mono (by decide)) rfl T.g__law_pick T.F__law_pick.kp T.b__law_pick .nil passN (pa_cons (pv 0) (pa_cons (pe_callB (call_min2 rfl) (by rfl) T.z_min (by decide +kernel) (pa_cons (pv 4) (pa_cons pe_int pa_nil))) pa_nil))))
      (pss_cons (ps_if (pt_not (pt_val (pe_call (ok__law_is T) hr rfl T.g__law_is T.F__law_is.kp T.b__law_is .nil passN (pa_cons (pe_methX (pl := _) (pe_methX (pl := _) (pv 1) T.cls_Row T.me_Row_after (ok_Row_after T) (hr.mono (by decide)) T.b_Row_after (fun σ => L2N.passAt tk σ) (pa_cons (pv 7) pa_nil)) T.cls_Row T.me_Row_lead (ok_Row_lead T) (hr.mono (by decide)) T.b_Row_lead (fun σ => L2N.passAt tk σ) (pa_cons (pe_methX (pl := _) (pv 1) T.cls_Row T.me_Row_start (ok_Row_start T) (hr.mono (by decide)) T.b_Row_start (fun σ => L2N.passAt tk σ) (pa_cons (pv 7) pa_nil)) pa_nil)) (pa_cons (pe_call (ok__law_least T) (hr.mono (by decide)) rfl T.g__law_least T.F__law_least.kp T.b__law_least .nil passN (pa_cons (pv 2) pa_nil)) pa_nil))))) (pss_one (ps_ret pe_bl)) pss_nil)
      (pss_one (ps_ret (pe_call (ok__law_is T) hr rfl T.g__law_is T.F__law_is.kp T.b__law_is .nil passN (pa_cons (pv 1) (pa_cons (pv 2) pa_nil)))))))))))),
      (sSeq (sIfS (sNot (sB (sCall (sCons (sMethXW (NS := NSA) (W := fun cls d _ H => E cls d H) (by decide) (by exact hW) sVar sNil) (sCons (sCall (sCons sVar sNil)) sNil))))) (sRet sBl) sNext)
      (sSeq (sAsg (sCB rcMin2 (sCons sInt (sCons (sOp roInt0 (sCB rcLen (sCons (sOp roIxL sVar sInt) sNil)) (sOp roInt sInt (sCB rcLen (sCons (sOp roIxL sVar sInt) sNil)))) sNil))) sName)
      (sSeq (sFor (siL (sLst (sCons sInt (sCons (sCB rcLen (sCons (sOp roIxL sVar sInt) sNil)) (sCons (sCall (sCons sVar (sCons sVar sNil))) (sCons (sCall (sCons sVar sNil)) sNil)))))) (fun _ _ _ => sName) (fun _ _ _ => (sIfS (sNot (sB (sCall (sCons (sGetX (NS := NSA) (W := fun cls d _ H => E cls d H) (by exact hW) sVar sVar) (sCons (sCall (sCons sVar (sCons sVar sNil))) sNil))))) (sRet sBl) sNext)))
      (sSeq (sFor (siL (sLst (sCons sInt (sCons (sCall (sCons sVar (sCons (sOp roInt0 (sCB rcMin2 (sCons sVar (sCons sInt sNil))) sInt) sNil))) (sCons (sOp roIxL (sLst (sCons sInt (sCons sVar (sCons sVar (sCons sInt sNil))))) (sCB rcMin2 (sCons sInt (sCons (sCall (sCons sVar (sCons sInt sNil))) sNil)))) sNil))))) (fun _ _ _ => sName) (fun _ _ _ => (sIfS (sNot (sB (sCall (sCons (sMethXW (NS := NSA) (W := fun cls d _ H => E cls d H) (by decide) (by exact hW) sVar (sCons sVar sNil)) (sCons (sCB rcTuple (sCons (sLc (siR1 sVar) (gwName List.mem_cons_self) (fun _ _ _ => sName) (fun _ _ _ => sYes) (fun _ _ _ => (sCall (sCons sVar (sCons sVar sNil))))) sNil)) sNil))))) (sRet sBl) sNext)))
      (sSeq (sFor (siL (sLst (sCons sInt (sCons (sCB rcLen (sCons (sOp roIxL sVar sInt) sNil)) (sCons (sCall (sCons sVar (sCons sVar sNil))) (sCons (sCall (sCons sVar sNil)) sNil)))))) (fun _ _ _ => sName) (fun _ _ _ => (sSeq (sAsg (sCall (sCons (sCall (sCons sVar (sCons sVar sNil))) sNil)) sName)
      (sSeq (sAsg (sCall (sCons sVar (sCons (sOp roIxL (sLst (sCons sInt (sCons sInt (sCons sInt (sCons sInt sNil))))) (sCall (sCons sVar (sCons sInt sNil)))) (sCons sVar sNil)))) sName)
      (sSeq (sAsg (sMethXW (NS := NSA) (W := fun cls d _ H => E cls d H) (by decide) (by exact hW) sVar (sCons sVar sNil)) sName)
      (sIfS (sOr (sNot (sB (sCall (sCons sVar (sCons sVar sNil))))) (sNot (sB (sCall (sCons (sMethXW (NS := NSA) (W := fun cls d _ H => E cls d H) (by decide) (by exact hW) sVar (sCons sVar sNil)) (sCons (sCall (sCons (sLst (sCons (sOp roCatT sVar (sOp roIxL sVar sInt)) (sCons (sOp roIxL sVar sInt) sNil))) sNil)) sNil)))))) (sRet sBl) sNext))))))
      (sSeq (sAsg (sCall (sCons sVar (sCons (sCB rcMin2 (sCons sVar (sCons sInt sNil))) sNil))) sName)
      (sSeq (sIfS (sNot (sB (sCall (sCons (sMethXW (NS := NSA) (W := fun cls d _ H => E cls d H) (by decide) (by exact hW) (sMethXW (NS := NSA) (W := fun cls d _ H => E cls d H) (by decide) (by exact hW) sVar (sCons sVar sNil)) (sCons (sMethXW (NS := NSA) (W := fun cls d _ H => E cls d H) (by decide) (by exact hW) sVar (sCons sVar sNil)) sNil)) (sCons (sCall (sCons sVar sNil)) sNil))))) (sRet sBl) sNext)
      (sRet (sCall (sCons sVar (sCons sVar sNil)))))))))))⟩) (fun ds μ Φ Ψ h => ?hv)
  case hv =>
    obtain ⟨p, ns, c, r, top, rfl, hst, sc, hr, l1, l2, h⟩ := h
    have r1 := hr.ha
    have r2 := hr.cb
    have hcn : 0 < r.c.length := List.length_pos_iff.mpr hr.ok.c0
    have e1 : rwO T.c_Row r = D.obj T.c_Row NSA [.tup (r.h.map .int), .tup (r.c.map .int)] := rfl
    obtain ⟨a, ha⟩ := isleast_ex hr.ok
    obtain ⟨oa, la1, la2⟩ := hr.ok.least ha
    refine seq_cut fun M hM => ?_
    walk_at "wp"
    refine ⟨_, e1, r, rfl, hr.ok, fun a' ha' => ?_⟩
    obtain rfl := ha'.uniq ha
    refine ⟨r, rfl, hr.ok, fun a2 ha2 => ?_⟩
    obtain rfl := ha2.uniq ha
    refine ⟨a2, a2, rfl, oa, oa, rfl, true, rfl, nofun, fun _ => ?_⟩
    rw [hM]; clear hM M
    refine seq_cut fun M hM => ?_
    walk_at "wp"
    rw [sd_eq]
    walk_at "wp"
    refine ⟨mulx 10 10 (by decide) (by omega) (by decide), ?_⟩
    obtain ⟨nr, hnr, nr1, nr2⟩ : ∃ nr : Nat, (if (r.h.length : Int) + 2 * (r.c.length : Int) < 1000 then (r.h.length : Int) + 2 * (r.c.length : Int) else 1000) = (nr : Int) ∧ 1 ≤ nr ∧ nr ≤ 1000 := ⟨min (r.h.length + 2 * r.c.length) 1000, by split <;> omega, by omega, by omega⟩
    rw [hnr]
    rw [hM]; clear hM M
    refine seq_cut fun M hM => ?_
    walk_at "wp"
    refine ⟨p, ns, c, nr, rfl, hst, sc, by omega, log_small (by omega), fun y c1 y0 y1 sc => ?_⟩
    obtain ⟨n1, rfl⟩ : ∃ n : Nat, y = (n : Int) := ⟨y.toNat, by omega⟩
    refine ⟨p, ns, c1, rfl, sset_same, sc, fun n2 c2 sc => ?_⟩
    rw [sset_sset]
    refine ⟨by decide, ?_⟩
    rw [show [D.int 0, D.int (r.h.length : Int), D.int (n1 : Int), D.int (n2 : Int)] = [0, r.h.length, n1, n2].map fun (n : Nat) => D.int (n : Int) from rfl]
    refine ⟨fun i δ' μ' => ∃ x5 : Option D, μ' = sset μ p (.lst c2) ∧ δ' = [some (.hd (.ref p)), some (rwO T.c_Row r), some (.lst [.tup (r.h.map .int), .tup (r.c.map .int)]), some (.int top), some (.int nr), x5, none, none, none, none, none, none], ⟨none, rfl, rfl⟩, ?_, ?_⟩
    · rintro i d δ' μ' hi ⟨x5, rfl, rfl⟩
      rw [List.getElem?_map, Option.map_eq_some_iff] at hi
      obtain ⟨n, hn, rfl⟩ := hi
      walk_at "wp"
      refine ⟨_, e1, r, n, rfl, hr.ok, fun z => absurd z (by omega), fun m hm => ?_⟩
      obtain rfl : n = m := Int.ofNat.inj hm
      refine ⟨r, n, rfl, hr.ok.c0, ?_⟩
      exact same_self rfl (by simp [depD]) ⟨true, rfl, nofun, fun _ => ⟨_, rfl, rfl⟩⟩
    · rintro δ' μ' ⟨x5, rfl, rfl⟩
      rw [hM]; clear hM M
      refine seq_cut fun M hM => ?_
      walk_at "wp"
      obtain ⟨q2, hq2, hq21, hq22⟩ : ∃ q2 : Nat, (if (200 : Int) < (nr : Int) then (200 : Int) else (nr : Int)) + 1 = (q2 : Int) ∧ 1 ≤ q2 ∧ q2 ≤ 201 := ⟨min 200 nr + 1, by split <;> omega, by omega, by omega⟩
      rw [hq2]
      refine ⟨p, ns, c2, q2, rfl, sset_same, sc, by omega, log_small (by omega), fun y c3 y0 y1 sc => ?_⟩
      rw [sset_sset]
      obtain ⟨m1, rfl⟩ : ∃ n : Nat, y = (n : Int) := ⟨y.toNat, by omega⟩
      refine ⟨by decide, p, ns, c3, 12, rfl, sset_same, sc, by decide, by decide, fun y c4 y0 y1 sc => ?_⟩
      rw [sset_sset]
      refine ⟨_, _, rfl, ?_⟩
      obtain ⟨m2, hm2, m2b⟩ : ∃ z : Nat, atI [D.int 1000, D.int (nr : Int), D.int (nr : Int), D.int 1] (if y < 3 then y else 3) = some (.int z) ∧ z ≤ 1000 := by
        obtain ⟨q, hq⟩ : ∃ q : Nat, (if y < 3 then y else 3) = (q : Int) ∧ q ≤ 3 := ⟨(if y < 3 then y else 3).toNat, by split <;> omega, by split <;> omega⟩
        rw [hq.1]
        rcases (show q = 0 ∨ q = 1 ∨ q = 2 ∨ q = 3 by omega) with rfl | rfl | rfl | rfl
        · exact ⟨1000, atI_nat (j := 0) rfl, by decide⟩
        · exact ⟨nr, atI_nat (j := 1) rfl, nr2⟩
        · exact ⟨nr, atI_nat (j := 2) rfl, nr2⟩
        · exact ⟨1, atI_nat (j := 3) rfl, by decide⟩
      walk_at "wp"
      refine ⟨_, hm2, by decide, ?_⟩
      rw [show [D.int 0, D.int (m1 : Int), D.int (m2 : Int)] = [0, m1, m2].map fun (n : Nat) => D.int (n : Int) from rfl]
      refine ⟨fun i δ' μ' => ∃ x6 : Option D, μ' = sset μ p (.lst c4) ∧ δ' = [some (.hd (.ref p)), some (rwO T.c_Row r), some (.lst [.tup (r.h.map .int), .tup (r.c.map .int)]), some (.int top), some (.int nr), x5, x6, none, none, none, none, none], ⟨none, rfl, rfl⟩, ?_, ?_⟩
      · rintro i d δ' μ' hi ⟨x6, rfl, rfl⟩
        rw [List.getElem?_map, Option.map_eq_some_iff] at hi
        obtain ⟨n, hn, rfl⟩ := hi
        have hn1 : n ≤ 1000 := by
          have := List.mem_of_getElem? hn
          simp only [List.mem_cons, List.not_mem_nil, or_false] at this
          omega
        walk_at "wp"
        refine ⟨_, e1, r, n, rfl, hr.ok, fun z => absurd z (by omega), fun m hm _ => ?_, by omega⟩
        obtain rfl : n = m := Int.ofNat.inj hm
        walk_at "wp"
        refine ⟨by omega, by omega, lcR (m := n) (fun i => .int (ent r i)) (by omega) (fun i μ2 X hi hsub hx => ?_) ?_⟩
        · walk_at "wp"
          exact ⟨r, i, rfl, hr.ok.c0, hx⟩
        refine ⟨_, .lst _, ?_⟩
        have e2 : ((List.range n).map fun i => D.int (ent r i)) = (starts r n).map .int := by unfold starts; rw [List.map_map]; rfl
        rw [e2]
        exact same_ints (by unfold starts; simp; exact hn1) ⟨true, rfl, nofun, fun _ => ⟨_, rfl, rfl⟩⟩
      · rintro δ' μ' ⟨x6, rfl, rfl⟩
        rw [hM]; clear hM M
        refine seq_cut fun M hM => ?_
        walk_at "wp"
        refine ⟨p, ns, c4, nr, rfl, sset_same, sc, by omega, log_small (by omega), fun y c5 y0 y1 sc => ?_⟩
        rw [sset_sset]
        obtain ⟨n3, rfl⟩ : ∃ n : Nat, y = (n : Int) := ⟨y.toNat, by omega⟩
        refine ⟨p, ns, c5, rfl, sset_same, sc, fun n4 c6 sc => ?_⟩
        rw [sset_sset]
        refine ⟨by decide, ?_⟩
        rw [show [D.int 0, D.int (r.h.length : Int), D.int (n3 : Int), D.int (n4 : Int)] = [0, r.h.length, n3, n4].map fun (n : Nat) => D.int (n : Int) from rfl]
        refine ⟨fun i δ' μ' => ∃ (c' : List D) (x7 x8 x9 x10 : Option D), μ' = sset μ p (.lst c') ∧ StC ns c' ∧ δ' = [some (.hd (.ref p)), some (rwO T.c_Row r), some (.lst [.tup (r.h.map .int), .tup (r.c.map .int)]), some (.int top), some (.int nr), x5, x6, x7, x8, x9, x10, none], ⟨c6, none, none, none, none, rfl, sc, rfl⟩, ?_, ?_⟩
        · rintro i d δ' μ' hi ⟨c7, x7, x8, x9, x10, rfl, sc, rfl⟩
          rw [List.getElem?_map, Option.map_eq_some_iff] at hi
          obtain ⟨n, hn, rfl⟩ := hi
          refine seq_cut fun M2 hM2 => ?_
          walk_at "wp"
          obtain ⟨of, of1, of2⟩ := hr.ok.aft n
          obtain ⟨a3, ha3⟩ := isleast_ex of
          obtain ⟨o3, o31, o32⟩ := of.least ha3
          refine ⟨r, n, rfl, hr.ok.c0, by omega, by omega, ?_⟩
          refine ⟨aft r n, rfl, of, fun a4 ha4 => ?_⟩
          obtain rfl := ha4.uniq ha3
          rw [sd_eq a4]
          rw [hM2]; clear hM2 M2
          refine seq_cut fun M2 hM2 => ?_
          walk_at "wp"
          refine ⟨by decide, p, ns, c7, 4, rfl, sset_same, sc, by decide, by decide, fun y c8 y0 y1 sc => ?_⟩
          rw [sset_sset]
          obtain ⟨ln, hln, hln6⟩ : ∃ z : Nat, atI [D.int 0, D.int 1, D.int 2, D.int 6] y = some (.int z) ∧ z ≤ 6 := by
            obtain ⟨q, rfl⟩ : ∃ q : Nat, y = (q : Int) := ⟨y.toNat, by omega⟩
            rcases (show q = 0 ∨ q = 1 ∨ q = 2 ∨ q = 3 by omega) with rfl | rfl | rfl | rfl
            · exact ⟨0, atI_nat (j := 0) rfl, by decide⟩
            · exact ⟨1, atI_nat (j := 1) rfl, by decide⟩
            · exact ⟨2, atI_nat (j := 2) rfl, by decide⟩
            · exact ⟨6, atI_nat (j := 3) rfl, by decide⟩
          walk_at "wp"
          refine ⟨_, hln, p, ns, c8, ln, top, rfl, sset_same, sc, by omega, l1, l2, fun es c9 hes sc => ?_⟩
          rw [sset_sset]
          have hesl : es.length ≤ 6 := by rw [hes.1]; exact hln6
          have hes0 : ∀ x ∈ es, 0 ≤ x := fun x hx => (hes.2 x hx).1
          have ole := o3.led hes0 (by omega)
          obtain ⟨b3, hb3⟩ := isleast_ex ole
          obtain ⟨ob, ob1, ob2⟩ := ole.least hb3
          rw [hM2]; clear hM2 M2
          refine seq_cut fun M2 hM2 => ?_
          walk_at "wp"
          refine ⟨_, e1, r, n, rfl, hr.ok, fun z => absurd z (by omega), fun m a5 hm ha5 => ?_⟩
          obtain rfl : n = m := Int.ofNat.inj hm
          obtain rfl := ha5.uniq ha3
          rw [hM2]; clear hM2 M2
          walk_at "wps"
          refine ⟨a5, a5, rfl, o3, o3, rfl, true, rfl, nofun, fun _ => ?_⟩
          refine ⟨_, rfl, a5, es, rfl, o3, by omega, fun z => absurd hes0 z, fun _ b4 hb4 => ?_⟩
          obtain rfl := hb4.uniq hb3
          refine ⟨by omega, by decide, ?_⟩
          rw [← List.map_append]
          refine ⟨led es a5, rfl, ole, fun b5 hb5 => ?_⟩
          obtain rfl := hb5.uniq hb3
          exact ⟨b5, b5, rfl, ob, ob, rfl, true, rfl, nofun, fun _ => ⟨c9, _, _, _, _, rfl, sc, rfl⟩⟩
        · rintro δ' μ' ⟨c7, x7, x8, x9, x10, rfl, sc, rfl⟩
          rw [hM]; clear hM M
          refine seq_cut fun M hM => ?_
          walk_at "wp"
          obtain ⟨q3, hq3, hq31, hq32⟩ : ∃ q3 : Nat, (if (40 : Int) < (nr : Int) then (40 : Int) else (nr : Int)) = (q3 : Int) ∧ 1 ≤ q3 ∧ q3 ≤ 40 := ⟨min 40 nr, by split <;> omega, by omega, by omega⟩
          rw [hq3]
          refine ⟨p, ns, c7, q3, rfl, sset_same, sc, by omega, log_small (by omega), fun y c8 y0 y1 sc => ?_⟩
          rw [sset_sset]
          obtain ⟨n, rfl⟩ : ∃ n : Nat, y = (n : Int) := ⟨y.toNat, by omega⟩
          obtain ⟨of, of1, of2⟩ := hr.ok.aft n
          obtain ⟨a3, ha3⟩ := isleast_ex of
          obtain ⟨o3, o31, o32⟩ := of.least ha3
          have hst0 : ∀ x ∈ starts r n, 0 ≤ x := fun x hx => by
            unfold starts at hx
            obtain ⟨i, _, rfl⟩ := List.mem_map.mp hx
            exact hr.ok.ent0 i
          have hstl : (starts r n).length = n := by unfold starts; simp
          have ole := o3.led hst0 (by omega)
          obtain ⟨b3, hb3⟩ := isleast_ex ole
          have eb : b3 = a2 := hb3.cong ha fun i => led_starts hr.ok.c0 ha3 i
          rw [hM]; clear hM M
          refine seq_cut fun M hM => ?_
          walk_at "wp"
          refine ⟨_, e1, r, n, rfl, hr.ok, fun z => absurd z (by omega), fun m a5 hm ha5 => ?_⟩
          obtain rfl : n = m := Int.ofNat.inj hm
          obtain rfl := ha5.uniq ha3
          refine ⟨_, rfl, _, e1, r, n, rfl, hr.ok, fun z => absurd z (by omega), fun m hm _ => ?_, by omega⟩
          obtain rfl : n = m := Int.ofNat.inj hm
          refine ⟨a5, starts r n, rfl, o3, by omega, fun z => absurd hst0 z, fun _ b4 hb4 => ?_⟩
          obtain rfl : b4 = a2 := (hb4.uniq hb3).trans eb
          refine ⟨r, rfl, hr.ok, fun b5 hb5 => ?_⟩
          obtain rfl := hb5.uniq ha
          refine ⟨b5, b5, rfl, oa, oa, rfl, true, rfl, nofun, fun _ => ?_⟩
          rw [hM]; clear hM M
          walk_at "wps"
          exact ⟨r, r, rfl, hr.ok, hr.ok, rfl, ret_same (h c8 sc)⟩
end
section
variable {P : Program} {w : World} {K : Fg} {mg : Str → Option Value} {base : Heap}
def c_law : Con := fun ds μ Φ _ => ∃ ns : List Int, ds = [.scr ns] ∧ ns.length ≤ 63 ∧ Φ (.bl true) μ
theorem len_law {ds μ Φ Ψ} (h : c_law ds μ Φ Ψ) : ds.length = 1 := by obtain ⟨_, rfl, _⟩ := h; rfl
theorem ok_law (T : Txt P w K mg) : FnOk P w K mg base (L2N.CX P w) 20 T.f_law T.d_law ["_law_script"] (spOf K c_law) := by
  refine def_okC T.F_law sc_law _ (fun ds μ Φ Ψ h => len_law h) (fun cdv A outer s H E B hW hr =>
    have tk : L2N.Takes (cxOf (L2N.CX P w) P w K mg base N_law "law" (defScope s_law) T.f_law cdv A outer s H E) (fun cls d _ H => E cls d H) := L2N.takes_of rfl rfl rfl rfl
    ⟨_, (pss_cons (ps_set (i := 1) sc_law.nd rfl (Or.inl rfl) (pe_call (ok__law_start T) (hr.mono (by decide)) rfl T.g__law_start T.F__law_start.kp T.b__law_start .nil passN (pa_cons (pv 0) pa_nil)))
      (pss_cons (ps_set (i := 2) sc_law.nd rfl (Or.inl rfl) (pe_ix ix_list (pe_lst (pa_cons pe_int (pa_cons pe_int (pa_cons pe_int (pa_cons pe_int (pa_cons pe_int (pa_cons (pe_op op_pow pe_int pe_int) pa_nil))))))) (pe_call (ok__law_pick T) (hr.mono (by decide)) rfl T.g__law_pick T.F__law_pick.kp T.b__law_pick .nil passN (pa_cons (pv 1) (pa_cons pe_int pa_nil))) (fun _ _ => rfl)))
      (pss_cons (ps_set (i := 3) sc_law.nd rfl (Or.inl rfl) (pe_call (ok__law_drawn T) (hr.mono (by decide)) rfl T.g__law_drawn T.F__law_drawn.kp T.b__law_drawn .nil passN (pa_cons (pv 1) (pa_cons (pv 2) pa_nil))))
      (pss_cons (ps_set (i := 4) sc_law.nd rfl (Or.inl rfl) (pe_call (ok__law_said T) (hr.mono (by decide)) rfl T.g__law_said T.F__law_said.kp T.b__law_said .nil passN (pa_cons (pv 1) (pa_cons (pv 3) pa_nil))))
      (pss_cons (ps_if (pt_cmpR op_eq (pe_call (ok__law_pick T) (hr.mono (by decide)) rfl T.g__law_pick T.F__law_pick.kp T.b__law_pick .nil passN (pa_cons (pv 1) (pa_cons pe_int pa_nil))) pe_int (nomark _)) (pss_one (ps_set (i := 4) sc_law.nd rfl (Or.inl rfl) (pe_call (ok__law_large T) (hr.mono (by decide)) rfl T.g__law_large T.F__law_large.kp T.b__law_large .nil passN (pa_cons (pv 1) (pa_cons (pv 3) (pa_cons (pv 2) pa_nil)))))) pss_nil)
      (pss_cons (ps_set (i := 5) sc_law.nd rfl (Or.inl rfl) (pe_makeS T.mk_Row (ok_Row___init__ T) (hr.mono (by decide)) rfl T.g_Row T.b_Row___init__ (fun σ => L2N.passAt tk σ) (pa_cons (pe_ix ix_list (pv 4) pe_int (fun _ _ => rfl)) (pa_cons (pe_ix ix_list (pv 4) pe_int (fun _ _ => rfl)) pa_nil))))
      (pss_cons (ps_set (i := 6) sc_law.nd rfl (Or.inl rfl) (pe_makeSD T.mk_Row (ok_Row___init__ T) (hr.mono (by decide)) rfl T.g_Row T.bd_Row___init__.choose_spec.2 T.bd_Row___init__.choose_spec.1 (fun σ => L2N.passAt tk σ) (pa_cons (pe_ix ix_list (pv 3) pe_int (fun _ _ => rfl)) pa_nil)))
      (pss_cons (ps_if (PW.pt (pw_or (pt_not (pt_val (pe_call (ok__law_is T) (hr.mono (by decide)) rfl T.g__law_is T.F__law_is.kp T.b__law_is .nil passN (pa_cons (pv 5) (pa_cons (pv 4) pa_nil))))) (pw_or1 (pt_not (pt_val (pe_call (ok__law_is T) (hr.mono (by decide)) rfl T.g__law_is T.F__law_is.kp T.b__law_is .nil passN (pa_cons (pv 6) (pa_cons (pe_lst (pa_cons (pe_ix ix_list (pv 3) pe_int (fun _ _ => rfl)) (pa_cons (pe_tupN (pa_cons pe_int pa_nil)) pa_nil))) pa_nil)))))))) (pss_one (ps_ret pe_bl)) pss_nil)
      (pss_cons (ps_if (pt_not (pt_val (pe_call (ok__law_tells T) (hr.mono (by decide)) rfl T.g__law_tells T.F__law_tells.kp T.b__law_tells .nil passN (pa_cons (pv 1) (pa_cons (pv 5) (pa_cons (pv 4) (pa_cons (pv 2) pa_nil))))))) (pss_one (ps_ret pe_bl)) pss_nil)
      (pss_cons (ps_set (i := 7) sc_law.nd rfl (Or.inl rfl) (pe_call (ok__law_said T) (hr.mono (by decide)) rfl T.g__law_said T.F__law_said.kp T.b__law_said .nil passN (pa_cons (pv 1) (pa_cons (pv 3) pa_nil))))
      (pss_cons (ps_for (passes_of rfl) rfl (pi_list (pe_lst (pa_cons (pv 7) (pa_cons (pe_call (ok__law_missed T) (hr.mono (by decide)) rfl T.g__law_missed T.F__law_missed.kp T.b__law_missed .nil passN (pa_cons (pv 1) (pa_cons (pv 4) pa_nil))) (pa_cons (pe_call (ok__law_drawn T) (hr.mono (by decide)) rfl T.g__law_drawn T.F__law_drawn.kp T.b__law_drawn .nil passN (pa_cons (pv 1) (pa_cons (pv 2) pa_nil))) (pa_cons (pe_lst (pa_cons (pe_ix ix_list (pv 3) pe_int (fun _ _ => rfl)) (pa_cons (pe_tupN (pa_cons pe_int pa_nil)) pa_nil))) pa_nil)))))) (pg_name (i := 8) sc_law.nd rfl (Or.inl rfl)) (pss_cons (ps_set (i := 9) sc_law.nd rfl (Or.inl rfl) (pe_makeS T.mk_Row (ok_Row___init__ T) (hr.mono (by decide)) rfl T.g_Row T.b_Row___init__ (fun σ => L2N.passAt tk σ) (pa_cons (pe_ix ix_list (pv 8) pe_int (fun _ _ => rfl)) (pa_cons (pe_ix ix_list (pv 8) pe_int (fun _ _ => rfl)) pa_nil))))
      (pss_cons (ps_set (i := 10) sc_law.nd rfl (Or.inl rfl) (pe_call (ok__law_alike T) (hr.mono (by decide)) rfl T.g__law_alike T.F__law_alike.kp T.b__law_alike .nil passN (pa_cons (pv 4) (pa_cons (pv 8) pa_nil))))
      (pss_one (ps_if (PW.pt (pw_or (pt_not (pt_val (pe_call (ok__law_same T) (hr.mono (by decide)) rfl T.g__law_same T.F__law_same.kp T.b__law_same .nil passN (pa_cons (pe_call (ok_same_rows T) (hr.mono (by decide)) rfl T.g_same_rows T.F_same_rows.kp T.b_same_rows .nil passN (pa_cons (pv 5) (pa_cons (pv 9) pa_nil))) (pa_cons (pv 10) pa_nil))))) (pw_or1 (pt_not (pt_val (pe_call (ok__law_same T) (hr.mono (by decide)) rfl T.g__law_same T.F__law_same.kp T.b__law_same .nil passN (pa_cons (pe_call (ok_same_rows T) (hr.mono (by decide)) rfl T.g_same_rows T.F_same_rows.kp T.b_same_rows .nil passN (pa_cons (pv 9) (pa_cons (pv 5) pa_nil))) (pa_cons (pv 10) pa_nil)))))))) (pss_one (ps_ret pe_bl)) pss_nil)))))
      (pss_cons (ps_if (pt_not (pt_val (pe_call (ok__law_same T) (hr.mono (by decide)) rfl T.g__law_same T.F__law_same.kp T.b__law_same .nil passN (pa_cons (pe_call (ok_same_rows T) (hr.mono (by decide)) rfl T.g_same_rows T.F_same_rows.kp T.b_same_rows .nil passN (pa_cons (pv 6) (pa_cons (pv 5) pa_nil))) (pa_cons (pe_call (ok__law_alike T) (hr.mono (by decide)) rfl T.g__law_alike T.F__law_alike.kp T.b__law_alike .nil passN (pa_cons (pe_lst (pa_cons (pe_ix ix_list (pv 3) pe_int (fun _ _ => rfl)) (pa_cons (pe_tupN (pa_cons pe_int pa_nil)) pa_nil))) (pa_cons (pv 4) pa_nil))) pa_nil))))) (pss_one (ps_ret pe_bl)) pss_nil)
      (pss_cons (ps_if (PW.pt (pw_or (pt_not (pt_val (pe_call (ok__law_refuses T) (hr.mono (by decide)) rfl T.g__law_refuses T.F__law_refuses.kp T.b__law_refuses .nil passN (pa_cons (pv 1) (pa_cons (pv 5) (pa_cons (pv 4) pa_nil)))))) (pw_or1 (pt_not (pt_val (pe_call (ok__law_tells T) (hr.mono (by decide)) rfl T.g__law_tells T.F__law_tells.kp T.b__law_tells .nil passN (pa_cons (pv 1) (pa_cons (pv 6) (pa_cons (pe_lst (pa_cons (pe_ix ix_list (pv 3) pe_int (fun _ _ => rfl)) (pa_cons (pe_tupN (pa_cons pe_int pa_nil)) pa_nil))) (pa_cons (pv 2) pa_nil)))))))))) (pss_one (ps_ret pe_bl)) pss_nil)
      (pss_one (ps_ret (pe_and (pe_call (ok__law_is T) (hr.mono (by decide)) rfl T.g__law_is T.F__law_is.kp T.b__law_is .nil passN (pa_cons (pv 5) (pa_cons (pv 4) pa_nil))) (pe_one (pe_call (ok__law_is T) (hr.mono (by decide)) rfl T.g__law_is T.F__law_is.kp T.b__law_is .nil passN (pa_cons (pe_methX0 (pl := _) (pv 5) T.cls_Row T.me_Row_least (ok_Row_least T) (hr.mono (by decide)) T.b_Row_least (fun σ => L2N.passAt tk σ)) (pa_cons (pe_call (ok__law_least T) (hr.mono (by decide)) rfl T.g__law_least T.F__law_least.kp T.b__law_least .nil passN (pa_cons (pv 4) pa_nil)) pa_nil)))))))))))))))))))),
      (sSeq (sAsg (sCall (sCons sVar sNil)) sName)
      (sSeq (sAsg (sOp roIxL (sLst (sCons sInt (sCons sInt (sCons sInt (sCons sInt (sCons sInt (sCons (sOp roInt sInt sInt) sNil))))))) (sCall (sCons sVar (sCons sInt sNil)))) sName)
      (sSeq (sAsg (sCall (sCons sVar (sCons sVar sNil))) sName)
      (sSeq (sAsg (sCall (sCons sVar (sCons sVar sNil))) sName)
      (sSeq (sIfS (sTest (sOp roEq (sCall (sCons sVar (sCons sInt sNil))) sInt)) (sAsg (sCall (sCons sVar (sCons sVar (sCons sVar sNil)))) sName) sNext)
      (sSeq (sAsg (sMakeSW (W := fun cls d _ H => E cls d H) (by exact hW) (sCons (sOp roIxL sVar sInt) (sCons (sOp roIxL sVar sInt) sNil))) sName)
      (sSeq (sAsg (sMakeSD (W := fun cls d _ H => E cls d H) (by exact hW) (dfl_tup T.q_Row___init__) (sCons (sOp roIxL sVar sInt) sNil)) sName)
      (sSeq (sIfS (sOr (sNot (sB (sCall (sCons sVar (sCons sVar sNil))))) (sNot (sB (sCall (sCons sVar (sCons (sLst (sCons (sOp roIxL sVar sInt) (sCons (sTup (sCons sInt sNil)) sNil))) sNil)))))) (sRet sBl) sNext)
      (sSeq (sIfS (sNot (sB (sCall (sCons sVar (sCons sVar (sCons sVar (sCons sVar sNil))))))) (sRet sBl) sNext)
      (sSeq (sAsg (sCall (sCons sVar (sCons sVar sNil))) sName)
      (sSeq (sFor (siL (sLst (sCons sVar (sCons (sCall (sCons sVar (sCons sVar sNil))) (sCons (sCall (sCons sVar (sCons sVar sNil))) (sCons (sLst (sCons (sOp roIxL sVar sInt) (sCons (sTup (sCons sInt sNil)) sNil))) sNil)))))) (fun _ _ _ => sName) (fun _ _ _ => (sSeq (sAsg (sMakeSW (W := fun cls d _ H => E cls d H) (by exact hW) (sCons (sOp roIxL sVar sInt) (sCons (sOp roIxL sVar sInt) sNil))) sName)
      (sSeq (sAsg (sCall (sCons sVar (sCons sVar sNil))) sName)
      (sIfS (sOr (sNot (sB (sCall (sCons (sCall (sCons sVar (sCons sVar sNil))) (sCons sVar sNil))))) (sNot (sB (sCall (sCons (sCall (sCons sVar (sCons sVar sNil))) (sCons sVar sNil)))))) (sRet sBl) sNext)))))
      (sSeq (sIfS (sNot (sB (sCall (sCons (sCall (sCons sVar (sCons sVar sNil))) (sCons (sCall (sCons (sLst (sCons (sOp roIxL sVar sInt) (sCons (sTup (sCons sInt sNil)) sNil))) (sCons sVar sNil))) sNil))))) (sRet sBl) sNext)
      (sSeq (sIfS (sOr (sNot (sB (sCall (sCons sVar (sCons sVar (sCons sVar sNil)))))) (sNot (sB (sCall (sCons sVar (sCons sVar (sCons (sLst (sCons (sOp roIxL sVar sInt) (sCons (sTup (sCons sInt sNil)) sNil))) (sCons sVar sNil)))))))) (sRet sBl) sNext)
      (sRet (sAndV (sCall (sCons sVar (sCons sVar sNil))) (sCall (sCons (sMethXW (NS := NSA) (W := fun cls d _ H => E cls d H) (by decide) (by exact hW) sVar sNil) (sCons (sCall (sCons sVar sNil)) sNil))))))))))))))))))⟩) (fun ds μ Φ Ψ h => ?hv)
  case hv =>
    obtain ⟨ns, rfl, hlen, h⟩ := h
    refine seq_cut fun M hM => ?_
    walk_at "wp"
    refine ⟨ns, rfl, hlen, fun p c hp sc => ?_⟩
    have fin : ∀ c' : List D, ∃ μ2, DW.Sub μ2 (sset μ p (.lst c')) ∧ Φ (.bl true) μ2 := fun c' => ⟨μ, Sub.set Sub.refl hp, h⟩
    rw [hM]; clear hM M
    refine seq_cut fun M hM => ?_
    walk_at "wp"
    refine ⟨⟨by decide, by decide, by decide⟩, by decide, p, ns, c, 6, rfl, sset_same, sc, by decide, by decide, fun y c1 y0 y1 sc => ?_⟩
    rw [sset_sset]
    obtain ⟨top, ht, t1, t2⟩ : ∃ k : Nat, atI [D.int 1, D.int 2, D.int 2, D.int 3, D.int 10, D.int (10 ^ Int.toNat 12)] y = some (.int k) ∧ 1 ≤ k ∧ k ≤ 1000000000000 := by
      obtain ⟨q, rfl⟩ : ∃ q : Nat, y = (q : Int) := ⟨y.toNat, by omega⟩
      rcases (show q = 0 ∨ q = 1 ∨ q = 2 ∨ q = 3 ∨ q = 4 ∨ q = 5 by omega) with rfl | rfl | rfl | rfl | rfl | rfl
      · exact ⟨1, atI_nat (j := 0) rfl, by decide, by decide⟩
      · exact ⟨2, atI_nat (j := 1) rfl, by decide, by decide⟩
      · exact ⟨2, atI_nat (j := 2) rfl, by decide, by decide⟩
      · exact ⟨3, atI_nat (j := 3) rfl, by decide, by decide⟩
      · exact ⟨10, atI_nat (j := 4) rfl, by decide, by decide⟩
      · exact ⟨1000000000000, atI_nat (j := 5) rfl, by decide, by decide⟩
    walk_at "wp"
    refine ⟨_, ht, ?_⟩
    rw [hM]; clear hM M
    refine seq_cut fun M hM => ?_
    walk_at "wp"
    refine ⟨p, ns, c1, top, rfl, sset_same, sc, t1, t2, fun b0 c2 hb0 sc => ?_⟩
    rw [sset_sset]
    rw [hM]; clear hM M
    refine seq_cut fun M hM => ?_
    walk_at "wp"
    refine ⟨p, ns, c2, b0, rfl, sset_same, sc, hb0, fun s0 c3 hs0 sc => ?_⟩
    rw [sset_sset]
    rw [hM]; clear hM M
    refine seq_cut fun M hM => ?_
    have main : ∀ (r : Rw) (c4 : List D), Bd r 400 400 → StC ns c4 → M [some (.scr ns), some (.hd (.ref p)), some (.int top), some (sdD b0), some (sdD r), none, none, none, none, none, none] (sset μ p (.lst c4)) := fun r c4 hr sc => by
      rw [hM]; clear hM M
      rw [sd_eq r, sd_eq b0]
      refine seq_cut fun M hM => ?_
      walk_at "wp"
      have r1 := hr.ha
      have r2 := hr.cb
      have b1 := hb0.ha
      have b2 := hb0.cb
      intro x hx
      refine ⟨x, r.h, r.c, rfl, by omega, by omega, sset_same, fun z => absurd ⟨hr.ok.c0, fun v hv => (List.mem_append.mp hv).elim (hr.ok.hp v) (hr.ok.cp v)⟩ z, fun _ => ⟨rfl, NSA, _, sset_same, ?_⟩⟩
      rw [sset_sset, sdel_sset hx]
      clear hx x
      rw [show D.obj T.c_Row NSA [.tup (r.h.map .int), .tup (r.c.map .int)] = rwO T.c_Row r from rfl]
      rw [hM]; clear hM M
      refine seq_cut fun M hM => ?_
      walk_at "wp"
      obtain ⟨pl, hpl⟩ : ∃ pl : Rw, pl = ⟨b0.h, [0]⟩ := ⟨_, rfl⟩
      have hpo : RwOk pl := by rw [hpl]; exact ⟨nofun, hb0.ok.hl, by show 1 ≤ 1000; decide, hb0.ok.hp, fun x hx => by rw [List.mem_singleton.mp hx]; decide⟩
      have hpb : Bd pl 400 400 := ⟨hpo, by rw [hpl]; show b0.h.length ≤ 400; omega, by rw [hpl]; show 1 ≤ 400; decide⟩
      intro x hx
      refine ⟨x, b0.h, [0], rfl, by omega, by decide, sset_same, fun z => absurd ⟨nofun, fun v hv => (List.mem_append.mp hv).elim (hb0.ok.hp v) fun q => by rw [List.mem_singleton.mp q]; decide⟩ z, fun _ => ⟨rfl, NSA, _, sset_same, ?_⟩⟩
      rw [sset_sset, sdel_sset hx]
      clear hx x
      rw [show D.obj T.c_Row NSA [.tup (b0.h.map .int), .tup (([0] : List Int).map .int)] = rwO T.c_Row pl by rw [hpl]; rfl]
      rw [hM]; clear hM M
      refine seq_cut fun M hM => ?_
      walk_at "wp"
      refine ⟨r, r, rfl, hr.ok, hr.ok, rfl, true, rfl, nofun, fun _ => ⟨by decide, by decide, pl, pl, by rw [sd_eq pl, hpl]; rfl, hpo, hpo, rfl, true, rfl, nofun, fun _ => ?_⟩⟩
      rw [hM]; clear hM M
      refine seq_cut fun M hM => ?_
      walk_at "wp"
      refine ⟨p, ns, c4, r, top, rfl, sset_same, sc, hr, t1, t2, fun c5 sc => ?_⟩
      rw [sset_sset]
      refine ⟨true, rfl, nofun, fun _ => ?_⟩
      rw [hM]; clear hM M
      refine seq_cut fun M hM => ?_
      walk_at "wp"
      refine ⟨p, ns, c5, b0, rfl, sset_same, sc, hb0, fun q1 c6 hq1 sc => ?_⟩
      rw [sset_sset]
      rw [hM]; clear hM M
      refine seq_cut fun M hM => ?_
      walk_at "wp"
      refine ⟨p, ns, c6, r, rfl, sset_same, sc, hr, fun q2 c7 hq2 sc => ?_⟩
      rw [sset_sset]
      refine ⟨p, ns, c7, top, rfl, sset_same, sc, t1, t2, fun q3 c8 hq3 sc => ?_⟩
      rw [sset_sset]
      refine ⟨by decide, by decide, by decide, ?_⟩
      have hq3' : Bd q3 400 400 := ⟨hq3.ok, by have := hq3.ha; omega, by have := hq3.cb; omega⟩
      obtain ⟨Qs, hQs⟩ : ∃ Qs : List Rw, Qs = [q1, q2, q3, pl] := ⟨_, rfl⟩
      have hQ : ∀ q ∈ Qs, Bd q 400 400 := by
        rw [hQs]
        intro q hq
        simp only [List.mem_cons, List.not_mem_nil, or_false] at hq
        rcases hq with rfl | rfl | rfl | rfl
        · exact hq1
        · exact hq2
        · exact hq3'
        · exact hpb
      rw [show [sdD q1, sdD q2, sdD q3, D.lst [D.tup (b0.h.map D.int), D.tup [D.int 0]]] = Qs.map sdD by rw [hQs, show D.lst [D.tup (b0.h.map D.int), D.tup [D.int 0]] = sdD pl by rw [sd_eq pl, hpl]; rfl]; rfl]
      obtain ⟨ar, har⟩ := isleast_ex hr.ok
      have alike1 : ∀ (q : Rw) (Z : DK) (Y : XD → Sto → Prop) (μ' : Sto), Bd q 400 400 → (∀ b : Bool, (∀ (x y : Rw) (Z2 : DK) (Y2 : XD → Sto → Prop) (μ2 : Sto), ((x = r ∧ y = q) ∨ (x = q ∧ y = r)) → Z2 (.bl true) μ2 → c_same_rows T.c_Row [rwO T.c_Row x, rwO T.c_Row y] μ2 (fun d μ3 => c__law_same 8 [d, .bl b] μ3 Z2 Y2) Y2) → Z (.bl b) μ') → c__law_alike [sdD r, sdD q] μ' Z Y := fun q Z Y μ' hq hz => by
        refine ⟨r, q, rfl, hr, hq, fun b hb => hz b fun x y Z2 Y2 μ2 hxy h2 => ?_⟩
        obtain ⟨aq, haq⟩ := isleast_ex hq.ok
        rcases hxy with ⟨rfl, rfl⟩ | ⟨rfl, rfl⟩
        · refine ⟨_, _, rfl, hr.ok, hq.ok, fun a b2 ha hb2 => ?_⟩
          have e : decide (a.h = b2.h ∧ a.c = b2.c) = b := by rw [Bool.eq_iff_iff, decide_eq_true_eq, hb]; exact least_iff ha hb2
          rw [e]
          exact same_self rfl (by simp [depD]) h2
        · refine ⟨_, _, rfl, hq.ok, hr.ok, fun a b2 ha hb2 => ?_⟩
          have e : decide (a.h = b2.h ∧ a.c = b2.c) = b := by
            rw [Bool.eq_iff_iff, decide_eq_true_eq, hb]
            exact (least_iff ha hb2).trans ⟨fun g i => (g i).symm, fun g i => (g i).symm⟩
          rw [e]
          exact same_self rfl (by simp [depD]) h2
      refine ⟨fun i δ' μ' => ∃ (x8 x9 x10 : Option D), μ' = sset μ p (.lst c8) ∧ δ' = [some (.scr ns), some (.hd (.ref p)), some (.int top), some (.lst [.tup (b0.h.map .int), .tup (b0.c.map .int)]), some (.lst [.tup (r.h.map .int), .tup (r.c.map .int)]), some (rwO T.c_Row r), some (rwO T.c_Row pl), some (sdD q1), x8, x9, x10], ⟨none, none, none, rfl, rfl⟩, ?_, ?_⟩
      · rintro i d δ' μ' hi ⟨x8, x9, x10, rfl, rfl⟩
        rw [List.getElem?_map, Option.map_eq_some_iff] at hi
        obtain ⟨q, hq, rfl⟩ := hi
        have hqb := hQ q (List.mem_of_getElem? hq)
        have hq1' := hqb.ha
        have hq2' := hqb.cb
        rw [sd_eq q]
        refine seq_cut fun M2 hM2 => ?_
        walk_at "wp"
        intro x hx
        refine ⟨x, q.h, q.c, rfl, by omega, by omega, sset_same, fun z => absurd ⟨hqb.ok.c0, fun v hv => (List.mem_append.mp hv).elim (hqb.ok.hp v) (hqb.ok.cp v)⟩ z, fun _ => ⟨rfl, NSA, _, sset_same, ?_⟩⟩
        rw [sset_sset, sdel_sset hx]
        clear hx x
        rw [show D.obj T.c_Row NSA [.tup (q.h.map .int), .tup (q.c.map .int)] = rwO T.c_Row q from rfl]
        rw [hM2]; clear hM2 M2
        refine seq_cut fun M2 hM2 => ?_
        walk_at "wp"
        refine alike1 q _ _ _ hqb fun b hb => ?_
        rw [hM2]; clear hM2 M2
        walk_at "wps"
        exact hb r q _ _ _ (.inl ⟨rfl, rfl⟩) ⟨true, rfl, nofun, fun _ => hb q r _ _ _ (.inr ⟨rfl, rfl⟩) ⟨true, rfl, nofun, fun _ => ⟨_, _, _, rfl, rfl⟩⟩⟩
      · rintro δ' μ' ⟨x8, x9, x10, rfl, rfl⟩
        rw [hM]; clear hM M
        refine seq_cut fun M hM => ?_
        walk_at "wp"
        have epl : D.lst [D.tup (b0.h.map D.int), D.tup [D.int 0]] = sdD pl := by rw [sd_eq pl, hpl]; rfl
        refine ⟨pl, r, rfl, hpo, hr.ok, fun a b ha hb => ⟨by decide, by decide, pl, r, by rw [epl, sd_eq r], hpb, hr, fun bb hbb => ?_⟩⟩
        have e : decide (a.h = b.h ∧ a.c = b.c) = bb := by rw [Bool.eq_iff_iff, decide_eq_true_eq, hbb]; exact least_iff ha hb
        rw [e]
        refine same_self rfl (by simp [depD]) ⟨true, rfl, nofun, fun _ => ?_⟩
        rw [hM]; clear hM M
        refine seq_cut fun M hM => ?_
        walk_at "wp"
        refine ⟨p, ns, c8, r, by rw [sd_eq r], sset_same, sc, hr, fun c9 sc => ?_⟩
        rw [sset_sset]
        refine ⟨true, rfl, nofun, fun _ => ⟨by decide, by decide, p, ns, c9, pl, top, by rw [epl], sset_same, sc, hpb, t1, t2, fun c10 sc => ?_⟩⟩
        rw [sset_sset]
        refine ⟨true, rfl, nofun, fun _ => ?_⟩
        rw [hM]; clear hM M
        walk_at "wps"
        refine ⟨r, r, by rw [sd_eq r], hr.ok, hr.ok, rfl, true, rfl, fun _ => ?_, nofun⟩
        refine ⟨_, rfl, r, rfl, hr.ok, fun a ha => ?_⟩
        refine ⟨r, by rw [sd_eq r], hr.ok, fun a2 ha2 => ?_⟩
        obtain rfl := ha2.uniq ha
        have oa := (hr.ok.least ha).1
        exact ⟨a2, a2, rfl, oa, oa, rfl, fin c10⟩
    walk_at "wp"
    refine ⟨p, ns, c3, 15, rfl, sset_same, sc, by decide, by decide, fun y c4 y0 y1 sc => ?_⟩
    rw [sset_sset]
    walk_at "wp"
    refine ⟨fun _ => ⟨p, ns, c4, b0, top, rfl, sset_same, sc, hb0, t1, t2, fun q0 c5 hq0 sc => ?_⟩, fun _ => main s0 c4 hs0 sc⟩
    rw [sset_sset]
    exact main q0 c5 hq0 sc
end
end LW
set_option Elab.async false
set_option linter.all false
set_option maxRecDepth 100000
set_option maxHeartbeats 4000000
namespace LW
open PySem PySem.Spec L2 DW PyProof.Rows NdefX
theorem kit_refS {K : PySem.W.Frag} {R C : Addr} {b : Bool} (h0 : PySem.W.subIn K (.ref R) (.ref R) = some true) (h1 : PySem.W.isClsIn K C = true) (h2 : PySem.W.typeIn K (.ref C) = some (.type "type")) (h3 : PySem.W.subIn K (.ref R) (.ref C) = some b) : PySem.W.kitOne K (.ref R) (.ref C) = some b := by
  unfold PySem.W.kitOne
  by_cases e : R = C
  · subst e
    rw [h0] at h3
    rw [if_pos (by simp)]
    exact h3
  · rw [if_neg (by simp [e])]
    have h1' : (PySem.W.clsIn K C).isSome = true := h1
    show (if ((PySem.W.clsIn K C).isSome && PySem.W.typeIn K (.ref C) == some (.type "type")) = true then PySem.W.subIn K (.ref R) (.ref C) else none) = some b
    rw [if_pos (by rw [h1', h2] <;> rfl)]
    exact h3
theorem kit_tyS {K : PySem.W.Frag} {R : Addr} {T : String} {b : Bool} (h1 : PySem.W.kitMeta T = true) (h3 : PySem.W.subIn K (.ref R) (.type T) = some b) : PySem.W.kitOne K (.ref R) (.type T) = some b := by
  unfold PySem.W.kitOne
  rw [if_neg (by simp)]
  show (if PySem.W.kitMeta T = true then PySem.W.subIn K (.ref R) (.type T) else none) = some b
  rw [if_pos h1]
  exact h3
open PyProof.Rows in
theorem all_mk {P : Program} {w : World} {K : PySem.W.Frag} {h : Heap} {mg : Str → Option Value} {fa f0 f1 f2 f3 f4 f5 f6 f7 f8 f9 f10 f11 f12 f13 f14 f15 f16 f17 f18 f19 f20 f21 f22 f23 f24 f25 f26 f27 f28 f29 c_OutOfRange c_SizeMismatch c_InvalidTerm c_TooLarge c_ChoosersError c_Row : Addr} (X : K.In h) (G : h.Ns mainGlobals mg) (hfa : mg "law" = some (.ref fa))
    {od0 an0 od1 an1 od2 an2 od3 an3 od4 an4 od5 an5 od6 an6 od7 an7 od8 an8 od9 an9 od10 an10 od11 an11 od12 an12 od13 an13 od14 an14 od15 an15 od16 an16 od17 an17 od18 an18 od19 an19 od20 an20 od21 an21 od22 an22 od23 an23 od24 an24 od25 an25 od26 an26 od27 an27 od28 an28 od29 an29 : Option Addr} {sl0 sl1 sl2 sl3 sl4 sl5 sl6 sl7 sl8 sl9 sl10 sl11 sl12 sl13 sl14 sl15 sl16 sl17 sl18 sl19 sl20 sl21 sl22 sl23 sl24 sl25 sl26 sl27 sl28 sl29 : Array (Option Value)} {oc0 kV0 dc0 pm0 cd0 ct0 oc1 kV1 dc1 pm1 cd1 ct1 oc2 kV2 dc2 pm2 cd2 ct2 oc3 kV3 dc3 pm3 cd3 ct3 oc4 kV4 dc4 pm4 cd4 ct4 oc5 kV5 dc5 pm5 cd5 ct5 oc6 kV6 dc6 pm6 cd6 ct6 oc7 kV7 dc7 pm7 cd7 ct7 oc8 kV8 dc8 pm8 cd8 ct8 oc9 kV9 dc9 pm9 cd9 ct9 oc10 kV10 dc10 pm10 cd10 ct10 oc11 kV11 dc11 pm11 cd11 ct11 oc12 kV12 dc12 pm12 cd12 ct12 oc13 kV13 dc13 pm13 cd13 ct13 oc14 kV14 dc14 pm14 cd14 ct14 oc15 kV15 dc15 pm15 cd15 ct15 oc16 kV16 dc16 pm16 cd16 ct16 oc17 kV17 dc17 pm17 cd17 ct17 oc18 kV18 dc18 pm18 cd18 ct18 oc19 kV19 dc19 pm19 cd19 ct19 oc20 kV20 dc20 pm20 cd20 ct20 oc21 kV21 dc21 pm21 cd21 ct21 oc22 kV22 dc22 pm22 cd22 ct22 oc23 kV23 dc23 pm23 cd23 ct23 oc24 kV24 dc24 pm24 cd24 ct24 oc25 kV25 dc25 pm25 cd25 ct25 oc26 kV26 dc26 pm26 cd26 ct26 oc27 kV27 dc27 pm27 cd27 ct27 oc28 kV28 dc28 pm28 cd28 ct28 oc29 kV29 dc29 pm29 cd29 ct29 : Value} {dT3 dA3 : Addr} {dc03 : Value} {dd03 : Option Addr} {ditT3 ditA3 : Array Value} {dnT3 dnA3 : Nat} {dsT3 dsA3 : Array (Option Value)}
    (g_Row : PySem.W.nsIn K mainGlobals "Row" = some (some (.ref c_Row)))
    (a0 : PySem.W.nsIn K mainGlobals "shortest_cycle" = some (some (.ref f0)))
    (l0 : K.lookup f0 = some ⟨oc0, od0, .func (PySem.W.fnOf "shortest_cycle" "shortest_cycle" (defArgs s_shortest_cycle) (defBody s_shortest_cycle) (defScope s_shortest_cycle) .none kV0 dc0 pm0 an0 cd0 ct0), sl0⟩)
    (c0 : PySem.W.codeIn K cd0 "shortest_cycle" = true)
    (k0 : PySem.W.keepIn K (.ref f0) = true)
    (a1 : PySem.W.nsIn K mainGlobals "turned_cycle" = some (some (.ref f1)))
    (l1 : K.lookup f1 = some ⟨oc1, od1, .func (PySem.W.fnOf "turned_cycle" "turned_cycle" (defArgs s_turned_cycle) (defBody s_turned_cycle) (defScope s_turned_cycle) .none kV1 dc1 pm1 an1 cd1 ct1), sl1⟩)
    (c1 : PySem.W.codeIn K cd1 "turned_cycle" = true)
    (k1 : PySem.W.keepIn K (.ref f1) = true)
    (a2 : PySem.W.nsIn K mainGlobals "count_spare" = some (some (.ref f2)))
    (l2 : K.lookup f2 = some ⟨oc2, od2, .func (PySem.W.fnOf "count_spare" "count_spare" (defArgs s_count_spare) (defBody s_count_spare) (defScope s_count_spare) .none kV2 dc2 pm2 an2 cd2 ct2), sl2⟩)
    (c2 : PySem.W.codeIn K cd2 "count_spare" = true)
    (k2 : PySem.W.keepIn K (.ref f2) = true)
    (a3 : PySem.W.findIn K (.ref c_Row) "__init__" = some (some (.ref f3)))
    (i3 : PySem.W.isFn K (.ref f3) = true)
    (l3 : K.lookup f3 = some ⟨oc3, od3, .func (PySem.W.fnOf "__init__" "Row.__init__" (defArgs s_Row___init__) (defBody s_Row___init__) (defScope s_Row___init__) (.ref dT3) kV3 dc3 pm3 an3 cd3 ct3), sl3⟩)
    (dl3 : K.lookup dT3 = some ⟨dc03, dd03, .seq ditT3 dnT3, dsT3⟩)
    (dv3 : Vals [V.ref dA3] ditT3.toList)
    (dt3 : K.lookup dA3 = some ⟨.type "tuple", none, .seq ditA3 dnA3, dsA3⟩)
    (dw3 : Vals (([0] : List Int).map V.int) ditA3.toList)
    (dz3 : ditA3.size ≤ sizeLine)
    (c3 : PySem.W.codeIn K cd3 "Row.__init__" = true)
    (k3 : PySem.W.keepIn K (.ref f3) = true)
    (a4 : PySem.W.findIn K (.ref c_Row) "__getitem__" = some (some (.ref f4)))
    (i4 : PySem.W.isFn K (.ref f4) = true)
    (l4 : K.lookup f4 = some ⟨oc4, od4, .func (PySem.W.fnOf "__getitem__" "Row.__getitem__" (defArgs s_Row___getitem__) (defBody s_Row___getitem__) (defScope s_Row___getitem__) .none kV4 dc4 pm4 an4 cd4 ct4), sl4⟩)
    (c4 : PySem.W.codeIn K cd4 "Row.__getitem__" = true)
    (k4 : PySem.W.keepIn K (.ref f4) = true)
    (a5 : PySem.W.findIn K (.ref c_Row) "start" = some (some (.ref f5)))
    (i5 : PySem.W.isFn K (.ref f5) = true)
    (l5 : K.lookup f5 = some ⟨oc5, od5, .func (PySem.W.fnOf "start" "Row.start" (defArgs s_Row_start) (defBody s_Row_start) (defScope s_Row_start) .none kV5 dc5 pm5 an5 cd5 ct5), sl5⟩)
    (c5 : PySem.W.codeIn K cd5 "Row.start" = true)
    (k5 : PySem.W.keepIn K (.ref f5) = true)
    (a6 : PySem.W.findIn K (.ref c_Row) "least" = some (some (.ref f6)))
    (i6 : PySem.W.isFn K (.ref f6) = true)
    (l6 : K.lookup f6 = some ⟨oc6, od6, .func (PySem.W.fnOf "least" "Row.least" (defArgs s_Row_least) (defBody s_Row_least) (defScope s_Row_least) .none kV6 dc6 pm6 an6 cd6 ct6), sl6⟩)
    (c6 : PySem.W.codeIn K cd6 "Row.least" = true)
    (k6 : PySem.W.keepIn K (.ref f6) = true)
    (a7 : PySem.W.findIn K (.ref c_Row) "after" = some (some (.ref f7)))
    (i7 : PySem.W.isFn K (.ref f7) = true)
    (l7 : K.lookup f7 = some ⟨oc7, od7, .func (PySem.W.fnOf "after" "Row.after" (defArgs s_Row_after) (defBody s_Row_after) (defScope s_Row_after) .none kV7 dc7 pm7 an7 cd7 ct7), sl7⟩)
    (c7 : PySem.W.codeIn K cd7 "Row.after" = true)
    (k7 : PySem.W.keepIn K (.ref f7) = true)
    (a8 : PySem.W.findIn K (.ref c_Row) "lead" = some (some (.ref f8)))
    (i8 : PySem.W.isFn K (.ref f8) = true)
    (l8 : K.lookup f8 = some ⟨oc8, od8, .func (PySem.W.fnOf "lead" "Row.lead" (defArgs s_Row_lead) (defBody s_Row_lead) (defScope s_Row_lead) .none kV8 dc8 pm8 an8 cd8 ct8), sl8⟩)
    (c8 : PySem.W.codeIn K cd8 "Row.lead" = true)
    (k8 : PySem.W.keepIn K (.ref f8) = true)
    (a9 : PySem.W.nsIn K mainGlobals "same_rows" = some (some (.ref f9)))
    (l9 : K.lookup f9 = some ⟨oc9, od9, .func (PySem.W.fnOf "same_rows" "same_rows" (defArgs s_same_rows) (defBody s_same_rows) (defScope s_same_rows) .none kV9 dc9 pm9 an9 cd9 ct9), sl9⟩)
    (c9 : PySem.W.codeIn K cd9 "same_rows" = true)
    (k9 : PySem.W.keepIn K (.ref f9) = true)
    (a10 : PySem.W.nsIn K mainGlobals "_law_start" = some (some (.ref f10)))
    (l10 : K.lookup f10 = some ⟨oc10, od10, .func (PySem.W.fnOf "_law_start" "_law_start" (defArgs s__law_start) (defBody s__law_start) (defScope s__law_start) .none kV10 dc10 pm10 an10 cd10 ct10), sl10⟩)
    (c10 : PySem.W.codeIn K cd10 "_law_start" = true)
    (k10 : PySem.W.keepIn K (.ref f10) = true)
    (a11 : PySem.W.nsIn K mainGlobals "_law_pick" = some (some (.ref f11)))
    (l11 : K.lookup f11 = some ⟨oc11, od11, .func (PySem.W.fnOf "_law_pick" "_law_pick" (defArgs s__law_pick) (defBody s__law_pick) (defScope s__law_pick) .none kV11 dc11 pm11 an11 cd11 ct11), sl11⟩)
    (c11 : PySem.W.codeIn K cd11 "_law_pick" = true)
    (k11 : PySem.W.keepIn K (.ref f11) = true)
    (a12 : PySem.W.nsIn K mainGlobals "_law_same" = some (some (.ref f12)))
    (l12 : K.lookup f12 = some ⟨oc12, od12, .func (PySem.W.fnOf "_law_same" "_law_same" (defArgs s__law_same) (defBody s__law_same) (defScope s__law_same) .none kV12 dc12 pm12 an12 cd12 ct12), sl12⟩)
    (c12 : PySem.W.codeIn K cd12 "_law_same" = true)
    (k12 : PySem.W.keepIn K (.ref f12) = true)
    (a13 : PySem.W.nsIn K mainGlobals "_law_entry" = some (some (.ref f13)))
    (l13 : K.lookup f13 = some ⟨oc13, od13, .func (PySem.W.fnOf "_law_entry" "_law_entry" (defArgs s__law_entry) (defBody s__law_entry) (defScope s__law_entry) .none kV13 dc13 pm13 an13 cd13 ct13), sl13⟩)
    (c13 : PySem.W.codeIn K cd13 "_law_entry" = true)
    (k13 : PySem.W.keepIn K (.ref f13) = true)
    (a14 : PySem.W.nsIn K mainGlobals "_law_least" = some (some (.ref f14)))
    (l14 : K.lookup f14 = some ⟨oc14, od14, .func (PySem.W.fnOf "_law_least" "_law_least" (defArgs s__law_least) (defBody s__law_least) (defScope s__law_least) .none kV14 dc14 pm14 an14 cd14 ct14), sl14⟩)
    (c14 : PySem.W.codeIn K cd14 "_law_least" = true)
    (k14 : PySem.W.keepIn K (.ref f14) = true)
    (a15 : PySem.W.nsIn K mainGlobals "_law_after" = some (some (.ref f15)))
    (l15 : K.lookup f15 = some ⟨oc15, od15, .func (PySem.W.fnOf "_law_after" "_law_after" (defArgs s__law_after) (defBody s__law_after) (defScope s__law_after) .none kV15 dc15 pm15 an15 cd15 ct15), sl15⟩)
    (c15 : PySem.W.codeIn K cd15 "_law_after" = true)
    (k15 : PySem.W.keepIn K (.ref f15) = true)
    (a16 : PySem.W.nsIn K mainGlobals "_law_is" = some (some (.ref f16)))
    (l16 : K.lookup f16 = some ⟨oc16, od16, .func (PySem.W.fnOf "_law_is" "_law_is" (defArgs s__law_is) (defBody s__law_is) (defScope s__law_is) .none kV16 dc16 pm16 an16 cd16 ct16), sl16⟩)
    (c16 : PySem.W.codeIn K cd16 "_law_is" = true)
    (k16 : PySem.W.keepIn K (.ref f16) = true)
    (a17 : PySem.W.nsIn K mainGlobals "_law_lot" = some (some (.ref f17)))
    (l17 : K.lookup f17 = some ⟨oc17, od17, .func (PySem.W.fnOf "_law_lot" "_law_lot" (defArgs s__law_lot) (defBody s__law_lot) (defScope s__law_lot) .none kV17 dc17 pm17 an17 cd17 ct17), sl17⟩)
    (c17 : PySem.W.codeIn K cd17 "_law_lot" = true)
    (k17 : PySem.W.keepIn K (.ref f17) = true)
    (a18 : PySem.W.nsIn K mainGlobals "_law_drawn" = some (some (.ref f18)))
    (l18 : K.lookup f18 = some ⟨oc18, od18, .func (PySem.W.fnOf "_law_drawn" "_law_drawn" (defArgs s__law_drawn) (defBody s__law_drawn) (defScope s__law_drawn) .none kV18 dc18 pm18 an18 cd18 ct18), sl18⟩)
    (c18 : PySem.W.codeIn K cd18 "_law_drawn" = true)
    (k18 : PySem.W.keepIn K (.ref f18) = true)
    (a19 : PySem.W.nsIn K mainGlobals "_law_said" = some (some (.ref f19)))
    (l19 : K.lookup f19 = some ⟨oc19, od19, .func (PySem.W.fnOf "_law_said" "_law_said" (defArgs s__law_said) (defBody s__law_said) (defScope s__law_said) .none kV19 dc19 pm19 an19 cd19 ct19), sl19⟩)
    (c19 : PySem.W.codeIn K cd19 "_law_said" = true)
    (k19 : PySem.W.keepIn K (.ref f19) = true)
    (a20 : PySem.W.nsIn K mainGlobals "_law_large" = some (some (.ref f20)))
    (l20 : K.lookup f20 = some ⟨oc20, od20, .func (PySem.W.fnOf "_law_large" "_law_large" (defArgs s__law_large) (defBody s__law_large) (defScope s__law_large) .none kV20 dc20 pm20 an20 cd20 ct20), sl20⟩)
    (c20 : PySem.W.codeIn K cd20 "_law_large" = true)
    (k20 : PySem.W.keepIn K (.ref f20) = true)
    (a21 : PySem.W.nsIn K mainGlobals "_law_missed" = some (some (.ref f21)))
    (l21 : K.lookup f21 = some ⟨oc21, od21, .func (PySem.W.fnOf "_law_missed" "_law_missed" (defArgs s__law_missed) (defBody s__law_missed) (defScope s__law_missed) .none kV21 dc21 pm21 an21 cd21 ct21), sl21⟩)
    (c21 : PySem.W.codeIn K cd21 "_law_missed" = true)
    (k21 : PySem.W.keepIn K (.ref f21) = true)
    (a22 : PySem.W.nsIn K mainGlobals "_law_alike" = some (some (.ref f22)))
    (l22 : K.lookup f22 = some ⟨oc22, od22, .func (PySem.W.fnOf "_law_alike" "_law_alike" (defArgs s__law_alike) (defBody s__law_alike) (defScope s__law_alike) .none kV22 dc22 pm22 an22 cd22 ct22), sl22⟩)
    (c22 : PySem.W.codeIn K cd22 "_law_alike" = true)
    (k22 : PySem.W.keepIn K (.ref f22) = true)
    (a23 : PySem.W.nsIn K mainGlobals "_law_far" = some (some (.ref f23)))
    (l23 : K.lookup f23 = some ⟨oc23, od23, .func (PySem.W.fnOf "_law_far" "_law_far" (defArgs s__law_far) (defBody s__law_far) (defScope s__law_far) .none kV23 dc23 pm23 an23 cd23 ct23), sl23⟩)
    (c23 : PySem.W.codeIn K cd23 "_law_far" = true)
    (k23 : PySem.W.keepIn K (.ref f23) = true)
    (a24 : PySem.W.nsIn K mainGlobals "_law_tells" = some (some (.ref f24)))
    (l24 : K.lookup f24 = some ⟨oc24, od24, .func (PySem.W.fnOf "_law_tells" "_law_tells" (defArgs s__law_tells) (defBody s__law_tells) (defScope s__law_tells) .none kV24 dc24 pm24 an24 cd24 ct24), sl24⟩)
    (c24 : PySem.W.codeIn K cd24 "_law_tells" = true)
    (k24 : PySem.W.keepIn K (.ref f24) = true)
    (a25 : PySem.W.nsIn K mainGlobals "_law_ask" = some (some (.ref f25)))
    (l25 : K.lookup f25 = some ⟨oc25, od25, .func (PySem.W.fnOf "_law_ask" "_law_ask" (defArgs s__law_ask) (defBody s__law_ask) (defScope s__law_ask) .none kV25 dc25 pm25 an25 cd25 ct25), sl25⟩)
    (c25 : PySem.W.codeIn K cd25 "_law_ask" = true)
    (k25 : PySem.W.keepIn K (.ref f25) = true)
    (a26 : PySem.W.nsIn K mainGlobals "_law_refused" = some (some (.ref f26)))
    (l26 : K.lookup f26 = some ⟨oc26, od26, .func (PySem.W.fnOf "_law_refused" "_law_refused" (defArgs s__law_refused) (defBody s__law_refused) (defScope s__law_refused) .none kV26 dc26 pm26 an26 cd26 ct26), sl26⟩)
    (c26 : PySem.W.codeIn K cd26 "_law_refused" = true)
    (k26 : PySem.W.keepIn K (.ref f26) = true)
    (a27 : PySem.W.nsIn K mainGlobals "_law_spoilt" = some (some (.ref f27)))
    (l27 : K.lookup f27 = some ⟨oc27, od27, .func (PySem.W.fnOf "_law_spoilt" "_law_spoilt" (defArgs s__law_spoilt) (defBody s__law_spoilt) (defScope s__law_spoilt) .none kV27 dc27 pm27 an27 cd27 ct27), sl27⟩)
    (c27 : PySem.W.codeIn K cd27 "_law_spoilt" = true)
    (k27 : PySem.W.keepIn K (.ref f27) = true)
    (a28 : PySem.W.nsIn K mainGlobals "_law_refuses" = some (some (.ref f28)))
    (l28 : K.lookup f28 = some ⟨oc28, od28, .func (PySem.W.fnOf "_law_refuses" "_law_refuses" (defArgs s__law_refuses) (defBody s__law_refuses) (defScope s__law_refuses) .none kV28 dc28 pm28 an28 cd28 ct28), sl28⟩)
    (c28 : PySem.W.codeIn K cd28 "_law_refuses" = true)
    (k28 : PySem.W.keepIn K (.ref f28) = true)
    (a29 : PySem.W.nsIn K mainGlobals "law" = some (some (.ref f29)))
    (l29 : K.lookup f29 = some ⟨oc29, od29, .func (PySem.W.fnOf "law" "law" (defArgs s_law) (defBody s_law) (defScope s_law) .none kV29 dc29 pm29 an29 cd29 ct29), sl29⟩)
    (c29 : PySem.W.codeIn K cd29 "law" = true)
    (k29 : PySem.W.keepIn K (.ref f29) = true)
    (z_len : PySem.W.nsIn K mainGlobals "len" = some none)
    (z_range : PySem.W.nsIn K mainGlobals "range" = some none)
    (z_list : PySem.W.nsIn K mainGlobals "list" = some none)
    (z_int : PySem.W.nsIn K mainGlobals "int" = some none)
    (z_isinstance : PySem.W.nsIn K mainGlobals "isinstance" = some none)
    (z_tuple : PySem.W.nsIn K mainGlobals "tuple" = some none)
    (z_str : PySem.W.nsIn K mainGlobals "str" = some none)
    (z_bool : PySem.W.nsIn K mainGlobals "bool" = some none)
    (z_all : PySem.W.nsIn K mainGlobals "all" = some none)
    (z_max : PySem.W.nsIn K mainGlobals "max" = some none)
    (z_min : PySem.W.nsIn K mainGlobals "min" = some none)
    (z_ValueError : PySem.W.nsIn K mainGlobals "ValueError" = some none)
    (g_OutOfRange : PySem.W.nsIn K mainGlobals "OutOfRange" = some (some (.ref c_OutOfRange)))
    (g_SizeMismatch : PySem.W.nsIn K mainGlobals "SizeMismatch" = some (some (.ref c_SizeMismatch)))
    (g_InvalidTerm : PySem.W.nsIn K mainGlobals "InvalidTerm" = some (some (.ref c_InvalidTerm)))
    (g_TooLarge : PySem.W.nsIn K mainGlobals "TooLarge" = some (some (.ref c_TooLarge)))
    (g_ChoosersError : PySem.W.nsIn K mainGlobals "ChoosersError" = some (some (.ref c_ChoosersError)))
    (x_OutOfRange : PySem.W.excIn K c_OutOfRange [.type "ValueError", .type "Exception", .type "BaseException", .type "object"] "ValueError.__new__" = true)
    (kc_OutOfRange : PySem.W.keepIn K (.ref c_OutOfRange) = true)
    (e_OutOfRange : PySem.W.subIn K (.ref c_OutOfRange) (.type "BaseException") = some true)
    (t_OutOfRange : PySem.W.typeIn K (.ref c_OutOfRange) = some (.type "type"))
    (hg_OutOfRange : PySem.W.findIn K (.ref c_OutOfRange) "__getattribute__" = some (some (.builtin "BaseException.__getattribute__")))
    (hk_OutOfRange : PySem.W.findIn K (.ref c_OutOfRange) "__getattr__" = some none)
    (hd_OutOfRange : PySem.W.hasDictIn K c_OutOfRange = true)
    (ha_OutOfRange : PySem.W.findIn K (.ref c_OutOfRange) "__class__" = some (some (.builtin "object.__class__")))
    (hm_OutOfRange : PySem.W.mroIn K c_OutOfRange (.type "object") = some true)
    (s_OutOfRange_OutOfRange : PySem.W.subIn K (.ref c_OutOfRange) (.ref c_OutOfRange) = some true)
    (s_OutOfRange_SizeMismatch : PySem.W.subIn K (.ref c_OutOfRange) (.ref c_SizeMismatch) = some false)
    (s_OutOfRange_InvalidTerm : PySem.W.subIn K (.ref c_OutOfRange) (.ref c_InvalidTerm) = some false)
    (s_OutOfRange_TooLarge : PySem.W.subIn K (.ref c_OutOfRange) (.ref c_TooLarge) = some false)
    (s_OutOfRange_ValueError : PySem.W.subIn K (.ref c_OutOfRange) (.type "ValueError") = some true)
    (s_OutOfRange_ChoosersError : PySem.W.subIn K (.ref c_OutOfRange) (.ref c_ChoosersError) = some true)
    (q_OutOfRange : PySem.W.isClsIn K c_OutOfRange = true)
    (q_SizeMismatch : PySem.W.isClsIn K c_SizeMismatch = true)
    (t_SizeMismatch : PySem.W.typeIn K (.ref c_SizeMismatch) = some (.type "type"))
    (q_InvalidTerm : PySem.W.isClsIn K c_InvalidTerm = true)
    (t_InvalidTerm : PySem.W.typeIn K (.ref c_InvalidTerm) = some (.type "type"))
    (q_TooLarge : PySem.W.isClsIn K c_TooLarge = true)
    (t_TooLarge : PySem.W.typeIn K (.ref c_TooLarge) = some (.type "type"))
    (q_ChoosersError : PySem.W.isClsIn K c_ChoosersError = true)
    (t_ChoosersError : PySem.W.typeIn K (.ref c_ChoosersError) = some (.type "type"))
    (e_ChoosersError : PySem.W.subIn K (.ref c_ChoosersError) (.type "BaseException") = some true)
    (hd_ChoosersError : PySem.W.hasDictIn K c_ChoosersError = true)
    (hn_ : PySem.W.specialIn K (.builtin "object.__class__") "__get__" = some (some (.builtin "getset_descriptor.__get__")))
    (ht_ : PySem.W.takesIn K (.builtin "object.__class__") = some true)
    (pg_Row : PySem.W.plainGet K c_Row Str.empty = true)
    (hdc_Row : PySem.W.hasDictIn K c_Row = true)
    (po_Row : PySem.W.plainOver K c_Row = true)
    (sac_Row : PySem.W.findIn K (.ref c_Row) "__setattr__" = some (some (.builtin "object.__setattr__")))
    (mk_Row : PySem.W.makesIn K c_Row = true)
    (kcc_Row : PySem.W.keepIn K (.ref c_Row) = true)
    (hac_Row : PySem.W.findIn K (.ref c_Row) "__class__" = some (some (.builtin "object.__class__")))
    (hmc_Row : PySem.W.mroIn K c_Row (.type "object") = some true)
    (sic_Row : PySem.W.subIn K (.ref c_Row) (.ref c_Row) = some true)
    (qic_Row : PySem.W.isClsIn K c_Row = true)
    (tic_Row : PySem.W.typeIn K (.ref c_Row) = some (.type "type"))
    (fn_Row___getitem__ : PySem.W.fnIn K f4 = true)
    (na_Row_head : PySem.W.findIn K (.ref c_Row) "head" = some none)
    (na_Row_cycle : PySem.W.findIn K (.ref c_Row) "cycle" = some none)
    : ∃ fd : FuncData, (∀ (s : Shared) (v : Value), BindsTo s fd ⟨[v], []⟩ [("_law_script", v)]) ∧ ∀ base : Heap, K.In base → base.Ns mainGlobals mg → FnOk P w K mg base (L2N.CX P w) 20 fa fd ["_law_script"] (spOf K c_law) := by
  have e := hfa.symm.trans (PySem.W.mg_of X G a29)
  cases e
  have F0 := fun_mk (st := s_shortest_cycle) l0 c0 k0
  have b0 := F0.binds (ps := ["cycle"]) fun _ _ _ _ _ _ us hl => match us, hl with | [_], _ => rfl
  have F1 := fun_mk (st := s_turned_cycle) l1 c1 k1
  have b1 := F1.binds (ps := ["cycle", "count"]) fun _ _ _ _ _ _ us hl => match us, hl with | [_, _], _ => rfl
  have F2 := fun_mk (st := s_count_spare) l2 c2 k2
  have b2 := F2.binds (ps := ["head", "cycle"]) fun _ _ _ _ _ _ us hl => match us, hl with | [_, _], _ => rfl
  have F3 := fund_mk (st := s_Row___init__) l3 c3 k3 dl3 dv3 (by nofun)
  have b3 := binds_full (F3.binds1 (ps := ["self", "head", "cycle"]) 3 1 (by nofun) rfl fun _ _ _ _ _ _ _ us its hu hi => match us, its, hu, hi with | [_, _, _], [_], _, _ => ⟨_, rfl, rfl⟩)
  have bd3 := F3.binds1 (ps := ["self", "head", "cycle"]) 2 0 (by nofun) rfl fun _ _ _ _ _ _ _ us its hu hi => match us, its, hu, hi with | [_, _], [_], _, _ => ⟨_, rfl, rfl⟩
  have F4 := fun_mk (st := s_Row___getitem__) l4 c4 k4
  have b4 := F4.binds (ps := ["self", "at"]) fun _ _ _ _ _ _ us hl => match us, hl with | [_, _], _ => rfl
  have F5 := fun_mk (st := s_Row_start) l5 c5 k5
  have b5 := F5.binds (ps := ["self", "length"]) fun _ _ _ _ _ _ us hl => match us, hl with | [_, _], _ => rfl
  have F6 := fun_mk (st := s_Row_least) l6 c6 k6
  have b6 := F6.binds (ps := ["self"]) fun _ _ _ _ _ _ us hl => match us, hl with | [_], _ => rfl
  have F7 := fun_mk (st := s_Row_after) l7 c7 k7
  have b7 := F7.binds (ps := ["self", "count"]) fun _ _ _ _ _ _ us hl => match us, hl with | [_, _], _ => rfl
  have F8 := fun_mk (st := s_Row_lead) l8 c8 k8
  have b8 := F8.binds (ps := ["self", "entries"]) fun _ _ _ _ _ _ us hl => match us, hl with | [_, _], _ => rfl
  have F9 := fun_mk (st := s_same_rows) l9 c9 k9
  have b9 := F9.binds (ps := ["first", "second"]) fun _ _ _ _ _ _ us hl => match us, hl with | [_, _], _ => rfl
  have F10 := fun_mk (st := s__law_start) l10 c10 k10
  have b10 := F10.binds (ps := ["_law_script"]) fun _ _ _ _ _ _ us hl => match us, hl with | [_], _ => rfl
  have F11 := fun_mk (st := s__law_pick) l11 c11 k11
  have b11 := F11.binds (ps := ["_law_state", "_law_limit"]) fun _ _ _ _ _ _ us hl => match us, hl with | [_, _], _ => rfl
  have F12 := fun_mk (st := s__law_same) l12 c12 k12
  have b12 := F12.binds (ps := ["_law_actual", "_law_due"]) fun _ _ _ _ _ _ us hl => match us, hl with | [_, _], _ => rfl
  have F13 := fun_mk (st := s__law_entry) l13 c13 k13
  have b13 := F13.binds (ps := ["_law_said_here", "_law_place"]) fun _ _ _ _ _ _ us hl => match us, hl with | [_, _], _ => rfl
  have F14 := fun_mk (st := s__law_least) l14 c14 k14
  have b14 := F14.binds (ps := ["_law_said_here"]) fun _ _ _ _ _ _ us hl => match us, hl with | [_], _ => rfl
  have F15 := fun_mk (st := s__law_after) l15 c15 k15
  have b15 := F15.binds (ps := ["_law_said_here", "_law_count"]) fun _ _ _ _ _ _ us hl => match us, hl with | [_, _], _ => rfl
  have F16 := fun_mk (st := s__law_is) l16 c16 k16
  have b16 := F16.binds (ps := ["_law_actual", "_law_said_here"]) fun _ _ _ _ _ _ us hl => match us, hl with | [_, _], _ => rfl
  have F17 := fun_mk (st := s__law_lot) l17 c17 k17
  have b17 := F17.binds (ps := ["_law_state", "_law_size", "_law_top"]) fun _ _ _ _ _ _ us hl => match us, hl with | [_, _, _], _ => rfl
  have F18 := fun_mk (st := s__law_drawn) l18 c18 k18
  have b18 := F18.binds (ps := ["_law_state", "_law_top"]) fun _ _ _ _ _ _ us hl => match us, hl with | [_, _], _ => rfl
  have F19 := fun_mk (st := s__law_said) l19 c19 k19
  have b19 := F19.binds (ps := ["_law_state", "_law_base"]) fun _ _ _ _ _ _ us hl => match us, hl with | [_, _], _ => rfl
  have F20 := fun_mk (st := s__law_large) l20 c20 k20
  have b20 := F20.binds (ps := ["_law_state", "_law_base", "_law_top"]) fun _ _ _ _ _ _ us hl => match us, hl with | [_, _, _], _ => rfl
  have F21 := fun_mk (st := s__law_missed) l21 c21 k21
  have b21 := F21.binds (ps := ["_law_state", "_law_said_here"]) fun _ _ _ _ _ _ us hl => match us, hl with | [_, _], _ => rfl
  have F22 := fun_mk (st := s__law_alike) l22 c22 k22
  have b22 := F22.binds (ps := ["_law_first", "_law_second"]) fun _ _ _ _ _ _ us hl => match us, hl with | [_, _], _ => rfl
  have F23 := fun_mk (st := s__law_far) l23 c23 k23
  have b23 := F23.binds (ps := ["_law_state"]) fun _ _ _ _ _ _ us hl => match us, hl with | [_], _ => rfl
  have F24 := fun_mk (st := s__law_tells) l24 c24 k24
  have b24 := F24.binds (ps := ["_law_state", "_law_row", "_law_said_here", "_law_top"]) fun _ _ _ _ _ _ us hl => match us, hl with | [_, _, _, _], _ => rfl
  have F25 := fun_mk (st := s__law_ask) l25 c25 k25
  have b25 := F25.binds (ps := ["_law_how", "_law_row", "_law_head", "_law_cycle", "_law_number"]) fun _ _ _ _ _ _ us hl => match us, hl with | [_, _, _, _, _], _ => rfl
  have F26 := fun_mk (st := s__law_refused) l26 c26 k26
  have b26 := F26.binds (ps := ["_law_how", "_law_row", "_law_head", "_law_cycle", "_law_number"]) fun _ _ _ _ _ _ us hl => match us, hl with | [_, _, _, _, _], _ => rfl
  have F27 := fun_mk (st := s__law_spoilt) l27 c27 k27
  have b27 := F27.binds (ps := ["_law_entries", "_law_at", "_law_number"]) fun _ _ _ _ _ _ us hl => match us, hl with | [_, _, _], _ => rfl
  have F28 := fun_mk (st := s__law_refuses) l28 c28 k28
  have b28 := F28.binds (ps := ["_law_state", "_law_row", "_law_said_here"]) fun _ _ _ _ _ _ us hl => match us, hl with | [_, _, _], _ => rfl
  have F29 := fun_mk (st := s_law) l29 c29 k29
  have b29 := F29.binds (ps := ["_law_script"]) fun _ _ _ _ _ _ us hl => match us, hl with | [_], _ => rfl
  exact ⟨_, fun s v => .of_eq rfl, fun base _ _ => ok_law (⟨f0, _, F0, PySem.W.mg_of X G a0, b0,
    f1, _, F1, PySem.W.mg_of X G a1, b1,
    f2, _, F2, PySem.W.mg_of X G a2, b2,
    dA3, ⟨_, ditA3, _, dt3, rfl, rfl, rfl, dz3, dw3⟩, f3, _, F3, b3, bd3,
    f4, _, F4, b4,
    f5, _, F5, b5,
    f6, _, F6, b6,
    f7, _, F7, b7,
    f8, _, F8, b8,
    f9, _, F9, PySem.W.mg_of X G a9, b9,
    f10, _, F10, PySem.W.mg_of X G a10, b10,
    f11, _, F11, PySem.W.mg_of X G a11, b11,
    f12, _, F12, PySem.W.mg_of X G a12, b12,
    f13, _, F13, PySem.W.mg_of X G a13, b13,
    f14, _, F14, PySem.W.mg_of X G a14, b14,
    f15, _, F15, PySem.W.mg_of X G a15, b15,
    f16, _, F16, PySem.W.mg_of X G a16, b16,
    f17, _, F17, PySem.W.mg_of X G a17, b17,
    f18, _, F18, PySem.W.mg_of X G a18, b18,
    f19, _, F19, PySem.W.mg_of X G a19, b19,
    f20, _, F20, PySem.W.mg_of X G a20, b20,
    f21, _, F21, PySem.W.mg_of X G a21, b21,
    f22, _, F22, PySem.W.mg_of X G a22, b22,
    f23, _, F23, PySem.W.mg_of X G a23, b23,
    f24, _, F24, PySem.W.mg_of X G a24, b24,
    f25, _, F25, PySem.W.mg_of X G a25, b25,
    f26, _, F26, PySem.W.mg_of X G a26, b26,
    f27, _, F27, PySem.W.mg_of X G a27, b27,
    f28, _, F28, PySem.W.mg_of X G a28, b28,
    fa, _, F29, PySem.W.mg_of X G a29, b29,
    PySem.W.mg_none_of X G z_len,
    PySem.W.mg_none_of X G z_range,
    PySem.W.mg_none_of X G z_list,
    PySem.W.mg_none_of X G z_int,
    PySem.W.mg_none_of X G z_isinstance,
    PySem.W.mg_none_of X G z_tuple,
    PySem.W.mg_none_of X G z_str,
    PySem.W.mg_none_of X G z_bool,
    PySem.W.mg_none_of X G z_all,
    PySem.W.mg_none_of X G z_max,
    PySem.W.mg_none_of X G z_min,
    PySem.W.mg_none_of X G z_ValueError,
    c_OutOfRange, PySem.W.mg_of X G g_OutOfRange,
    c_SizeMismatch, PySem.W.mg_of X G g_SizeMismatch,
    c_InvalidTerm, PySem.W.mg_of X G g_InvalidTerm,
    c_TooLarge, PySem.W.mg_of X G g_TooLarge,
    c_ChoosersError, PySem.W.mg_of X G g_ChoosersError,
    x_OutOfRange, kc_OutOfRange, e_OutOfRange, t_OutOfRange, ⟨hg_OutOfRange, hk_OutOfRange, e_OutOfRange, hd_OutOfRange, ha_OutOfRange, hn_, ht_, hm_OutOfRange⟩,
    kit_refS s_OutOfRange_OutOfRange q_SizeMismatch t_SizeMismatch s_OutOfRange_SizeMismatch,
    kit_refS s_OutOfRange_OutOfRange q_InvalidTerm t_InvalidTerm s_OutOfRange_InvalidTerm,
    kit_refS s_OutOfRange_OutOfRange q_TooLarge t_TooLarge s_OutOfRange_TooLarge,
    kit_refS s_OutOfRange_OutOfRange q_OutOfRange t_OutOfRange s_OutOfRange_OutOfRange,
    kit_tyS rfl s_OutOfRange_ValueError,
    PySem.W.exm_ref e_ChoosersError hd_ChoosersError t_ChoosersError s_OutOfRange_ChoosersError,
    c_Row, PySem.W.mg_of X G g_Row, ⟨mk_Row, a3, i3, kcc_Row⟩, ⟨pg_Row, hdc_Row, po_Row, sac_Row⟩,
    ⟨fun e => .ins e ⟨pg_Row, hdc_Row, po_Row, sac_Row⟩ hac_Row hn_ ht_ hmc_Row, kit_refS sic_Row qic_Row tic_Row sic_Row⟩,
    fn_Row___getitem__,
    na_Row_head,
    na_Row_cycle,
    ⟨a4, i4, k4⟩,
    ⟨a5, i5, k5⟩,
    ⟨a6, i6, k6⟩,
    ⟨a7, i7, k7⟩,
    ⟨a8, i8, k8⟩⟩ : Txt P w K mg)⟩
theorem sp_law_of {K : Fg} {H : Hp} {a : Addr} {ns : List Int} (hl : ns.length ≤ 63) (hS : SqL K H a (ns.map V.int)) : spOf K c_law [.ref a] H (fun v _ => v = .bl true) fun _ _ _ => False :=
  ⟨fun _ => none, [.scr ns], fun d _ => d = .bl true, fun _ _ => False, (fun _ _ z => nomatch z), .scr (hS.elim (fun q => .inl ⟨q, .of rfl⟩) fun q => .inr q) .nil, ⟨ns, rfl, hl, rfl⟩, fun v H' d μ' _ _ r e => by subst e; exact Rep.bl_inv r, fun _ _ _ _ _ _ _ _ z => z⟩
open PyProof.Rows in
theorem walk {l : PySem.W.OpenLaw} {q : Program} {loose : List Str} {XP : (Str → Option Value) → Heap → Prop} {YP : World → Heap → Prop} {d : DefRec} {K : Params → PySem.W.Frag} (hn : l.most = some 63) (hdf : d.params.defaults = [])
    (hY : ∀ (w : World) (h : Heap), YP w h → (K w.params).In h)
    (F : ∀ (w : World) (mg : Str → Option Value) (fa : Addr) (h : Heap), (K w.params).In h → h.Ns mainGlobals mg → mg d.name = some (.ref fa) →
      ∃ fd : FuncData, (∀ (s : Shared) (u : Value), BindsTo s fd ⟨[u], []⟩ [("_law_script", u)]) ∧ ∀ base : Heap, (K w.params).In base → base.Ns mainGlobals mg → FnOk l.prog w (K w.params) mg base (L2N.CX l.prog w) 20 fa fd ["_law_script"] (spOf (K w.params) c_law)) :
    PySem.W.WalkO q loose XP YP l.row.toRowW d [] (fun f vs => PySem.call f vs) :=
  L2.walk_of (n := 63) (k := 20) (x := "_law_script") (CX := fun w => L2N.CX l.prog w) (sp := fun w => spOf (K w.params) c_law) hn (by decide) hdf ⟨rfl, by decide, by decide⟩ hY F (fun _ _ a ns hl _ hS => sp_law_of hl hS) fun _ _ _ _ _ h => by
    obtain ⟨_, _, _, _, _, _, _, _, _, _, _, _, z⟩ := h
    exact z
end LW
set_option Elab.async false
set_option linter.all false
open PySem PySem.W PyProof.Rows in
set_option maxRecDepth 100000 in
set_option maxHeartbeats 0 in
theorem PySem.Challenge.cw_choosersrow_k38_endless_rows_holds : PySem.Challenge.rw_choosersrow_k38_endless_rows.Holds := by
  w_on; o_law; k_head; (case hw => w_witness2)
  k_fill
  refine LW.walk (l := PySem.Challenge.rw_choosersrow_k38_endless_rows) rfl rfl (fun w h Y => PySem.W.kIn_of Y) ?F
  case F =>
    intro w mg fa h KX G hmg
    refine' LW.all_mk KX G hmg ?g_Row ?a0 ?l0 ?c0 ?k0 ?a1 ?l1 ?c1 ?k1 ?a2 ?l2 ?c2 ?k2 ?a3 ?i3 ?l3 ?dl3 ?dv3 ?dt3 ?dw3 ?dz3 ?c3 ?k3 ?a4 ?i4 ?l4 ?c4 ?k4 ?a5 ?i5 ?l5 ?c5 ?k5 ?a6 ?i6 ?l6 ?c6 ?k6 ?a7 ?i7 ?l7 ?c7 ?k7 ?a8 ?i8 ?l8 ?c8 ?k8 ?a9 ?l9 ?c9 ?k9 ?a10 ?l10 ?c10 ?k10 ?a11 ?l11 ?c11 ?k11 ?a12 ?l12 ?c12 ?k12 ?a13 ?l13 ?c13 ?k13 ?a14 ?l14 ?c14 ?k14 ?a15 ?l15 ?c15 ?k15 ?a16 ?l16 ?c16 ?k16 ?a17 ?l17 ?c17 ?k17 ?a18 ?l18 ?c18 ?k18 ?a19 ?l19 ?c19 ?k19 ?a20 ?l20 ?c20 ?k20 ?a21 ?l21 ?c21 ?k21 ?a22 ?l22 ?c22 ?k22 ?a23 ?l23 ?c23 ?k23 ?a24 ?l24 ?c24 ?k24 ?a25 ?l25 ?c25 ?k25 ?a26 ?l26 ?c26 ?k26 ?a27 ?l27 ?c27 ?k27 ?a28 ?l28 ?c28 ?k28 ?a29 ?l29 ?c29 ?k29 ?z_len ?z_range ?z_list ?z_int ?z_isinstance ?z_tuple ?z_str ?z_bool ?z_all ?z_max ?z_min ?z_ValueError ?g_OutOfRange ?g_SizeMismatch ?g_InvalidTerm ?g_TooLarge ?g_ChoosersError ?x_OutOfRange ?kc_OutOfRange ?e_OutOfRange ?t_OutOfRange ?hg_OutOfRange ?hk_OutOfRange ?hd_OutOfRange ?ha_OutOfRange ?hm_OutOfRange ?s_OutOfRange_OutOfRange ?s_OutOfRange_SizeMismatch ?s_OutOfRange_InvalidTerm ?s_OutOfRange_TooLarge ?s_OutOfRange_ValueError ?s_OutOfRange_ChoosersError ?q_OutOfRange ?q_SizeMismatch ?t_SizeMismatch ?q_InvalidTerm ?t_InvalidTerm ?q_TooLarge ?t_TooLarge ?q_ChoosersError ?t_ChoosersError ?e_ChoosersError ?hd_ChoosersError ?hn_ ?ht_ ?pg_Row ?hdc_Row ?po_Row ?sac_Row ?mk_Row ?kcc_Row ?hac_Row ?hmc_Row ?sic_Row ?qic_Row ?tic_Row ?fn_Row___getitem__ ?na_Row_head ?na_Row_cycle
    (case g_Row => k_is)
    (case a0 => k_is)
    (case l0 => k_is)
    (case c0 => k_is)
    (case k0 => k_is)
    (case a1 => k_is)
    (case l1 => k_is)
    (case c1 => k_is)
    (case k1 => k_is)
    (case a2 => k_is)
    (case l2 => k_is)
    (case c2 => k_is)
    (case k2 => k_is)
    (case a3 => k_is)
    (case i3 => k_is)
    (case l3 => k_is)
    (case dl3 => k_is)
    (case dv3 => exact .cons rfl .nil)
    (case dt3 => k_is)
    (case dw3 => exact (.cons ⟨_, rfl⟩ .nil))
    (case dz3 => decide)
    (case c3 => k_is)
    (case k3 => k_is)
    (case a4 => k_is)
    (case i4 => k_is)
    (case l4 => k_is)
    (case c4 => k_is)
    (case k4 => k_is)
    (case a5 => k_is)
    (case i5 => k_is)
    (case l5 => k_is)
    (case c5 => k_is)
    (case k5 => k_is)
    (case a6 => k_is)
    (case i6 => k_is)
    (case l6 => k_is)
    (case c6 => k_is)
    (case k6 => k_is)
    (case a7 => k_is)
    (case i7 => k_is)
    (case l7 => k_is)
    (case c7 => k_is)
    (case k7 => k_is)
    (case a8 => k_is)
    (case i8 => k_is)
    (case l8 => k_is)
    (case c8 => k_is)
    (case k8 => k_is)
    (case a9 => k_is)
    (case l9 => k_is)
    (case c9 => k_is)
    (case k9 => k_is)
    (case a10 => k_is)
    (case l10 => k_is)
    (case c10 => k_is)
    (case k10 => k_is)
    (case a11 => k_is)
    (case l11 => k_is)
    (case c11 => k_is)
    (case k11 => k_is)
    (case a12 => k_is)
    (case l12 => k_is)
    (case c12 => k_is)
    (case k12 => k_is)
    (case a13 => k_is)
    (case l13 => k_is)
    (case c13 => k_is)
    (case k13 => k_is)
    (case a14 => k_is)
    (case l14 => k_is)
    (case c14 => k_is)
    (case k14 => k_is)
    (case a15 => k_is)
    (case l15 => k_is)
    (case c15 => k_is)
    (case k15 => k_is)
    (case a16 => k_is)
    (case l16 => k_is)
    (case c16 => k_is)
    (case k16 => k_is)
    (case a17 => k_is)
    (case l17 => k_is)
    (case c17 => k_is)
    (case k17 => k_is)
    (case a18 => k_is)
    (case l18 => k_is)
    (case c18 => k_is)
    (case k18 => k_is)
    (case a19 => k_is)
    (case l19 => k_is)
    (case c19 => k_is)
    (case k19 => k_is)
    (case a20 => k_is)
    (case l20 => k_is)
    (case c20 => k_is)
    (case k20 => k_is)
    (case a21 => k_is)
    (case l21 => k_is)
    (case c21 => k_is)
    (case k21 => k_is)
    (case a22 => k_is)
    (case l22 => k_is)
    (case c22 => k_is)
    (case k22 => k_is)
    (case a23 => k_is)
    (case l23 => k_is)
    (case c23 => k_is)
    (case k23 => k_is)
    (case a24 => k_is)
    (case l24 => k_is)
    (case c24 => k_is)
    (case k24 => k_is)
    (case a25 => k_is)
    (case l25 => k_is)
    (case c25 => k_is)
    (case k25 => k_is)
    (case a26 => k_is)
    (case l26 => k_is)
    (case c26 => k_is)
    (case k26 => k_is)
    (case a27 => k_is)
    (case l27 => k_is)
    (case c27 => k_is)
    (case k27 => k_is)
    (case a28 => k_is)
    (case l28 => k_is)
    (case c28 => k_is)
    (case k28 => k_is)
    (case a29 => k_is)
    (case l29 => k_is)
    (case c29 => k_is)
    (case k29 => k_is)
    (case z_len => k_is)
    (case z_range => k_is)
    (case z_list => k_is)
    (case z_int => k_is)
    (case z_isinstance => k_is)
    (case z_tuple => k_is)
    (case z_str => k_is)
    (case z_bool => k_is)
    (case z_all => k_is)
    (case z_max => k_is)
    (case z_min => k_is)
    (case z_ValueError => k_is)
    (case g_OutOfRange => k_is)
    (case g_SizeMismatch => k_is)
    (case g_InvalidTerm => k_is)
    (case g_TooLarge => k_is)
    (case g_ChoosersError => k_is)
    (case x_OutOfRange => k_exc)
    (case kc_OutOfRange => k_is)
    (case e_OutOfRange => k_is)
    (case t_OutOfRange => k_is)
    (case hg_OutOfRange => k_is)
    (case hk_OutOfRange => k_is)
    (case hd_OutOfRange => k_is)
    (case ha_OutOfRange => k_is)
    (case hm_OutOfRange => k_is)
    (case s_OutOfRange_OutOfRange => first | rfl | k_is)
    (case s_OutOfRange_SizeMismatch => k_is)
    (case s_OutOfRange_InvalidTerm => k_is)
    (case s_OutOfRange_TooLarge => k_is)
    (case s_OutOfRange_ValueError => k_is)
    (case s_OutOfRange_ChoosersError => k_is)
    (case q_OutOfRange => k_is)
    (case q_SizeMismatch => k_is)
    (case t_SizeMismatch => k_is)
    (case q_InvalidTerm => k_is)
    (case t_InvalidTerm => k_is)
    (case q_TooLarge => k_is)
    (case t_TooLarge => k_is)
    (case q_ChoosersError => k_is)
    (case t_ChoosersError => k_is)
    (case e_ChoosersError => k_is)
    (case hd_ChoosersError => k_is)
    (case hn_ => k_is)
    (case ht_ => k_is)
    (case pg_Row => k_is)
    (case hdc_Row => k_is)
    (case po_Row => k_is)
    (case sac_Row => k_is)
    (case mk_Row => k_is)
    (case kcc_Row => k_is)
    (case hac_Row => k_is)
    (case hmc_Row => k_is)
    (case sic_Row => k_is)
    (case qic_Row => k_is)
    (case tic_Row => k_is)
    (case fn_Row___getitem__ => k_is)
    (case na_Row_head => k_is)
    (case na_Row_cycle => k_is)
