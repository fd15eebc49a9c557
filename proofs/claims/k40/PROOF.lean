import PyProof.Rows.All
import HandS.ForMost
import HandS.TupAny
import HandS.TupMul
import HandS.ForExc
import HandS.EndBits
import HandS.Wide
import HandS.WideBits
import HandS.Zip
import HandS.IsInst
import HandS.ExcIs
import HandS.Flow
import HandS.Strs
import HandS.Conv
import HandS.Style
import HandS.GenList
import HandS.ExcCtx
import HandS.Hot
import HandS.HotCalls
import HandS.WordsExc
import HandS.Text
import HandS.RaiseMore
import KE.GoesEnumKw
import HandS.Nested
import HandS.ExcInit
import KE.KSuper
import KE.KExcSuper
import HandS.ExcField
import KE.KExcIs
import HandS.FStr
import HandS.FStrTup
import PyProof.ListStr
import HandS.ExcOwn
import HandS.SetFor
import HandS.More
import HandS.Sort
import PyProof.Rows.SetFrom
import HandS.IterVal
import HandS.Iter
import PyProof.Rows.CallKwBuiltin
import KE.GoesZip
import KE.GoesMore
import KE.GoesEnum
import PyProof.P3Eq
import KE.KOpsOwn
import KE.KCallOwn
import KE.KTupSum
import HandS.Star
import HandS.Defaults
import HandS.ClsMeth
import OpenK.KWalk
import KE.DataMinMax
import PySem.Challenge.RW_choosersrow_k40_queries_combined
import HandS.Head0
import HandS.Head1
import HandS.Head2
import HandS.HeadEnd
import HandS.HeadHook1
import HandS.HeadHook2
import Wide.All
import OpenK.AllK
import Wide.FinOn
import KE.KStateDown
import Open.SpecLaws
import KE.OsGo
import KE.RegKSuper
set_option Elab.async false
set_option linter.all false
set_option maxRecDepth 100000
set_option maxHeartbeats 4000000
namespace DW
open PySem PySem.Spec PyProof.Rows L2
/-- the object of a new tuple -/
abbrev tupObj (its : List Value) : Obj := { cls := .type "tuple", data := .seq its.toArray }
theorem tup_okN {P : Program} {w : World} {H : Hp} {h : Heap} {xs : List V} {its : List Value} (hz : xs.length ≤ sizeLine) (r : Vals xs its) :
    ObjOk P w H (h.push (tupObj its)) h.objs.size (.frz (tupObj its) (.tup xs)) := ⟨Heap.get?_push_size _ rfl, hz, its, r, IsTup.new _ _⟩
section
variable {X : Cx} {pins : List (Addr × Obj)} {σ : L2.St} {H : Hp} {s : Shared} {Q : VK}
/-- what is wished of a new tuple -/
def NewT (H : Hp) (xs : List V) (Q : VK) : Prop := ∀ p o, o.dict = none → o.cls = .type "tuple" → H p = none → Q (.ref p) (upd H p (.frz o (.tup xs)))
theorem new_tup {xs : List V} {its : List Value} (I : Inv X pins σ H s) (hz : xs.length ≤ sizeLine) (r : Vals xs its) (q : NewT H xs Q) : EP X pins σ Q (.ref s.heap.objs.size) { s with heap := s.heap.push (tupObj its) } :=
  ⟨.ref s.heap.objs.size, _, I.laid (t' := s.toks) (fun b u e => Heap.get?_push_of_some _ e) (Nat.le_refl _) (tup_okN hz r), rfl, q _ _ rfl rfl (I.hok.fresh (Nat.le_refl _))⟩
end
def tTupN (t : TA) : TE := fun σ H Q => t σ H fun xs H1 => xs.length ≤ sizeLine ∧ NewT H1 xs Q
theorem pe_tupN {X : Cx} {es : List Expr} {x1 : Nat} {pos : Pos} {t : TA} (h : PA X es t) : PE X (.Tuple es x1 pos) (tTupN t) :=
  ⟨fun pins s σ H Q I hq => wpAny_Tuple_spliced (thn (h.run pos pins s σ H _ I hq) fun us s1 ⟨xs, H1, I1, r, z, q⟩ => ⟨by rw [← r.length]; exact z, new_tup I1 z r q⟩)⟩
/-- t + u -/
def rCatN (K : PySem.W.Frag) : R2 := fun x y H Q => ∃ a b xs ys, x = .ref a ∧ y = .ref b ∧ SqT K H a xs ∧ SqT K H b ys ∧ xs.length + ys.length ≤ sizeLine ∧
  (xs = [] → Q (.ref b) H) ∧ (xs ≠ [] → ys = [] → Q (.ref a) H) ∧ (xs ≠ [] → ys ≠ [] → NewT H (xs ++ ys) Q)
theorem op_catN {X : Cx} : OpR X (binaryOp .Add) (rCatN X.K) := by
  intro pins s σ H x y v u Q I rx ry h
  obtain ⟨a, b, xs, ys, rfl, rfl, ha, hb, hz, q0, q1, q2⟩ := h
  cases rx
  cases ry
  obtain ⟨its, r1, p1, _⟩ := I.tuple ha
  obtain ⟨its2, r2, p2, _⟩ := I.tuple hb
  by_cases hx : xs = []
  · subst hx
    cases r1
    exact cat_tup0 p1 p2 ⟨.ref b, H, I, rfl, q0 rfl⟩
  · refine HT.cat_tup p1 p2 (fun z => hx (r1.nil_iff.mp z)) (fun z => ⟨.ref a, H, I, rfl, q1 hx (r2.nil_iff.mp z)⟩) (fun z => ?_) (by rw [← r1.length, ← r2.length]; exact hz)
    exact new_tup I (by rw [List.length_append]; exact hz) (r1.append r2) (q2 hx fun w => z (r2.nil_iff.mpr w))
/-- t[lo:hi] -/
def rSlN (K : PySem.W.Frag) : V → Option Int → Option Int → Hp → VK → Prop := fun x lo hi H Q => ∃ a xs, x = .ref a ∧ SqT K H a xs ∧
  (HT.sIx xs.length 0 lo = 0 ∧ HT.sIx xs.length xs.length hi = xs.length → Q (.ref a) H) ∧ (¬ (HT.sIx xs.length 0 lo = 0 ∧ HT.sIx xs.length xs.length hi = xs.length) → NewT H (cutV xs lo hi) Q)
theorem sl_tupN {X : Cx} : SlR X (rSlN X.K) := by
  intro pins s σ H x v vl vu lo hi sl Q I rx hs pl pu h
  obtain ⟨a, xs, rfl, hx, q1, q2⟩ := h
  cases rx
  obtain ⟨its, r, ht, hz⟩ := I.tuple hx
  have many : its.toArray.size = xs.length := by rw [List.size_toArray]; exact r.length.symm
  refine ⟨"tuple", _, PyProof.Rows.slot_tuple_getitem.lookup, ht.typeIs, ?_⟩
  by_cases hw : HT.sIx xs.length 0 lo = 0 ∧ HT.sIx xs.length xs.length hi = xs.length
  · exact getItem_tuple_whole ht hs pl pu (by rw [many]; exact hw) ⟨.ref a, H, I, rfl, q1 hw⟩
  · refine HT.getItem_tuple_cut ht hs pl pu (by rw [many]; exact hw) ?_ (by rw [many]; exact hz)
    rw [many]
    exact new_tup I (Nat.le_trans (cutV_length xs lo hi) hz) ((r.drop (HT.sIx xs.length 0 lo)).take (HT.sIx xs.length xs.length hi - HT.sIx xs.length 0 lo)) (q2 hw)
/-- tuple(xs) -/
theorem call_tupleN {X : Cx} : CallR X (.type "tuple") (fun xs H Q => ∃ p ys, xs = [.ref p] ∧ ((SqL X.K H p ys ∧ NewT H ys Q) ∨ (SqT X.K H p ys ∧ Q (.ref p) H))) := by
  intro pins s σ H xs us Q I r h
  obtain ⟨p, ys, rfl, h⟩ := h
  obtain ⟨u, rfl, rx⟩ := vals1 r
  cases rx
  rcases h with ⟨hq, q⟩ | ⟨hq, q⟩
  · obtain ⟨its, r', pl, hz⟩ := I.list hq
    have many := r'.length
    refine call_tuple_list pl.isList (fun h' kp => ?_) (by simp only [List.size_toArray] <;> omega)
    have I1 : Inv X pins σ H { s with heap := h' } := I.kept (t' := s.toks) kp
    exact new_tup I1 hz r' q
  · obtain ⟨its, r', pl, hz⟩ := I.tuple hq
    exact call_tuple_same pl ⟨.ref p, H, I, rfl, q⟩
end DW
set_option Elab.async false
set_option linter.all false
set_option maxRecDepth 100000
namespace DW
open PySem PySem.Spec L2
abbrev Fg := PySem.W.Frag
/-- plain data: what a value stands for; hd: a value taken as it is (a handle, a def, a type) -/
inductive D where
  | non | bl (b : Bool) | int (i : Int) | str (x : Str)
  | tup (xs : List D) | lst (xs : List D)
  | pr (xs : List D)
  | obj (C : Addr) (ns : List Str) (ds : List D)
  | hd (v : V)
  | scr (ns : List Int)
/-- what stands at a handle's address: a list that may change, one that stands still, an instance in the making -/
inductive Cell where
  | lst (ds : List D) | frz (ds : List D) | ins (C : Addr) (ns : List Str) (ds : List D)
  /-- a range object -/
  | rng (lo hi : Int)
abbrev Sto := Addr → Option Cell
def sset (μ : Sto) (a : Addr) (c : Cell) : Sto := fun b => if b = a then some c else μ b
theorem sset_same {μ : Sto} {a : Addr} {c : Cell} : sset μ a c a = some c := by unfold sset; rw [if_pos rfl]
theorem sset_ne {μ : Sto} {a b : Addr} {c : Cell} (h : b ≠ a) : sset μ a c b = μ b := by unfold sset; rw [if_neg h]
theorem sset_sset {μ : Sto} {a : Addr} {c d : Cell} : sset (sset μ a c) a d = sset μ a d := by
  funext b; unfold sset; split <;> rfl
def still : Option Cell → Prop
  | some (.lst _) => False
  | some (.ins _ _ _) => False
  | _ => True
/-- nothing that may change stands at a -/
def NM (μ : Sto) (a : Addr) : Prop := still (μ a)
theorem NM.of {μ : Sto} {a : Addr} (h : μ a = none) : NM μ a := by unfold NM; rw [h]; exact trivial
theorem NM.frz {μ : Sto} {a : Addr} {ds : List D} (h : μ a = some (.frz ds)) : NM μ a := by unfold NM; rw [h]; exact trivial
theorem NM.notL {μ : Sto} {a : Addr} {ds : List D} (h : NM μ a) (q : μ a = some (.lst ds)) : False := by unfold NM at h; rw [q] at h; exact h
theorem NM.notI {μ : Sto} {a C : Addr} {ns : List Str} {ds : List D} (h : NM μ a) (q : μ a = some (.ins C ns ds)) : False := by unfold NM at h; rw [q] at h; exact h
def SqLw (K : Fg) (a : Addr) (xs : List V) : Prop :=
  ∃ (o : Obj) (its : Array Value) (n : Nat), K.lookup a = some o ∧ o.cls = .type "list" ∧ o.dict = none ∧ o.data = .seq its n ∧ its.size ≤ sizeLine ∧ Vals xs its.toList
def SqTw (K : Fg) (a : Addr) (xs : List V) : Prop :=
  ∃ (o : Obj) (its : Array Value) (n : Nat), K.lookup a = some o ∧ o.cls = .type "tuple" ∧ o.dict = none ∧ o.data = .seq its n ∧ its.size ≤ sizeLine ∧ Vals xs its.toList
def LstAt (μ : Sto) (H : Hp) (a : Addr) (xs : List V) : Prop := H a = some (.lst xs) ∧ NM μ a
def ScrAt (K : Fg) (μ : Sto) (H : Hp) (a : Addr) (xs : List V) : Prop := (Rd H a (.lst xs) ∧ NM μ a) ∨ SqLw K a xs
def TupAt (K : Fg) (μ : Sto) (H : Hp) (a : Addr) (xs : List V) : Prop := (∃ o : Obj, H a = some (.frz o (.tup xs)) ∧ o.dict = none ∧ o.cls = .type "tuple" ∧ NM μ a) ∨ SqTw K a xs
/-- a tuple that is taken apart at once -/
def PrAt (μ : Sto) (H : Hp) (a : Addr) (xs : List V) : Prop := Rd H a (.tup xs) ∧ NM μ a
theorem LstAt.sq {K : Fg} {μ : Sto} {H : Hp} {a : Addr} {xs : List V} (h : LstAt μ H a xs) : SqL K H a xs := .inl (.inl h.1)
theorem ScrAt.sq {K : Fg} {μ : Sto} {H : Hp} {a : Addr} {xs : List V} (h : ScrAt K μ H a xs) : SqL K H a xs := h.elim (fun q => .inl q.1) fun q => .inr q
theorem TupAt.sq {K : Fg} {μ : Sto} {H : Hp} {a : Addr} {xs : List V} (h : TupAt K μ H a xs) : SqT K H a xs := h.elim (fun ⟨o, q, _⟩ => .inl (.inr ⟨o, q⟩)) fun ⟨o, its, n, q1, q2, _, q3⟩ => .inr ⟨o, its, n, q1, q2, q3⟩
theorem PrAt.sq {K : Fg} {μ : Sto} {H : Hp} {a : Addr} {xs : List V} (h : PrAt μ H a xs) : SqT K H a xs := .inl h.1
/-- what values stand for what data -/
inductive Reps (K : Fg) (μ : Sto) (H : Hp) : List V → List D → Prop
  | nil : Reps K μ H [] []
  | non {vs ds} : Reps K μ H vs ds → Reps K μ H (.non :: vs) (.non :: ds)
  | bl {vs ds} (b : Bool) : Reps K μ H vs ds → Reps K μ H (.bl b :: vs) (.bl b :: ds)
  | int {vs ds} (i : Int) : Reps K μ H vs ds → Reps K μ H (.int i :: vs) (.int i :: ds)
  | str {vs ds} (x : Str) : Reps K μ H vs ds → Reps K μ H (.str x :: vs) (.str x :: ds)
  | hd {vs ds} (v : V) : Reps K μ H vs ds → Reps K μ H (v :: vs) (.hd v :: ds)
  | tup {vs ds a us es} : TupAt K μ H a us → Reps K μ H us es → Reps K μ H vs ds → Reps K μ H (.ref a :: vs) (.tup es :: ds)
  | pr {vs ds a us es} : PrAt μ H a us → Reps K μ H us es → Reps K μ H vs ds → Reps K μ H (.ref a :: vs) (.pr es :: ds)
  | scr {vs ds a ns} : ScrAt K μ H a (ns.map V.int) → Reps K μ H vs ds → Reps K μ H (.ref a :: vs) (.scr ns :: ds)
  | lst {vs ds a us es} : LstAt μ H a us → Reps K μ H us es → Reps K μ H vs ds → Reps K μ H (.ref a :: vs) (.lst es :: ds)
  | obj {vs ds a C dx ns us es} : H a = some (.ins C dx (ns.zip us)) → NM μ a → us.length = ns.length → Reps K μ H us es → Reps K μ H vs ds → Reps K μ H (.ref a :: vs) (.obj C ns es :: ds)
abbrev Rep (K : Fg) (μ : Sto) (H : Hp) (v : V) (d : D) : Prop := Reps K μ H [v] [d]
section
variable {K : Fg} {μ μ' μ'' : Sto} {H H' H'' : Hp} {v w : V} {d e : D} {vs us : List V} {ds es : List D}
theorem Reps.length (h : Reps K μ H vs ds) : vs.length = ds.length := by
  induction h <;> simp_all
theorem Reps.split (h : Reps K μ H (v :: vs) (d :: ds)) : Rep K μ H v d ∧ Reps K μ H vs ds := by
  cases h with
  | non r => exact ⟨.non .nil, r⟩
  | bl b r => exact ⟨.bl b .nil, r⟩
  | int i r => exact ⟨.int i .nil, r⟩
  | str x r => exact ⟨.str x .nil, r⟩
  | hd v r => exact ⟨.hd v .nil, r⟩
  | tup h1 h2 r => exact ⟨.tup h1 h2 .nil, r⟩
  | pr h1 h2 r => exact ⟨.pr h1 h2 .nil, r⟩
  | lst h1 h2 r => exact ⟨.lst h1 h2 .nil, r⟩
  | scr h1 r => exact ⟨.scr h1 .nil, r⟩
  | obj h1 h2 h3 h4 r => exact ⟨.obj h1 h2 h3 h4 .nil, r⟩
theorem Reps.cons (h : Rep K μ H v d) (r : Reps K μ H vs ds) : Reps K μ H (v :: vs) (d :: ds) := by
  cases h with
  | non _ => exact .non r
  | bl b _ => exact .bl b r
  | int i _ => exact .int i r
  | str x _ => exact .str x r
  | hd v _ => exact .hd v r
  | tup h1 h2 _ => exact .tup h1 h2 r
  | pr h1 h2 _ => exact .pr h1 h2 r
  | lst h1 h2 _ => exact .lst h1 h2 r
  | scr h1 _ => exact .scr h1 r
  | obj h1 h2 h3 h4 _ => exact .obj h1 h2 h3 h4 r
theorem Reps.get (h : Reps K μ H vs ds) : ∀ {i : Nat} {d : D}, ds[i]? = some d → ∃ v, vs[i]? = some v ∧ Rep K μ H v d := by
  intro i
  induction i generalizing vs ds with
  | zero =>
    intro d e
    cases ds with
    | nil => cases e
    | cons x r =>
      cases vs with
      | nil => have := h.length; simp at this
      | cons v vs =>
        cases e
        exact ⟨v, rfl, h.split.1⟩
  | succ i ih =>
    intro d e
    cases ds with
    | nil => cases e
    | cons x r =>
      cases vs with
      | nil => have := h.length; simp at this
      | cons v vs => exact ih h.split.2 e
theorem Reps.getV (h : Reps K μ H vs ds) {i : Nat} {v : V} (e : vs[i]? = some v) : ∃ d, ds[i]? = some d ∧ Rep K μ H v d := by
  have hi : i < ds.length := by rw [← h.length]; exact (List.getElem?_eq_some_iff.mp e).1
  obtain ⟨v', e', r⟩ := h.get (List.getElem?_eq_getElem hi)
  rw [e] at e'
  cases e'
  exact ⟨_, List.getElem?_eq_getElem hi, r⟩
theorem Reps.append (h : Reps K μ H vs ds) (r : Reps K μ H us es) : Reps K μ H (vs ++ us) (ds ++ es) := by
  induction vs generalizing ds with
  | nil => cases h; exact r
  | cons v vs ih =>
    cases ds with
    | nil => have := h.length; simp at this
    | cons d ds => exact .cons h.split.1 (ih h.split.2)
theorem Reps.take (h : Reps K μ H vs ds) : ∀ n, Reps K μ H (vs.take n) (ds.take n) := by
  intro n
  induction n generalizing vs ds with
  | zero => exact .nil
  | succ n ih =>
    cases ds with
    | nil =>
      cases vs with
      | nil => exact .nil
      | cons v vs => have := h.length; simp at this
    | cons d ds =>
      cases vs with
      | nil => have := h.length; simp at this
      | cons v vs => exact .cons h.split.1 (ih h.split.2)
theorem Reps.drop (h : Reps K μ H vs ds) : ∀ n, Reps K μ H (vs.drop n) (ds.drop n) := by
  intro n
  induction n generalizing vs ds with
  | zero => exact h
  | succ n ih =>
    cases ds with
    | nil =>
      cases vs with
      | nil => exact .nil
      | cons v vs => have := h.length; simp at this
    | cons d ds =>
      cases vs with
      | nil => have := h.length; simp at this
      | cons v vs => exact ih h.split.2
theorem Reps.set (h : Reps K μ H vs ds) (r : Rep K μ H v d) : ∀ j, Reps K μ H (vs.set j v) (ds.set j d) := by
  intro j
  induction j generalizing vs ds with
  | zero =>
    cases ds with
    | nil =>
      cases vs with
      | nil => exact .nil
      | cons v vs => have := h.length; simp at this
    | cons d ds =>
      cases vs with
      | nil => have := h.length; simp at this
      | cons v vs => exact .cons r h.split.2
  | succ n ih =>
    cases ds with
    | nil =>
      cases vs with
      | nil => exact .nil
      | cons v vs => have := h.length; simp at this
    | cons d ds =>
      cases vs with
      | nil => have := h.length; simp at this
      | cons v vs => exact .cons h.split.1 (ih h.split.2)
theorem Reps.reverse (h : Reps K μ H vs ds) : Reps K μ H vs.reverse ds.reverse := by
  induction vs generalizing ds with
  | nil => cases h; exact .nil
  | cons v vs ih =>
    cases ds with
    | nil => have := h.length; simp at this
    | cons d ds =>
      rw [List.reverse_cons, List.reverse_cons]
      exact (ih h.split.2).append (.cons h.split.1 .nil)
/-- all that stands still there, stands still here; nothing is gone -/
structure Evo (μ : Sto) (H : Hp) (μ' : Sto) (H' : Hp) : Prop where
  st : ∀ b o, H b = some o → NM μ b → H' b = some o ∧ NM μ' b
  th : ∀ b, H' b = none → H b = none
theorem Evo.refl : Evo μ H μ H := ⟨fun _ _ h n => ⟨h, n⟩, fun _ h => h⟩
theorem Evo.trans (a : Evo μ H μ' H') (b : Evo μ' H' μ'' H'') : Evo μ H μ'' H'' := ⟨fun c o h n => b.st c o (a.st c o h n).1 (a.st c o h n).2, fun c h => a.th c (b.th c h)⟩
theorem Evo.rd {a : Addr} {u : HO} (e : Evo μ H μ' H') (h : Rd H a u) (n : NM μ a) : Rd H' a u ∧ NM μ' a := by
  rcases h with h | ⟨o, h⟩
  · exact ⟨.inl (e.st a _ h n).1, (e.st a _ h n).2⟩
  · exact ⟨.inr ⟨o, (e.st a _ h n).1⟩, (e.st a _ h n).2⟩
theorem LstAt.mono {a : Addr} {xs : List V} (e : Evo μ H μ' H') (h : LstAt μ H a xs) : LstAt μ' H' a xs := e.st _ _ h.1 h.2
theorem ScrAt.mono {a : Addr} {xs : List V} (e : Evo μ H μ' H') (h : ScrAt K μ H a xs) : ScrAt K μ' H' a xs := by
  rcases h with ⟨h, n⟩ | h
  · exact .inl (e.rd h n)
  · exact .inr h
theorem TupAt.mono {a : Addr} {xs : List V} (e : Evo μ H μ' H') (h : TupAt K μ H a xs) : TupAt K μ' H' a xs := by
  rcases h with ⟨o, h, d, c, n⟩ | h
  · exact .inl ⟨o, (e.st a _ h n).1, d, c, (e.st a _ h n).2⟩
  · exact .inr h
theorem Reps.mono (e : Evo μ H μ' H') (h : Reps K μ H vs ds) : Reps K μ' H' vs ds := by
  induction h with
  | nil => exact .nil
  | non _ i => exact .non i
  | bl b _ i => exact .bl b i
  | int b _ i => exact .int b i
  | str b _ i => exact .str b i
  | hd b _ i => exact .hd b i
  | tup h1 _ _ i1 i2 => exact .tup (h1.mono e) i1 i2
  | pr h1 _ _ i1 i2 => exact .pr ⟨(e.rd h1.1 h1.2).1, (e.rd h1.1 h1.2).2⟩ i1 i2
  | lst h1 _ _ i1 i2 => exact .lst (h1.mono e) i1 i2
  | scr h1 _ i1 => exact .scr (h1.mono e) i1
  | obj h1 h2 h3 _ _ i1 i2 => exact .obj (e.st _ _ h1 h2).1 (e.st _ _ h1 h2).2 h3 i1 i2
/-- what is said of the handles holds of the heap -/
def CellOk (K : Fg) (μ : Sto) (H : Hp) (a : Addr) : Cell → Prop
  | .lst ds => ∃ vs, H a = some (.lst vs) ∧ Reps K μ H vs ds
  | .frz ds => ∃ vs, H a = some (.lst vs) ∧ Reps K μ H vs ds
  | .ins C ns ds => ∃ dx us, H a = some (.ins C dx (ns.zip us)) ∧ us.length = ns.length ∧ Reps K μ H us ds
  | .rng lo hi => H a = some (.rng lo hi)
def StoOk (K : Fg) (μ : Sto) (H : Hp) : Prop := ∀ a c, μ a = some c → CellOk K μ H a c
theorem CellOk.there {a : Addr} {c : Cell} (h : CellOk K μ H a c) : ∃ o, H a = some o := by
  cases c with
  | lst ds => obtain ⟨_, e, _⟩ := h; exact ⟨_, e⟩
  | frz ds => obtain ⟨_, e, _⟩ := h; exact ⟨_, e⟩
  | ins C ns ds => obtain ⟨_, _, e, _⟩ := h; exact ⟨_, e⟩
  | rng lo hi => exact ⟨_, h⟩
theorem StoOk.fresh {p : Addr} (s : StoOk K μ H) (h : H p = none) : μ p = none := by
  cases e : μ p with
  | none => rfl
  | some c =>
    obtain ⟨o, q⟩ := (s p c e).there
    rw [h] at q
    cases q
theorem CellOk.mono {a : Addr} {c : Cell} (e : Evo μ H μ' H') (hs : ∀ o, H a = some o → H' a = some o) (h : CellOk K μ H a c) : CellOk K μ' H' a c := by
  cases c with
  | lst ds => obtain ⟨vs, q, r⟩ := h; exact ⟨vs, hs _ q, r.mono e⟩
  | frz ds => obtain ⟨vs, q, r⟩ := h; exact ⟨vs, hs _ q, r.mono e⟩
  | ins C ns ds => obtain ⟨dx, us, q, l, r⟩ := h; exact ⟨dx, us, hs _ q, l, r.mono e⟩
  | rng lo hi => exact hs _ h
/-- a new object -/
theorem upd_th {p : Addr} {o : HO} {b : Addr} (h : upd H p o b = none) : H b = none := by
  by_cases e : b = p
  · subst e; rw [upd_same] at h; cases h
  · rw [upd_ne e] at h; exact h
theorem Evo.new {p : Addr} {o : HO} (h : H p = none) : Evo μ H μ (upd H p o) := ⟨fun b u e n => ⟨by rw [upd_ne (ne_of_none e h)]; exact e, n⟩, fun b q => upd_th q⟩
theorem StoOk.new {p : Addr} {o : HO} (s : StoOk K μ H) (h : H p = none) : StoOk K μ (upd H p o) := fun a c e =>
  (s a c e).mono (.new h) fun u q => by rw [upd_ne (ne_of_none q h)]; exact q
theorem NM.new {p : Addr} (s : StoOk K μ H) (h : H p = none) : NM μ p := .of (s.fresh h)
/-- a new object that has a cell -/
theorem Evo.newC {p : Addr} {o : HO} {c : Cell} (s : StoOk K μ H) (h : H p = none) : Evo μ H (sset μ p c) (upd H p o) := ⟨fun b u e n => by
  have hb : b ≠ p := ne_of_none e h
  refine ⟨by rw [upd_ne hb]; exact e, ?_⟩
  unfold NM
  rw [sset_ne hb]
  exact n, fun b q => upd_th q⟩
/-- the cell at p changes; nothing else does -/
theorem Evo.cell {p : Addr} {o : HO} {c c' : Cell} (hp : μ p = some c) (hn : ¬ NM μ p) : Evo μ H (sset μ p c') (upd H p o) := ⟨fun b u e n => by
  have hb : b ≠ p := fun q => hn (q ▸ n)
  refine ⟨by rw [upd_ne hb]; exact e, ?_⟩
  unfold NM
  rw [sset_ne hb]
  exact n, fun b q => upd_th q⟩
theorem StoOk.cell {p : Addr} {o : HO} {c' : Cell} (s : StoOk K μ H) (e : Evo μ H (sset μ p c') (upd H p o)) (h : CellOk K (sset μ p c') (upd H p o) p c') : StoOk K (sset μ p c') (upd H p o) := fun a x q => by
  by_cases ha : a = p
  · subst ha
    rw [sset_same] at q
    cases q
    exact h
  · rw [sset_ne ha] at q
    exact (s a x q).mono e fun u z => by rw [upd_ne ha]; exact z
/-- a list comes to rest -/
theorem Evo.rest {p : Addr} {ds : List D} (hp : μ p = some (.lst ds)) : Evo μ H (sset μ p (.frz ds)) H := ⟨fun b u e n => by
  have hb : b ≠ p := fun q => by subst q; exact n.notL hp
  refine ⟨e, ?_⟩
  unfold NM
  rw [sset_ne hb]
  exact n, fun _ q => q⟩
theorem StoOk.rest {p : Addr} {ds : List D} (s : StoOk K μ H) (hp : μ p = some (.lst ds)) : StoOk K (sset μ p (.frz ds)) H := fun a x q => by
  by_cases ha : a = p
  · subst ha
    rw [sset_same] at q
    cases q
    exact (s a _ hp).mono (.rest hp) fun _ z => z
  · rw [sset_ne ha] at q
    exact (s a x q).mono (.rest hp) fun _ z => z
/-- fewer cells -/
def Sub (μ μ' : Sto) : Prop := ∀ a c, μ a = some c → μ' a = some c
theorem Sub.refl : Sub μ μ := fun _ _ h => h
theorem Sub.trans (a : Sub μ μ') (b : Sub μ' μ'') : Sub μ μ'' := fun c x h => b c x (a c x h)
theorem Sub.set {p : Addr} {c : Cell} (s : Sub μ μ') (h : μ p = none) : Sub μ (sset μ' p c) := fun a x e => by
  have : a ≠ p := fun q => by subst q; rw [h] at e; cases e
  rw [sset_ne this]
  exact s a x e
theorem Sub.none {p : Addr} (s : Sub μ μ') (h : μ' p = none) : μ p = none := by
  cases e : μ p with
  | none => rfl
  | some c => rw [s p c e] at h; cases h
theorem Sub.nm {a : Addr} (s : Sub μ μ') (h : NM μ' a) : NM μ a := by
  unfold NM at h ⊢
  cases e : μ a with
  | none => exact trivial
  | some c => rw [s a c e] at h; exact h
theorem Sub.evo (s : Sub μ' μ) : Evo μ H μ' H := ⟨fun b o e n => ⟨e, s.nm n⟩, fun _ q => q⟩
/-- without the cell at p -/
def sdel (μ : Sto) (p : Addr) : Sto := fun b => if b = p then none else μ b
theorem sdel_sub {p : Addr} : Sub (sdel μ p) μ := fun a c e => by
  unfold sdel at e
  split at e
  · cases e
  · exact e
theorem sdel_sset {p : Addr} {c : Cell} (h : μ p = none) : sdel (sset μ p c) p = μ := by
  funext b; unfold sdel sset; by_cases e : b = p
  · subst e; rw [if_pos rfl, h]
  · rw [if_neg e, if_neg e]
theorem sdel_same {p : Addr} : sdel μ p p = none := by unfold sdel; rw [if_pos rfl]
theorem Sub.sto (s : Sub μ' μ) (h : StoOk K μ H) : StoOk K μ' H := fun a c e => (h a c (s a c e)).mono s.evo fun _ z => z
/-- the names' values -/
abbrev DEnv := List (Option D)
structure EnvOk (K : Fg) (μ : Sto) (H : Hp) (σ : St) (δ : DEnv) : Prop where
  len : σ.length = δ.length
  at_ : ∀ (i : Nat) (d : D), δ[i]? = some (some d) → ∃ v, σ[i]? = some (some v) ∧ Rep K μ H v d
theorem EnvOk.mono {σ : St} {δ : DEnv} (e : Evo μ H μ' H') (h : EnvOk K μ H σ δ) : EnvOk K μ' H' σ δ := ⟨h.len, fun i d q => by
  obtain ⟨v, a, b⟩ := h.at_ i d q
  exact ⟨v, a, b.mono e⟩⟩
theorem EnvOk.set {σ : St} {δ : DEnv} (h : EnvOk K μ H σ δ) (r : Rep K μ H v d) (j : Nat) : EnvOk K μ H (σ.set j (some v)) (δ.set j (some d)) := ⟨by rw [List.length_set, List.length_set]; exact h.len, fun i x q => by
  rw [List.getElem?_set] at q
  rw [List.getElem?_set]
  by_cases hj : j = i
  · rw [if_pos hj] at q ⊢
    rw [h.len]
    by_cases hl : j < δ.length
    · rw [if_pos hl] at q ⊢
      cases q
      exact ⟨v, rfl, r⟩
    · rw [if_neg hl] at q
      cases q
  · rw [if_neg hj] at q ⊢
    exact h.at_ i x q⟩
/-- what is known where one stands -/
structure Sm (K : Fg) (H0 : Hp) (μ0 : Sto) (σ : St) (H : Hp) (δ : DEnv) (μ : Sto) : Prop where
  evo : Evo μ0 H0 μ H
  sto : StoOk K μ H
  env : EnvOk K μ H σ δ
theorem Sm.step {H0 : Hp} {μ0 : Sto} {σ : St} {δ : DEnv} (S : Sm K H0 μ0 σ H δ μ) (e : Evo μ H μ' H') (s : StoOk K μ' H') : Sm K H0 μ0 σ H' δ μ' := ⟨S.evo.trans e, s, S.env.mono e⟩
theorem Sm.set {H0 : Hp} {μ0 : Sto} {σ : St} {δ : DEnv} (S : Sm K H0 μ0 σ H δ μ) (r : Rep K μ H v d) (j : Nat) : Sm K H0 μ0 (σ.set j (some v)) H (δ.set j (some d)) μ := ⟨S.evo, S.sto, S.env.set r j⟩
end
end DW
set_option Elab.async false
set_option linter.all false
set_option maxRecDepth 100000
namespace DW
open PySem PySem.Spec L2
/-- an exception that is on its way: its class, its own fields -/
inductive XD where
  | mk (C : Addr) (fs : Option (List Str × List D))
abbrev XP := XD → DEnv → Sto → Prop
abbrev DK := D → Sto → Prop
def RepX (K : Fg) (μ : Sto) (H : Hp) (cls : Value) (dd : Option Addr) : XD → Prop
  | .mk C none => cls = .ref C ∧ dd = none
  | .mk C (some (ns, ds)) => cls = .ref C ∧ ∃ d us, dd = some d ∧ H d = some (.xd (ns.zip us)) ∧ NM μ d ∧ us.length = ns.length ∧ Reps K μ H us ds
/-- where a piece of code stands: the written part, the heap and the handles at the entry, what is wished of exceptions -/
structure Bx (K : Fg) where
  H0 : Hp
  μ0 : Sto
  W : WX
  Ψ : XP
  hW : ∀ cls dd σ H x δ μ, Sm K H0 μ0 σ H δ μ → RepX K μ H cls dd x → Ψ x δ μ → W cls dd σ H
/-- the same, from a later moment on -/
abbrev Bx.re {K : Fg} (B : Bx K) (H1 : Hp) (μ1 : Sto) (e : Evo B.μ0 B.H0 μ1 H1) : Bx K := ⟨H1, μ1, B.W, B.Ψ, fun cls dd σ H x δ μ S => B.hW cls dd σ H x δ μ ⟨e.trans S.evo, S.sto, S.env⟩⟩
abbrev DE := XP → DEnv → Sto → DK → Prop
abbrev DA := XP → DEnv → Sto → (List D → Sto → Prop) → Prop
abbrev DT := XP → DEnv → Sto → (Bool → Sto → Prop) → Prop
structure DEnds where
  nx : DEnv → Sto → Prop
  rt : D → Sto → Prop
  bk : DEnv → Sto → Prop
  ct : DEnv → Sto → Prop
abbrev DSt := XP → DEnds → DEnv → Sto → Prop
section
variable {K : Fg} (B : Bx K)
abbrev Bx.S {K : Fg} (B : Bx K) (σ : L2.St) (H : Hp) (δ : DEnv) (μ : Sto) : Prop := Sm K B.H0 B.μ0 σ H δ μ
/-- the reading te follows from the data's reading φ -/
def SE (te : TE) (φ : DE) : Prop := ∀ (σ : L2.St) (H : Hp) (δ : DEnv) (μ : Sto) (Φ : DK) (Q : VK), B.S σ H δ μ → φ B.Ψ δ μ Φ →
  (∀ v H' d μ', B.S σ H' δ μ' → Evo μ H μ' H' → Rep K μ' H' v d → Φ d μ' → Q v H') → te σ H Q
def SA (ta : TA) (φ : DA) : Prop := ∀ (σ : L2.St) (H : Hp) (δ : DEnv) (μ : Sto) (Φ : List D → Sto → Prop) (Q : List V → Hp → Prop), B.S σ H δ μ → φ B.Ψ δ μ Φ →
  (∀ vs H' ds μ', B.S σ H' δ μ' → Evo μ H μ' H' → Reps K μ' H' vs ds → Φ ds μ' → Q vs H') → ta σ H Q
def ST (tt : TT) (φ : DT) : Prop := ∀ (σ : L2.St) (H : Hp) (δ : DEnv) (μ : Sto) (Φ : Bool → Sto → Prop) (Q : Bool → Hp → Prop), B.S σ H δ μ → φ B.Ψ δ μ Φ →
  (∀ b H' μ', B.S σ H' δ μ' → Evo μ H μ' H' → Φ b μ' → Q b H') → tt σ H Q
structure EO (D : Ends) (Δ : DEnds) : Prop where
  nx : ∀ σ H δ μ, B.S σ H δ μ → Δ.nx δ μ → D.nx σ H
  rt : ∀ v H d μ σ δ, B.S σ H δ μ → Rep K μ H v d → Δ.rt d μ → D.rt v H
  bk : ∀ σ H δ μ, B.S σ H δ μ → Δ.bk δ μ → D.bk σ H
  ct : ∀ σ H δ μ, B.S σ H δ μ → Δ.ct δ μ → D.ct σ H
def SS (ts : TS) (φ : DSt) : Prop := ∀ (D : Ends) (Δ : DEnds) (σ : L2.St) (H : Hp) (δ : DEnv) (μ : Sto), EO B D Δ → B.S σ H δ μ → φ B.Ψ Δ δ μ → ts D σ H
end
section
variable {K : Fg} {B : Bx K} {te ta tb tc : TE} {φ φa φb φc : DE} {tt tu : TT} {θ ϑ : DT} {tas : TA} {ψ : DA} {ts tz : TS} {ω ζ : DSt}
def dVar (i : Nat) : DE := fun _ δ μ Φ => ∃ d, δ[i]? = some (some d) ∧ Φ d μ
theorem sVar {i : Nat} : SE B (tVar i) (dVar i) := fun σ H δ μ Φ Q S h k => by
  obtain ⟨d, e, h⟩ := h
  obtain ⟨v, ev, r⟩ := S.env.at_ i d e
  exact ⟨v, ev, k v H d μ S .refl r h⟩
/-- a name that holds a list's handle, read as the list: it changes no more -/
def dRest (i : Nat) : DE := fun _ δ μ Φ => ∃ a ds, δ[i]? = some (some (.hd (.ref a))) ∧ μ a = some (.lst ds) ∧ Φ (.lst ds) (sset μ a (.frz ds))
theorem Rep.hd_inv {K : Fg} {μ : Sto} {H : Hp} {v w : V} (h : Rep K μ H v (.hd w)) : v = w := by cases h; rfl
theorem sRest {i : Nat} : SE B (tVar i) (dRest i) := fun σ H δ μ Φ Q S h k => by
  obtain ⟨a, ds, e, hm, h⟩ := h
  obtain ⟨v, ev, r⟩ := S.env.at_ i _ e
  obtain rfl := Rep.hd_inv r
  have ev2 : Evo μ H (sset μ a (.frz ds)) H := .rest hm
  have st2 := S.sto.rest hm
  obtain ⟨vs, q1, q2⟩ := st2 a _ sset_same
  exact ⟨_, ev, k _ H _ _ (S.step ev2 st2) ev2 (.lst ⟨q1, .frz sset_same⟩ q2 .nil) h⟩
def dC (d : D) : DE := fun _ _ μ Φ => Φ d μ
theorem sC {v : V} {d : D} (r : ∀ K μ H, Rep K μ H v d) : SE B (tC v) (dC d) := fun σ H δ μ Φ Q S h k => k v H d μ S .refl (r _ _ _) h
theorem sInt {i : Int} : SE B (tC (.int i)) (dC (.int i)) := sC fun _ _ _ => .int i .nil
theorem sStr {x : Str} : SE B (tC (.str x)) (dC (.str x)) := sC fun _ _ _ => .str x .nil
theorem sBl {b : Bool} : SE B (tC (.bl b)) (dC (.bl b)) := sC fun _ _ _ => .bl b .nil
theorem sNon : SE B (tC .non) (dC .non) := sC fun _ _ _ => .non .nil
theorem sHd {v : V} : SE B (tC v) (dC (.hd v)) := sC fun _ _ _ => .hd v .nil
/-- an operator by data -/
abbrev DO := D → D → Sto → DK → Prop
def RO (K : Fg) (r : R2) (ρ : DO) : Prop := ∀ (H : Hp) (μ : Sto) (v w : V) (d e : D) (Φ : DK) (Q : VK), StoOk K μ H → Rep K μ H v d → Rep K μ H w e → ρ d e μ Φ →
  (∀ z H' c μ', Evo μ H μ' H' → StoOk K μ' H' → Rep K μ' H' z c → Φ c μ' → Q z H') → r v w H Q
def dOp (ρ : DO) (φa φb : DE) : DE := fun Ψ δ μ Φ => φa Ψ δ μ fun x μ1 => φb Ψ δ μ1 fun y μ2 => ρ x y μ2 Φ
theorem sOp {r : R2} {ρ : DO} (h : RO K r ρ) (a : SE B ta φa) (b : SE B tb φb) : SE B (tOp r ta tb) (dOp ρ φa φb) := fun σ H δ μ Φ Q S q k =>
  a σ H δ μ _ _ S q fun v H1 x μ1 S1 e1 r1 q1 => b σ H1 δ μ1 _ _ S1 q1 fun w H2 y μ2 S2 e2 r2 q2 =>
    h H2 μ2 v w x y Φ Q S2.sto (Reps.mono e2 r1) r2 q2 fun z H3 c μ3 e3 s3 r3 p => k z H3 c μ3 (S2.step e3 s3) ((e1.trans e2).trans e3) r3 p
abbrev DU := D → Sto → DK → Prop
def RU (K : Fg) (r : V → Hp → VK → Prop) (ρ : DU) : Prop := ∀ (H : Hp) (μ : Sto) (v : V) (d : D) (Φ : DK) (Q : VK), StoOk K μ H → Rep K μ H v d → ρ d μ Φ →
  (∀ z H' c μ', Evo μ H μ' H' → StoOk K μ' H' → Rep K μ' H' z c → Φ c μ' → Q z H') → r v H Q
def dUn (ρ : DU) (φa : DE) : DE := fun Ψ δ μ Φ => φa Ψ δ μ fun x μ1 => ρ x μ1 Φ
theorem sUn {r : V → Hp → VK → Prop} {ρ : DU} (h : RU K r ρ) (a : SE B ta φa) : SE B (tUn r ta) (dUn ρ φa) := fun σ H δ μ Φ Q S q k =>
  a σ H δ μ _ _ S q fun v H1 x μ1 S1 e1 r1 q1 => h H1 μ1 v x Φ Q S1.sto r1 q1 fun z H3 c μ3 e3 s3 r3 p => k z H3 c μ3 (S1.step e3 s3) (e1.trans e3) r3 p
def dTest (φ : DE) : DT := fun Ψ δ μ Φ => φ Ψ δ μ fun x μ1 => ∃ b, x = .bl b ∧ Φ b μ1
theorem Rep.bl_inv {K : Fg} {μ : Sto} {H : Hp} {v : V} {b : Bool} (h : Rep K μ H v (.bl b)) : v = .bl b := by cases h; rfl
theorem Rep.int_inv {K : Fg} {μ : Sto} {H : Hp} {v : V} {b : Int} (h : Rep K μ H v (.int b)) : v = .int b := by cases h; rfl
theorem Rep.non_inv {K : Fg} {μ : Sto} {H : Hp} {v : V} (h : Rep K μ H v .non) : v = .non := by cases h; rfl
theorem sTest (a : SE B ta φa) : ST B (tTest ta) (dTest φa) := fun σ H δ μ Φ Q S q k =>
  a σ H δ μ _ _ S q fun v H1 x μ1 S1 e1 r1 q1 => by
    obtain ⟨b, rfl, q2⟩ := q1
    obtain rfl := Rep.bl_inv r1
    exact ⟨b, rfl, k b H1 μ1 S1 e1 q2⟩
theorem sB (a : SE B ta φa) : ST B (tB ta) (dTest φa) := fun σ H δ μ Φ Q S q k =>
  a σ H δ μ _ _ S q fun v H1 x μ1 S1 e1 r1 q1 => by
    obtain ⟨b, rfl, q2⟩ := q1
    obtain rfl := Rep.bl_inv r1
    exact ⟨b, rfl, k b H1 μ1 S1 e1 q2⟩
def dAnd (θ ϑ : DT) : DT := fun Ψ δ μ Φ => θ Ψ δ μ fun b μ1 => (b = true → ϑ Ψ δ μ1 Φ) ∧ (b = false → Φ false μ1)
def dOr (θ ϑ : DT) : DT := fun Ψ δ μ Φ => θ Ψ δ μ fun b μ1 => (b = true → Φ true μ1) ∧ (b = false → ϑ Ψ δ μ1 Φ)
def dNot (θ : DT) : DT := fun Ψ δ μ Φ => θ Ψ δ μ fun b μ1 => Φ (!b) μ1
theorem sAnd (a : ST B tt θ) (b : ST B tu ϑ) : ST B (tAnd tt tu) (dAnd θ ϑ) := fun σ H δ μ Φ Q S q k =>
  a σ H δ μ _ _ S q fun v H1 μ1 S1 e1 q1 => by
    cases v with
    | true => exact b σ H1 δ μ1 _ _ S1 (q1.1 rfl) fun w H2 μ2 S2 e2 q2 => k w H2 μ2 S2 (e1.trans e2) q2
    | false => exact k false H1 μ1 S1 e1 (q1.2 rfl)
theorem sOr (a : ST B tt θ) (b : ST B tu ϑ) : ST B (tOr tt tu) (dOr θ ϑ) := fun σ H δ μ Φ Q S q k =>
  a σ H δ μ _ _ S q fun v H1 μ1 S1 e1 q1 => by
    cases v with
    | true => exact k true H1 μ1 S1 e1 (q1.1 rfl)
    | false => exact b σ H1 δ μ1 _ _ S1 (q1.2 rfl) fun w H2 μ2 S2 e2 q2 => k w H2 μ2 S2 (e1.trans e2) q2
theorem sNot (a : ST B tt θ) : ST B (tNot tt) (dNot θ) := fun σ H δ μ Φ Q S q k =>
  a σ H δ μ _ _ S q fun v H1 μ1 S1 e1 q1 => k (!v) H1 μ1 S1 e1 q1
def dAndV (φa φb : DE) : DE := fun Ψ δ μ Φ => φa Ψ δ μ fun x μ1 => ∃ b, x = .bl b ∧ (b = true → φb Ψ δ μ1 Φ) ∧ (b = false → Φ (.bl false) μ1)
def dOrV (φa φb : DE) : DE := fun Ψ δ μ Φ => φa Ψ δ μ fun x μ1 => ∃ b, x = .bl b ∧ (b = true → Φ (.bl true) μ1) ∧ (b = false → φb Ψ δ μ1 Φ)
def dNotV (φa : DE) : DE := fun Ψ δ μ Φ => φa Ψ δ μ fun x μ1 => ∃ b, x = .bl b ∧ Φ (.bl (!b)) μ1
theorem sAndV (a : SE B ta φa) (b : SE B tb φb) : SE B (tAndV ta tb) (dAndV φa φb) := fun σ H δ μ Φ Q S q k =>
  a σ H δ μ _ _ S q fun v H1 x μ1 S1 e1 r1 q1 => by
    obtain ⟨c, rfl, q2, q3⟩ := q1
    obtain rfl := Rep.bl_inv r1
    refine ⟨c, rfl, ?_⟩
    cases c with
    | true => exact b σ H1 δ μ1 _ _ S1 (q2 rfl) fun w H2 y μ2 S2 e2 r2 p => k w H2 y μ2 S2 (e1.trans e2) r2 p
    | false => exact k _ H1 _ μ1 S1 e1 (.bl false .nil) (q3 rfl)
theorem sOrV (a : SE B ta φa) (b : SE B tb φb) : SE B (tOrV ta tb) (dOrV φa φb) := fun σ H δ μ Φ Q S q k =>
  a σ H δ μ _ _ S q fun v H1 x μ1 S1 e1 r1 q1 => by
    obtain ⟨c, rfl, q2, q3⟩ := q1
    obtain rfl := Rep.bl_inv r1
    refine ⟨c, rfl, ?_⟩
    cases c with
    | true => exact k _ H1 _ μ1 S1 e1 (.bl true .nil) (q2 rfl)
    | false => exact b σ H1 δ μ1 _ _ S1 (q3 rfl) fun w H2 y μ2 S2 e2 r2 p => k w H2 y μ2 S2 (e1.trans e2) r2 p
theorem sNotV (a : SE B ta φa) : SE B (tNotV ta) (dNotV φa) := fun σ H δ μ Φ Q S q k =>
  a σ H δ μ _ _ S q fun v H1 x μ1 S1 e1 r1 q1 => by
    obtain ⟨c, rfl, q2⟩ := q1
    obtain rfl := Rep.bl_inv r1
    exact ⟨c, rfl, k _ H1 _ μ1 S1 e1 (.bl _ .nil) q2⟩
def dIf (θ : DT) (φa φb : DE) : DE := fun Ψ δ μ Φ => θ Ψ δ μ fun b μ1 => (b = true → φa Ψ δ μ1 Φ) ∧ (b = false → φb Ψ δ μ1 Φ)
theorem sIf (c : ST B tt θ) (a : SE B ta φa) (b : SE B tb φb) : SE B (tIf tt ta tb) (dIf θ φa φb) := fun σ H δ μ Φ Q S q k =>
  c σ H δ μ _ _ S q fun v H1 μ1 S1 e1 q1 => by
    cases v with
    | true => exact a σ H1 δ μ1 _ _ S1 (q1.1 rfl) fun w H2 y μ2 S2 e2 r2 p => k w H2 y μ2 S2 (e1.trans e2) r2 p
    | false => exact b σ H1 δ μ1 _ _ S1 (q1.2 rfl) fun w H2 y μ2 S2 e2 r2 p => k w H2 y μ2 S2 (e1.trans e2) r2 p
/-- a comparison of three -/
def dChain (ρ ρ' : DO) (φa φb φc : DE) : DE := fun Ψ δ μ Φ => φa Ψ δ μ fun x μ1 => φb Ψ δ μ1 fun y μ2 => ρ x y μ2 fun z μ3 => ∃ b, z = .bl b ∧ (b = true → φc Ψ δ μ3 fun u μ4 => ρ' y u μ4 Φ) ∧ (b = false → Φ (.bl false) μ3)
theorem sChain {r r' : R2} {ρ ρ' : DO} (h : RO K r ρ) (h' : RO K r' ρ') (a : SE B ta φa) (b : SE B tb φb) (c : SE B tc φc) : SE B (tChain r r' ta tb tc) (dChain ρ ρ' φa φb φc) := fun σ H δ μ Φ Q S q k =>
  a σ H δ μ _ _ S q fun v H1 x μ1 S1 e1 r1 q1 => b σ H1 δ μ1 _ _ S1 q1 fun w H2 y μ2 S2 e2 r2 q2 =>
    h H2 μ2 v w x y _ _ S2.sto (Reps.mono e2 r1) r2 q2 fun z H3 d μ3 e3 s3 r3 p => by
      obtain ⟨i, rfl, p1, p2⟩ := p
      obtain rfl := Rep.bl_inv r3
      refine ⟨i, rfl, ?_⟩
      have S3 := S2.step e3 s3
      cases i with
      | true =>
        exact c σ H3 δ μ3 _ _ S3 (p1 rfl) fun w4 H4 y4 μ4 S4 e4 r4 p4 =>
          h' H4 μ4 w w4 y y4 _ _ S4.sto (Reps.mono (e3.trans e4) r2) r4 p4 fun z5 H5 d5 μ5 e5 s5 r5 p5 => k z5 H5 d5 μ5 (S4.step e5 s5) (((e1.trans e2).trans e3).trans (e4.trans e5)) r5 p5
      | false => exact k _ H3 _ μ3 S3 ((e1.trans e2).trans e3) (.bl false .nil) (p2 rfl)
def dNil : DA := fun _ _ μ Φ => Φ [] μ
def dCons (φ : DE) (ψ : DA) : DA := fun Ψ δ μ Φ => φ Ψ δ μ fun x μ1 => ψ Ψ δ μ1 fun xs μ2 => Φ (x :: xs) μ2
theorem sNil : SA B tNil dNil := fun σ H δ μ Φ Q S q k => k [] H [] μ S .refl .nil q
theorem sCons (a : SE B ta φa) (b : SA B tas ψ) : SA B (tCons ta tas) (dCons φa ψ) := fun σ H δ μ Φ Q S q k =>
  a σ H δ μ _ _ S q fun v H1 x μ1 S1 e1 r1 q1 => b σ H1 δ μ1 _ _ S1 q1 fun vs H2 xs μ2 S2 e2 r2 q2 => k _ H2 _ μ2 S2 (e1.trans e2) (.cons (Reps.mono e2 r1) r2) q2
def dTup (ψ : DA) : DE := fun Ψ δ μ Φ => ψ Ψ δ μ fun xs μ1 => xs.length ≤ 100000 ∧ Φ (.tup xs) μ1
theorem rep_tup {K : Fg} {μ : Sto} {H : Hp} {p : Addr} {vs : List V} {ds : List D} (s : StoOk K μ H) (hp : H p = none) (r : Reps K μ H vs ds) : Rep K μ (upd H p (.tup vs)) (.ref p) (.pr ds) :=
  .pr ⟨.inl upd_same, .new s hp⟩ (r.mono (.new hp)) .nil
theorem rep_tupN {K : Fg} {μ : Sto} {H : Hp} {p : Addr} {o : Obj} {vs : List V} {ds : List D} (s : StoOk K μ H) (hp : H p = none) (ho : o.dict = none) (hc : o.cls = .type "tuple") (r : Reps K μ H vs ds) : Rep K μ (upd H p (.frz o (.tup vs))) (.ref p) (.tup ds) :=
  .tup (.inl ⟨o, upd_same, ho, hc, .new s hp⟩) (r.mono (.new hp)) .nil
theorem rep_lst {K : Fg} {μ : Sto} {H : Hp} {p : Addr} {vs : List V} {ds : List D} (s : StoOk K μ H) (hp : H p = none) (r : Reps K μ H vs ds) : Rep K μ (upd H p (.lst vs)) (.ref p) (.lst ds) :=
  .lst ⟨upd_same, .new s hp⟩ (r.mono (.new hp)) .nil
theorem sz {n : Nat} (h : n ≤ 100000) : n ≤ sizeLine := Nat.le_trans h (by decide)
theorem sTup (b : SA B tas ψ) : SE B (tTupN tas) (dTup ψ) := fun σ H δ μ Φ Q S q k =>
  b σ H δ μ _ _ S q fun vs H1 xs μ1 S1 e1 r1 q1 => ⟨sz (by rw [r1.length]; exact q1.1), fun p o ho hc hp => k _ _ _ μ1 (S1.step (.new hp) (S1.sto.new hp)) (e1.trans (.new hp)) (rep_tupN S1.sto hp ho hc r1) q1.2⟩
def dLst (ψ : DA) : DE := fun Ψ δ μ Φ => ψ Ψ δ μ fun xs μ1 => xs.length ≤ 100000 ∧ Φ (.lst xs) μ1
theorem sLst (b : SA B tas ψ) : SE B (tLst tas) (dLst ψ) := fun σ H δ μ Φ Q S q k =>
  b σ H δ μ _ _ S q fun vs H1 xs μ1 S1 e1 r1 q1 => ⟨sz (by rw [r1.length]; exact q1.1), fun p hp => k _ _ _ μ1 (S1.step (.new hp) (S1.sto.new hp)) (e1.trans (.new hp)) (rep_lst S1.sto hp r1) q1.2⟩
/-- a list that will change: its handle -/
def dOwn (ψ : DA) : DE := fun Ψ δ μ Φ => ψ Ψ δ μ fun xs μ1 => xs.length ≤ 100000 ∧ ∀ p, μ1 p = none → Φ (.hd (.ref p)) (sset μ1 p (.lst xs))
theorem sto_own {K : Fg} {μ : Sto} {H : Hp} {p : Addr} {vs : List V} {ds : List D} (s : StoOk K μ H) (hp : H p = none) (r : Reps K μ H vs ds) : StoOk K (sset μ p (.lst ds)) (upd H p (.lst vs)) :=
  s.cell (.newC s hp) ⟨vs, upd_same, r.mono (.newC s hp)⟩
theorem sOwn (b : SA B tas ψ) : SE B (tLst tas) (dOwn ψ) := fun σ H δ μ Φ Q S q k =>
  b σ H δ μ _ _ S q fun vs H1 xs μ1 S1 e1 r1 q1 => ⟨sz (by rw [r1.length]; exact q1.1), fun p hp =>
    k _ _ _ _ (S1.step (.newC S1.sto hp) (sto_own S1.sto hp r1)) (e1.trans (.newC S1.sto hp)) (.hd _ .nil) (q1.2 p (S1.sto.fresh hp))⟩
def dSeq (ω ζ : DSt) : DSt := fun Ψ Δ δ μ => ω Ψ { Δ with nx := ζ Ψ Δ } δ μ
theorem sSeq (a : SS B ts ω) (b : SS B tz ζ) : SS B (tSeq ts tz) (dSeq ω ζ) := fun D Δ σ H δ μ E S q =>
  a { D with nx := tz D } { Δ with nx := ζ B.Ψ Δ } σ H δ μ ⟨fun σ' H' δ' μ' S' q' => b D Δ σ' H' δ' μ' E S' q', E.rt, E.bk, E.ct⟩ S q
def dNext : DSt := fun _ Δ δ μ => Δ.nx δ μ
theorem sNext : SS B tNext dNext := fun D Δ σ H δ μ E S q => E.nx σ H δ μ S q
def dBreak : DSt := fun _ Δ δ μ => Δ.bk δ μ
def dCont : DSt := fun _ Δ δ μ => Δ.ct δ μ
def dDrop (φ : DE) : DSt := fun Ψ Δ δ μ => φ Ψ δ μ fun _ μ1 => Δ.nx δ μ1
theorem sDrop (a : SE B ta φa) : SS B (tDrop ta) (dDrop φa) := fun D Δ σ H δ μ E S q => a σ H δ μ _ _ S q fun v H1 x μ1 S1 e1 r1 q1 => E.nx σ H1 δ μ1 S1 q1
def dRet (φ : DE) : DSt := fun Ψ Δ δ μ => φ Ψ δ μ Δ.rt
theorem sRet (a : SE B ta φa) : SS B (tRet ta) (dRet φa) := fun D Δ σ H δ μ E S q => a σ H δ μ _ _ S q fun v H1 x μ1 S1 e1 r1 q1 => E.rt v H1 x μ1 σ δ S1 r1 q1
def dRetN : DSt := fun _ Δ δ μ => Δ.rt .non μ
def dIfS (θ : DT) (ω ζ : DSt) : DSt := fun Ψ Δ δ μ => θ Ψ δ μ fun b μ1 => (b = true → ω Ψ Δ δ μ1) ∧ (b = false → ζ Ψ Δ δ μ1)
theorem sIfS (c : ST B tt θ) (a : SS B ts ω) (b : SS B tz ζ) : SS B (tIfS tt ts tz) (dIfS θ ω ζ) := fun D Δ σ H δ μ E S q =>
  c σ H δ μ _ _ S q fun v H1 μ1 S1 e1 q1 => by
    cases v with
    | true => exact a D Δ σ H1 δ μ1 E S1 (q1.1 rfl)
    | false => exact b D Δ σ H1 δ μ1 E S1 (q1.2 rfl)
/-- targets -/
abbrev DG := D → DEnv → Sto → (DEnv → Sto → Prop) → Prop
def SG {K : Fg} (B : Bx K) (g : TG) (γ : DG) : Prop := ∀ (v : V) (d : D) (σ : L2.St) (H : Hp) (δ : DEnv) (μ : Sto) (Φ : DEnv → Sto → Prop) (Q : L2.St → Hp → Prop), B.S σ H δ μ → Rep K μ H v d → γ d δ μ Φ →
  (∀ σ' H' δ' μ', B.S σ' H' δ' μ' → Evo μ H μ' H' → Φ δ' μ' → Q σ' H') → g v σ H Q
def SGs {K : Fg} (B : Bx K) (g : TGs) (γ : List D → DEnv → Sto → (DEnv → Sto → Prop) → Prop) : Prop := ∀ (v : List V) (d : List D) (σ : L2.St) (H : Hp) (δ : DEnv) (μ : Sto) (Φ : DEnv → Sto → Prop) (Q : L2.St → Hp → Prop), B.S σ H δ μ → Reps K μ H v d → γ d δ μ Φ →
  (∀ σ' H' δ' μ', B.S σ' H' δ' μ' → Evo μ H μ' H' → Φ δ' μ' → Q σ' H') → g v σ H Q
def eName (i : Nat) : DG := fun d δ μ Φ => Φ (δ.set i (some d)) μ
theorem sName {i : Nat} : SG B (gName i) (eName i) := fun v d σ H δ μ Φ Q S r q k => k _ H _ μ (S.set r i) .refl q
def eNil : List D → DEnv → Sto → (DEnv → Sto → Prop) → Prop := fun ds δ μ Φ => ds = [] ∧ Φ δ μ
def eCons (γ : DG) (η : List D → DEnv → Sto → (DEnv → Sto → Prop) → Prop) : List D → DEnv → Sto → (DEnv → Sto → Prop) → Prop := fun ds δ μ Φ => ∃ d r, ds = d :: r ∧ γ d δ μ fun δ' μ' => η r δ' μ' Φ
theorem sgNil : SGs B gNil eNil := fun v d σ H δ μ Φ Q S r q k => by
  obtain ⟨rfl, q⟩ := q
  cases r
  exact ⟨rfl, k σ H δ μ S .refl q⟩
theorem sgCons {g : TG} {gs : TGs} {γ : DG} {η : List D → DEnv → Sto → (DEnv → Sto → Prop) → Prop} (a : SG B g γ) (b : SGs B gs η) : SGs B (gCons g gs) (eCons γ η) := fun v d σ H δ μ Φ Q S r q k => by
  obtain ⟨x, xs, rfl, q⟩ := q
  cases v with
  | nil => have := r.length; simp at this
  | cons v vs =>
    exact ⟨v, vs, rfl, a v x σ H δ μ _ _ S r.split.1 q fun σ1 H1 δ1 μ1 S1 e1 q1 => b vs xs σ1 H1 δ1 μ1 _ _ S1 (r.split.2.mono e1) q1 fun σ2 H2 δ2 μ2 S2 e2 q2 => k σ2 H2 δ2 μ2 S2 (e1.trans e2) q2⟩
def tpl : D → Option (List D)
  | .tup ds => some ds
  | .pr ds => some ds
  | _ => none
def eTup (n : Nat) (η : List D → DEnv → Sto → (DEnv → Sto → Prop) → Prop) : DG := fun d δ μ Φ => ∃ ds, tpl d = some ds ∧ ds.length = n ∧ η ds δ μ Φ
theorem Rep.tup_inv {K : Fg} {μ : Sto} {H : Hp} {v : V} {ds : List D} (h : Rep K μ H v (.tup ds)) : ∃ a vs, v = .ref a ∧ TupAt K μ H a vs ∧ Reps K μ H vs ds := by
  cases h with
  | tup h1 h2 _ => exact ⟨_, _, rfl, h1, h2⟩
theorem Rep.lst_inv {K : Fg} {μ : Sto} {H : Hp} {v : V} {ds : List D} (h : Rep K μ H v (.lst ds)) : ∃ a vs, v = .ref a ∧ LstAt μ H a vs ∧ Reps K μ H vs ds := by
  cases h with
  | lst h1 h2 _ => exact ⟨_, _, rfl, h1, h2⟩
theorem Rep.tpl_inv {K : Fg} {μ : Sto} {H : Hp} {v : V} {d : D} {ds : List D} (h : Rep K μ H v d) (e : tpl d = some ds) : ∃ a vs, v = .ref a ∧ SqT K H a vs ∧ Reps K μ H vs ds := by
  cases h with
  | tup h1 h2 _ => cases e; exact ⟨_, _, rfl, h1.sq, h2⟩
  | pr h1 h2 _ => cases e; exact ⟨_, _, rfl, h1.sq, h2⟩
  | _ => cases e
theorem sgTup {n : Nat} {gs : TGs} {η : List D → DEnv → Sto → (DEnv → Sto → Prop) → Prop} (b : SGs B gs η) : SG B (gTup K n gs) (eTup n η) := fun v d σ H δ μ Φ Q S r q k => by
  obtain ⟨ds, ed, hn, q⟩ := q
  obtain ⟨a, vs, rfl, ht, hr⟩ := Rep.tpl_inv r ed
  exact ⟨a, vs, rfl, ht, by rw [hr.length]; exact hn, b vs ds σ H δ μ Φ Q S hr q k⟩
def dAsg (φ : DE) (γ : DG) : DSt := fun Ψ Δ δ μ => φ Ψ δ μ fun x μ1 => γ x δ μ1 Δ.nx
theorem sAsg {g : TG} {γ : DG} (a : SE B ta φa) (b : SG B g γ) : SS B (tAsg ta g) (dAsg φa γ) := fun D Δ σ H δ μ E S q =>
  a σ H δ μ _ _ S q fun v H1 x μ1 S1 e1 r1 q1 => b v x σ H1 δ μ1 _ _ S1 r1 q1 fun σ2 H2 δ2 μ2 S2 e2 q2 => E.nx σ2 H2 δ2 μ2 S2 q2
/-- x += e -/
def dAug (i : Nat) (φ : DE) (ρ : DO) : DSt := fun Ψ Δ δ μ => ∃ x, δ[i]? = some (some x) ∧ φ Ψ δ μ fun y μ1 => ρ x y μ1 fun z μ2 => Δ.nx (δ.set i (some z)) μ2
theorem sAug {i : Nat} {ip : TIp} {ρ : DO} (h : RO K ip ρ) (a : SE B ta φa) : SS B (tAug i ta ip) (dAug i φa ρ) := fun D Δ σ H δ μ E S q => by
  obtain ⟨x, ex, q⟩ := q
  obtain ⟨v, ev, rv⟩ := S.env.at_ i x ex
  exact ⟨v, ev, a σ H δ μ _ _ S q fun w H1 y μ1 S1 e1 r1 q1 => h H1 μ1 v w x y _ _ S1.sto (Reps.mono e1 rv) r1 q1 fun z H2 c μ2 e2 s2 r2 q2 => E.nx _ _ _ _ ((S1.step e2 s2).set r2 i) q2⟩
/-- while, by a word and a number that falls -/
def dWhile (θ : DT) (ω : DSt) : DSt := fun Ψ Δ δ μ => ∃ W : Nat → DEnv → Sto → Prop, (∃ m, W m δ μ) ∧ ∀ m δ μ, W m δ μ → θ Ψ δ μ fun b μ1 =>
  (b = true → ω Ψ { Δ with nx := fun δ' μ' => ∃ m', m' < m ∧ W m' δ' μ', ct := fun δ' μ' => ∃ m', m' < m ∧ W m' δ' μ', bk := Δ.nx } δ μ1) ∧ (b = false → Δ.nx δ μ1)
theorem sWhile (c : ST B tt θ) (a : SS B ts ω) : SS B (tWhile tt ts) (dWhile θ ω) := fun D Δ σ H δ μ E S q => by
  obtain ⟨W, ⟨m0, w0⟩, q⟩ := q
  refine ⟨fun m σ H => ∃ δ μ, B.S σ H δ μ ∧ W m δ μ, ⟨m0, δ, μ, S, w0⟩, fun m σ1 H1 ⟨δ1, μ1, S1, w1⟩ => ?_⟩
  refine c σ1 H1 δ1 μ1 _ _ S1 (q m δ1 μ1 w1) fun b H2 μ2 S2 e2 q2 => ?_
  cases b with
  | true =>
    refine ⟨fun σ' H' => ∃ δ' μ', B.S σ' H' δ' μ' ∧ ∃ m', m' < m ∧ W m' δ' μ', fun σ' H' ⟨δ', μ', S', m', hm, w'⟩ => ⟨m', hm, δ', μ', S', w'⟩, ?_⟩
    exact a _ { Δ with nx := fun δ' μ' => ∃ m', m' < m ∧ W m' δ' μ', ct := fun δ' μ' => ∃ m', m' < m ∧ W m' δ' μ', bk := Δ.nx } σ1 H2 δ1 μ2 ⟨fun σ' H' δ' μ' S' q' => ⟨δ', μ', S', q'⟩, E.rt, E.nx, fun σ' H' δ' μ' S' q' => ⟨δ', μ', S', q'⟩⟩ S2 (q2.1 rfl)
  | false => exact E.nx _ _ _ _ S2 (q2.2 rfl)
end
end DW
set_option Elab.async false
set_option linter.all false
set_option maxRecDepth 100000
namespace DW
open PySem PySem.Spec L2
section
variable {K : Fg}
def oI (C : Int → Int → Prop) (g : Int → Int → D) : DO := fun x y μ Φ => ∃ i j, x = .int i ∧ y = .int j ∧ C i j ∧ Φ (g i j) μ
def oI0 (g : Int → Int → D) : DO := fun x y μ Φ => ∃ i j, x = .int i ∧ y = .int j ∧ Φ (g i j) μ
theorem roI {C : Int → Int → Prop} {g : Int → Int → V} {g' : Int → Int → D} (hg : ∀ i j μ H, Rep K μ H (g i j) (g' i j)) : RO K (rI C g) (oI C g') := fun H μ v w d e Φ Q s r1 r2 q k => by
  obtain ⟨i, j, rfl, rfl, hc, q⟩ := q
  exact ⟨i, j, Rep.int_inv r1, Rep.int_inv r2, hc, k _ H _ μ .refl s (hg i j μ H) q⟩
theorem roI0 {g : Int → Int → V} {g' : Int → Int → D} (hg : ∀ i j μ H, Rep K μ H (g i j) (g' i j)) : RO K (rI0 g) (oI0 g') := fun H μ v w d e Φ Q s r1 r2 q k => by
  obtain ⟨i, j, rfl, rfl, q⟩ := q
  exact ⟨i, j, Rep.int_inv r1, Rep.int_inv r2, k _ H _ μ .refl s (hg i j μ H) q⟩
theorem roInt {C : Int → Int → Prop} {g : Int → Int → Int} : RO K (rI C fun i j => .int (g i j)) (oI C fun i j => .int (g i j)) := roI fun _ _ _ _ => .int _ .nil
theorem roInt0 {g : Int → Int → Int} : RO K (rI0 fun i j => .int (g i j)) (oI0 fun i j => .int (g i j)) := roI0 fun _ _ _ _ => .int _ .nil
theorem roBl0 {g : Int → Int → Bool} : RO K (rI0 fun i j => .bl (g i j)) (oI0 fun i j => .bl (g i j)) := roI0 fun _ _ _ _ => .bl _ .nil
theorem roIp {g : Int → Int → Int} : RO K (ipI g) (oI0 fun i j => .int (g i j)) := fun H μ v w d e Φ Q s r1 r2 q k => by
  obtain ⟨i, j, rfl, rfl, q⟩ := q
  exact ⟨i, j, Rep.int_inv r1, Rep.int_inv r2, k _ H _ μ .refl s (.int _ .nil) q⟩
def uI (g : Int → Int) : DU := fun x μ Φ => ∃ i, x = .int i ∧ Φ (.int (g i)) μ
theorem ruInt {g : Int → Int} : RU K (rU fun i => .int (g i)) (uI g) := fun H μ v d Φ Q s r q k => by
  obtain ⟨i, rfl, q⟩ := q
  exact ⟨i, Rep.int_inv r, k _ H _ μ .refl s (.int _ .nil) q⟩
def sEq : D → D → Option Bool
  | .int i, .int j => some (decide (i = j))
  | .str i, .str j => some (decide (i = j))
  | .bl i, .bl j => some (decide (i = j))
  | .non, .non => some true
  | .non, .int _ => some false
  | .int _, .non => some false
  | .non, .bl _ => some false
  | .bl _, .non => some false
  | .non, .str _ => some false
  | .str _, .non => some false
  | .int _, .str _ => some false
  | .str _, .int _ => some false
  | .bl _, .str _ => some false
  | .str _, .bl _ => some false
  | _, _ => none
theorem sEq_ok {μ : Sto} {H : Hp} {v w : V} {d e : D} {b : Bool} (r1 : Rep K μ H v d) (r2 : Rep K μ H w e) (h : sEq d e = some b) : scal v w = true ∧ decide (v = w) = b := by
  cases d <;> cases e <;> (first | (unfold sEq at h; cases h; done) | skip) <;> cases r1 <;> cases r2 <;> (injection h with h; subst h; first | exact ⟨rfl, by simp⟩ | exact ⟨rfl, rfl⟩)
def oEq : DO := fun x y μ Φ => ∃ b, sEq x y = some b ∧ Φ (.bl b) μ
def oNe : DO := fun x y μ Φ => ∃ b, sEq x y = some b ∧ Φ (.bl (!b)) μ
theorem roEq : RO K rEq oEq := fun H μ v w d e Φ Q s r1 r2 q k => by
  obtain ⟨b, hb, q⟩ := q
  obtain ⟨h1, h2⟩ := sEq_ok r1 r2 hb
  exact ⟨h1, by rw [h2]; exact k _ H _ μ .refl s (.bl _ .nil) q⟩
theorem roNe : RO K rNe oNe := fun H μ v w d e Φ Q s r1 r2 q k => by
  obtain ⟨b, hb, q⟩ := q
  obtain ⟨h1, h2⟩ := sEq_ok r1 r2 hb
  exact ⟨h1, by rw [h2]; exact k _ H _ μ .refl s (.bl _ .nil) q⟩
def isNone : D → Option Bool
  | .non => some true
  | .bl _ => some false
  | .int _ => some false
  | .str _ => some false
  | .tup _ => some false
  | .lst _ => some false
  | .obj _ _ _ => some false
  | _ => none
theorem isNone_ok {μ : Sto} {H : Hp} {v : V} {d : D} {b : Bool} (r1 : Rep K μ H v d) (h : isNone d = some b) : decide (v = .non) = b := by
  cases d <;> unfold isNone at h <;> first | (cases h; done) | (cases h; cases r1; rfl) | (cases h; cases r1; simp)
def oIsN : DO := fun x y μ Φ => y = .non ∧ ∃ b, isNone x = some b ∧ Φ (.bl b) μ
def oNotN : DO := fun x y μ Φ => y = .non ∧ ∃ b, isNone x = some b ∧ Φ (.bl (!b)) μ
theorem roIsN : RO K (fun x y H Q => y = .non ∧ Q (.bl (decide (x = .non))) H) oIsN := fun H μ v w d e Φ Q s r1 r2 q k => by
  obtain ⟨rfl, b, hb, q⟩ := q
  exact ⟨Rep.non_inv r2, by rw [isNone_ok r1 hb]; exact k _ H _ μ .refl s (.bl _ .nil) q⟩
theorem roNotN : RO K (fun x y H Q => y = .non ∧ Q (.bl (!decide (x = .non))) H) oNotN := fun H μ v w d e Φ Q s r1 r2 q k => by
  obtain ⟨rfl, b, hb, q⟩ := q
  exact ⟨Rep.non_inv r2, by rw [isNone_ok r1 hb]; exact k _ H _ μ .refl s (.bl _ .nil) q⟩
def flatD : D → Bool
  | .non => true
  | .bl _ => true
  | .int _ => true
  | .str _ => true
  | _ => false
def eqF : D → D → Bool
  | .non, .non => true
  | .bl a, .bl b => a == b
  | .bl a, .int b => (if a then 1 else 0) == b
  | .int a, .bl b => a == (if b then 1 else 0)
  | .int a, .int b => a == b
  | .str a, .str b => a == b
  | _, _ => false
theorem flatD_ok {μ : Sto} {H : Hp} {v : V} {d : D} (r : Rep K μ H v d) (h : flatD d = true) : flatV v = true := by
  cases d <;> (first | (exact absurd h Bool.false_ne_true) | skip) <;> cases r <;> rfl
theorem eqF_ok {μ : Sto} {H : Hp} {v w : V} {d e : D} (r1 : Rep K μ H v d) (r2 : Rep K μ H w e) (f1 : flatD d = true) (f2 : flatD e = true) : eqV v w = eqF d e := by
  cases d <;> (first | (exact absurd f1 Bool.false_ne_true) | skip) <;> cases r1 <;> cases e <;> (first | (exact absurd f2 Bool.false_ne_true) | skip) <;> cases r2 <;> rfl
theorem flatAll_ok {μ : Sto} {H : Hp} : ∀ {vs : List V} {ds : List D}, Reps K μ H vs ds → ds.all flatD = true → vs.all flatV = true
  | [], [], _, _ => rfl
  | [], _ :: _, r, _ => by have := r.length; simp at this
  | _ :: _, [], r, _ => by have := r.length; simp at this
  | v :: vs, d :: ds, r, h => by
    rw [List.all_cons, Bool.and_eq_true] at h ⊢
    exact ⟨flatD_ok r.split.1 h.1, flatAll_ok r.split.2 h.2⟩
def inD (x : D) (ds : List D) : Bool := ds.any fun y => eqF y x
theorem inD_ok {μ : Sto} {H : Hp} {v : V} {d : D} (r1 : Rep K μ H v d) (f1 : flatD d = true) : ∀ {vs : List V} {ds : List D}, Reps K μ H vs ds → ds.all flatD = true → inV v vs = inD d ds
  | [], [], _, _ => rfl
  | [], _ :: _, r, _ => by have := r.length; simp at this
  | _ :: _, [], r, _ => by have := r.length; simp at this
  | w :: vs, e :: ds, r, h => by
    rw [List.all_cons, Bool.and_eq_true] at h
    have ih := inD_ok r1 f1 r.split.2 h.2
    unfold inV inD at ih ⊢
    rw [List.any_cons, List.any_cons, eqF_ok r.split.1 r1 h.1 f1, ih]
/-- the items of a tuple, of a list, of a handle's list -/
inductive Items (μ : Sto) : D → List D → Prop
  | tup (ds) : Items μ (.tup ds) ds
  | lst (ds) : Items μ (.lst ds) ds
  | own {a ds} : μ a = some (.lst ds) → Items μ (.hd (.ref a)) ds
  | frz {a ds} : μ a = some (.frz ds) → Items μ (.hd (.ref a)) ds
  | scr (ns) : Items μ (.scr ns) (ns.map .int)
theorem reps_ints {μ : Sto} {H : Hp} : ∀ (ns : List Int), Reps K μ H (ns.map V.int) (ns.map D.int)
  | [] => .nil
  | n :: ns => .int n (reps_ints ns)
theorem Items.ok {μ : Sto} {H : Hp} {v : V} {d : D} {ds : List D} (s : StoOk K μ H) (r : Rep K μ H v d) (h : Items μ d ds) : ∃ a vs, v = .ref a ∧ (SqL K H a vs ∨ SqT K H a vs) ∧ Reps K μ H vs ds := by
  cases h with
  | tup => obtain ⟨a, vs, rfl, h1, h2⟩ := Rep.tup_inv r; exact ⟨a, vs, rfl, .inr h1.sq, h2⟩
  | lst => obtain ⟨a, vs, rfl, h1, h2⟩ := Rep.lst_inv r; exact ⟨a, vs, rfl, .inl h1.sq, h2⟩
  | own h => obtain rfl := Rep.hd_inv r; obtain ⟨vs, h1, h2⟩ := s _ _ h; exact ⟨_, vs, rfl, .inl (.of h1), h2⟩
  | frz h => obtain rfl := Rep.hd_inv r; obtain ⟨vs, h1, h2⟩ := s _ _ h; exact ⟨_, vs, rfl, .inl (.of h1), h2⟩
  | scr ns =>
    cases r with
    | scr h1 _ => exact ⟨_, _, rfl, .inl h1.sq, reps_ints ns⟩
def oIn (neg : Bool) : DO := fun x y μ Φ => ∃ ds, Items μ y ds ∧ flatD x = true ∧ ds.all flatD = true ∧ Φ (.bl (if neg then !inD x ds else inD x ds)) μ
theorem roIn {neg : Bool} : RO K (rIn K neg) (oIn neg) := fun H μ v w d e Φ Q s r1 r2 q k => by
  obtain ⟨ds, hi, f1, f2, q⟩ := q
  obtain ⟨a, vs, rfl, h1, h2⟩ := hi.ok s r2
  refine ⟨a, vs, rfl, h1, flatD_ok r1 f1, flatAll_ok h2 f2, ?_⟩
  rw [inD_ok r1 f1 h2 f2]
  exact k _ H _ μ .refl s (.bl _ .nil) q
theorem atI_reps {μ : Sto} {H : Hp} {vs : List V} {ds : List D} (r : Reps K μ H vs ds) {i : Int} {d : D} (h : atI ds i = some d) : ∃ v, atI vs i = some v ∧ Rep K μ H v d := by
  unfold atI at h ⊢
  rw [r.length]
  cases e : ixN ds.length i with
  | none => rw [e] at h; cases h
  | some j => rw [e] at h; exact r.get h
def isTup : D → Bool
  | .tup _ => true
  | _ => false
def oIxT : DO := fun x y μ Φ => ∃ ds i d, x = .tup ds ∧ y = .int i ∧ atI ds i = some d ∧ Φ d μ
theorem roIxT : RO K (rIxT K) oIxT := fun H μ v w d e Φ Q s r1 r2 q k => by
  obtain ⟨ds, i, c, rfl, rfl, hi, q⟩ := q
  obtain ⟨a, vs, rfl, h1, h2⟩ := Rep.tup_inv r1
  obtain ⟨z, hz, rz⟩ := atI_reps h2 hi
  exact ⟨a, vs, i, z, rfl, Rep.int_inv r2, h1.sq, hz, k _ H _ μ .refl s rz q⟩
def oIxL : DO := fun x y μ Φ => ∃ ds i d, Items μ x ds ∧ isTup x = false ∧ y = .int i ∧ atI ds i = some d ∧ Φ d μ
theorem Items.okL {μ : Sto} {H : Hp} {v : V} {d : D} {ds : List D} (s : StoOk K μ H) (r : Rep K μ H v d) (h : Items μ d ds) (n : isTup d = false) : ∃ a vs, v = .ref a ∧ SqL K H a vs ∧ Reps K μ H vs ds := by
  cases h with
  | tup => cases n
  | lst => obtain ⟨a, vs, rfl, h1, h2⟩ := Rep.lst_inv r; exact ⟨a, vs, rfl, h1.sq, h2⟩
  | own h => obtain rfl := Rep.hd_inv r; obtain ⟨vs, h1, h2⟩ := s _ _ h; exact ⟨_, vs, rfl, .of h1, h2⟩
  | frz h => obtain rfl := Rep.hd_inv r; obtain ⟨vs, h1, h2⟩ := s _ _ h; exact ⟨_, vs, rfl, .of h1, h2⟩
  | scr ns =>
    cases r with
    | scr h1 _ => exact ⟨_, _, rfl, h1.sq, reps_ints ns⟩
theorem roIxL : RO K (rIxL K) oIxL := fun H μ v w d e Φ Q s r1 r2 q k => by
  obtain ⟨ds, i, c, hi, hn, rfl, ha, q⟩ := q
  obtain ⟨a, vs, rfl, h1, h2⟩ := hi.okL s r1 hn
  obtain ⟨z, hz, rz⟩ := atI_reps h2 ha
  exact ⟨a, vs, i, z, rfl, Rep.int_inv r2, h1, hz, k _ H _ μ .refl s rz q⟩
/-- t + u, tuples -/
def oCatT : DO := fun x y μ Φ => ∃ xs ys, x = .tup xs ∧ y = .tup ys ∧ xs.length + ys.length ≤ 100000 ∧ Φ (.tup (xs ++ ys)) μ
theorem roCatT : RO K (rCatN K) oCatT := fun H μ v w d e Φ Q s r1 r2 q k => by
  obtain ⟨xs, ys, rfl, rfl, hz, q⟩ := q
  obtain ⟨a, vs, rfl, h1, h2⟩ := Rep.tup_inv r1
  obtain ⟨b, us, rfl, h3, h4⟩ := Rep.tup_inv r2
  refine ⟨a, b, vs, us, rfl, rfl, h1.sq, h3.sq, sz (by rw [h2.length, h4.length]; exact hz), fun e => ?_, fun _ e => ?_, fun _ _ p o ho hc hp => ?_⟩
  · subst e
    have ex : xs = [] := List.eq_nil_of_length_eq_zero (by rw [← h2.length]; rfl)
    subst ex
    exact k _ H _ μ .refl s r2 q
  · subst e
    have ex : ys = [] := List.eq_nil_of_length_eq_zero (by rw [← h4.length]; rfl)
    subst ex
    rw [List.append_nil] at q
    exact k _ H _ μ .refl s r1 q
  · exact k _ _ _ μ (.new hp) (s.new hp) (rep_tupN s hp ho hc (h2.append h4)) q
/-- xs + ys, lists -/
def oCatL : DO := fun x y μ Φ => ∃ xs ys, x = .lst xs ∧ y = .lst ys ∧ xs.length + ys.length ≤ 100000 ∧ Φ (.lst (xs ++ ys)) μ
theorem roCatL : RO K rCat oCatL := fun H μ v w d e Φ Q s r1 r2 q k => by
  obtain ⟨xs, ys, rfl, rfl, hz, q⟩ := q
  obtain ⟨a, vs, rfl, h1, h2⟩ := Rep.lst_inv r1
  obtain ⟨b, us, rfl, h3, h4⟩ := Rep.lst_inv r2
  exact ⟨a, b, vs, us, rfl, rfl, h1.1, h3.1, sz (by rw [h2.length, h4.length]; exact hz), fun p hp => k _ _ _ μ (.new hp) (s.new hp) (rep_lst s hp (h2.append h4)) q⟩
/-- t * k for k of two or more -/
theorem reps_rep {μ : Sto} {H : Hp} {vs : List V} {ds : List D} (r : Reps K μ H vs ds) : ∀ n, Reps K μ H (List.replicate n vs).flatten (List.replicate n ds).flatten
  | 0 => .nil
  | n + 1 => by
    rw [List.replicate_succ, List.replicate_succ, List.flatten_cons, List.flatten_cons]
    exact r.append (reps_rep r n)
def dNoPart : XP → DEnv → Sto → (Option Int → Sto → Prop) → Prop := fun _ _ μ Φ => Φ none μ
def dPart (φ : DE) : XP → DEnv → Sto → (Option Int → Sto → Prop) → Prop := fun Ψ δ μ Φ => φ Ψ δ μ fun x μ1 => ∃ i, x = .int i ∧ Φ (some i) μ1
def SO (B : Bx K) (to : TO) (φ : XP → DEnv → Sto → (Option Int → Sto → Prop) → Prop) : Prop := ∀ (σ : L2.St) (H : Hp) (δ : DEnv) (μ : Sto) (Φ : Option Int → Sto → Prop) (Q : Option Int → Hp → Prop), B.S σ H δ μ → φ B.Ψ δ μ Φ →
  (∀ o H' μ', B.S σ H' δ μ' → Evo μ H μ' H' → Φ o μ' → Q o H') → to σ H Q
theorem sNoPart {B : Bx K} : SO B tNoPart dNoPart := fun σ H δ μ Φ Q S q k => k none H μ S .refl q
theorem sPart {B : Bx K} {te : TE} {φ : DE} (a : SE B te φ) : SO B (tPart te) (dPart φ) := fun σ H δ μ Φ Q S q k =>
  a σ H δ μ _ _ S q fun v H1 x μ1 S1 e1 r1 q1 => by
    obtain ⟨i, rfl, q2⟩ := q1
    obtain rfl := Rep.int_inv r1
    exact ⟨i, rfl, k (some i) H1 μ1 S1 e1 q2⟩
def cutD (xs : List D) (lo hi : Option Int) : List D := (xs.drop (HT.sIx xs.length 0 lo)).take (HT.sIx xs.length xs.length hi - HT.sIx xs.length 0 lo)
theorem cut_reps {μ : Sto} {H : Hp} {vs : List V} {ds : List D} (r : Reps K μ H vs ds) (lo hi : Option Int) : Reps K μ H (cutV vs lo hi) (cutD ds lo hi) := by
  unfold cutV cutD
  rw [r.length]
  exact (r.drop _).take _
def dSlT (φ : DE) (ol oh : XP → DEnv → Sto → (Option Int → Sto → Prop) → Prop) : DE := fun Ψ δ μ Φ => φ Ψ δ μ fun x μ1 => ol Ψ δ μ1 fun lo μ2 => oh Ψ δ μ2 fun hi μ3 => ∃ ds, x = .tup ds ∧ Φ (.tup (cutD ds lo hi)) μ3
theorem cutD_whole {ds : List D} {lo hi : Option Int} (h : HT.sIx ds.length 0 lo = 0 ∧ HT.sIx ds.length ds.length hi = ds.length) : cutD ds lo hi = ds := by
  unfold cutD
  rw [h.1, h.2, List.drop_zero, Nat.sub_zero, List.take_length]
theorem sSlT {B : Bx K} {te : TE} {tl th : TO} {φ : DE} {ol oh : XP → DEnv → Sto → (Option Int → Sto → Prop) → Prop} (a : SE B te φ) (b : SO B tl ol) (c : SO B th oh) : SE B (tSl (rSlN K) te tl th) (dSlT φ ol oh) := fun σ H δ μ Φ Q S q k =>
  a σ H δ μ _ _ S q fun v H1 x μ1 S1 e1 r1 q1 => b σ H1 δ μ1 _ _ S1 q1 fun lo H2 μ2 S2 e2 q2 => c σ H2 δ μ2 _ _ S2 q2 fun hi H3 μ3 S3 e3 q3 => by
    obtain ⟨ds, rfl, q3⟩ := q3
    obtain ⟨p, vs, rfl, h1, h2⟩ := Rep.tup_inv ((r1.mono e2).mono e3)
    refine ⟨p, vs, rfl, h1.sq, fun w => ?_, fun w o ob hd hc ho => ?_⟩
    · rw [h2.length] at w
      rw [cutD_whole w] at q3
      exact k _ H3 _ μ3 S3 ((e1.trans e2).trans e3) (.tup h1 h2 .nil) q3
    · exact k _ _ _ μ3 (S3.step (.new ho) (S3.sto.new ho)) (((e1.trans e2).trans e3).trans (.new ho)) (rep_tupN S3.sto ho hd hc (cut_reps h2 lo hi)) q3
def dSlL (φ : DE) (ol oh : XP → DEnv → Sto → (Option Int → Sto → Prop) → Prop) : DE := fun Ψ δ μ Φ => φ Ψ δ μ fun x μ1 => ol Ψ δ μ1 fun lo μ2 => oh Ψ δ μ2 fun hi μ3 => ∃ ds, Items μ3 x ds ∧ isTup x = false ∧ Φ (.lst (cutD ds lo hi)) μ3
/-- xs[::-1], lists -/
def dRevL (φ : DE) : DE := fun Ψ δ μ Φ => φ Ψ δ μ fun x μ1 => ∃ ds, Items μ1 x ds ∧ isTup x = false ∧ Φ (.lst ds.reverse) μ1
abbrev DC := List D → Sto → DK → Prop
def RC (K : Fg) (r : List V → Hp → VK → Prop) (ρ : DC) : Prop := ∀ (H : Hp) (μ : Sto) (vs : List V) (ds : List D) (Φ : DK) (Q : VK), StoOk K μ H → Reps K μ H vs ds → ρ ds μ Φ →
  (∀ z H' c μ', Evo μ H μ' H' → StoOk K μ' H' → Rep K μ' H' z c → Φ c μ' → Q z H') → r vs H Q
def dCB (ρ : DC) (ψ : DA) : DE := fun Ψ δ μ Φ => ψ Ψ δ μ fun xs μ1 => ρ xs μ1 Φ
theorem sCB {B : Bx K} {r : List V → Hp → VK → Prop} {ρ : DC} {tas : TA} {ψ : DA} (h : RC K r ρ) (a : SA B tas ψ) : SE B (tCB r tas) (dCB ρ ψ) := fun σ H δ μ Φ Q S q k =>
  a σ H δ μ _ _ S q fun vs H1 xs μ1 S1 e1 r1 q1 => h H1 μ1 vs xs Φ Q S1.sto r1 q1 fun z H3 c μ3 e3 s3 r3 p => k z H3 c μ3 (S1.step e3 s3) (e1.trans e3) r3 p
theorem reps1 {μ : Sto} {H : Hp} {vs : List V} {d : D} (r : Reps K μ H vs [d]) : ∃ v, vs = [v] ∧ Rep K μ H v d := by
  cases vs with
  | nil => have := r.length; simp at this
  | cons v vs =>
    cases vs with
    | nil => exact ⟨v, rfl, r⟩
    | cons w vs => have := r.length; simp at this
theorem reps2 {μ : Sto} {H : Hp} {vs : List V} {d e : D} (r : Reps K μ H vs [d, e]) : ∃ v w, vs = [v, w] ∧ Rep K μ H v d ∧ Rep K μ H w e := by
  cases vs with
  | nil => have := r.length; simp at this
  | cons v vs =>
    obtain ⟨w, rfl, r2⟩ := reps1 r.split.2
    exact ⟨v, w, rfl, r.split.1, r2⟩
def cLen : DC := fun xs μ Φ => ∃ x ds, xs = [x] ∧ Items μ x ds ∧ Φ (.int ds.length) μ
theorem rcLen : RC K (fun xs H Q => ∃ p ys, xs = [.ref p] ∧ (SqL K H p ys ∨ SqT K H p ys) ∧ Q (.int ys.length) H) cLen := fun H μ vs ds Φ Q s r q k => by
  obtain ⟨x, es, rfl, hi, q⟩ := q
  obtain ⟨v, rfl, r⟩ := reps1 r
  obtain ⟨a, us, rfl, h1, h2⟩ := hi.ok s r
  refine ⟨a, us, rfl, h1, ?_⟩
  rw [h2.length]
  exact k _ H _ μ .refl s (.int _ .nil) q
/-- list(..) of a list or tuple -/
def cList : DC := fun xs μ Φ => ∃ x ds, xs = [x] ∧ Items μ x ds ∧ Φ (.lst ds) μ
theorem rcList : RC K (fun xs H Q => ∃ p ys, xs = [.ref p] ∧ (SqL K H p ys ∨ SqT K H p ys) ∧ ∀ l, H l = none → Q (.ref l) (upd H l (.lst ys))) cList := fun H μ vs ds Φ Q s r q k => by
  obtain ⟨x, es, rfl, hi, q⟩ := q
  obtain ⟨v, rfl, r⟩ := reps1 r
  obtain ⟨a, us, rfl, h1, h2⟩ := hi.ok s r
  exact ⟨a, us, rfl, h1, fun p hp => k _ _ _ μ (.new hp) (s.new hp) (rep_lst s hp h2) q⟩
/-- the same, a handle -/
def cListOwn : DC := fun xs μ Φ => ∃ x ds, xs = [x] ∧ Items μ x ds ∧ ∀ p, μ p = none → Φ (.hd (.ref p)) (sset μ p (.lst ds))
def cTuple : DC := fun xs μ Φ => ∃ x ds, xs = [x] ∧ Items μ x ds ∧ Φ (.tup ds) μ
theorem rcTuple : RC K (fun xs H Q => ∃ p ys, xs = [.ref p] ∧ ((SqL K H p ys ∧ NewT H ys Q) ∨ (SqT K H p ys ∧ Q (.ref p) H))) cTuple := fun H μ vs ds Φ Q s r q k => by
  obtain ⟨x, es, rfl, hi, q⟩ := q
  obtain ⟨v, rfl, r⟩ := reps1 r
  cases hi with
  | tup => obtain ⟨a, us, rfl, h1, h2⟩ := Rep.tup_inv r; exact ⟨a, us, rfl, .inr ⟨h1.sq, k _ H _ μ .refl s r q⟩⟩
  | lst => obtain ⟨a, us, rfl, h1, h2⟩ := (Items.lst es).okL s r rfl; exact ⟨a, us, rfl, .inl ⟨h1, fun p o ho hc hp => k _ _ _ μ (.new hp) (s.new hp) (rep_tupN s hp ho hc h2) q⟩⟩
  | own h => obtain ⟨a, us, rfl, h1, h2⟩ := (Items.own h).okL s r rfl; exact ⟨a, us, rfl, .inl ⟨h1, fun p o ho hc hp => k _ _ _ μ (.new hp) (s.new hp) (rep_tupN s hp ho hc h2) q⟩⟩
  | frz h => obtain ⟨a, us, rfl, h1, h2⟩ := (Items.frz h).okL s r rfl; exact ⟨a, us, rfl, .inl ⟨h1, fun p o ho hc hp => k _ _ _ μ (.new hp) (s.new hp) (rep_tupN s hp ho hc h2) q⟩⟩
  | scr ns => obtain ⟨a, us, rfl, h1, h2⟩ := (Items.scr ns).okL s r rfl; exact ⟨a, us, rfl, .inl ⟨h1, fun p o ho hc hp => k _ _ _ μ (.new hp) (s.new hp) (rep_tupN s hp ho hc h2) q⟩⟩
def cInt : DC := fun xs μ Φ => ∃ i, xs = [.int i] ∧ Φ (.int i) μ ∨ ∃ b, xs = [.bl b] ∧ Φ (.int (if b then 1 else 0)) μ
theorem rcInt : RC K (fun xs H Q => (∃ i, xs = [.int i] ∧ Q (.int i) H) ∨ ∃ k, xs = [.bl k] ∧ Q (.int (if k then 1 else 0)) H) cInt := fun H μ vs ds Φ Q s r q k => by
  obtain ⟨i, q⟩ := q
  rcases q with ⟨rfl, q⟩ | ⟨b, rfl, q⟩
  · obtain ⟨v, rfl, r⟩ := reps1 r
    obtain rfl := Rep.int_inv r
    exact .inl ⟨i, rfl, k _ H _ μ .refl s r q⟩
  · obtain ⟨v, rfl, r⟩ := reps1 r
    obtain rfl := Rep.bl_inv r
    exact .inr ⟨b, rfl, k _ H _ μ .refl s (.int _ .nil) q⟩
theorem reps_bls {μ : Sto} {H : Hp} : ∀ {vs : List V} {bs : List Bool}, Reps K μ H vs (bs.map .bl) → vs = bs.map .bl
  | [], [], _ => rfl
  | [], _ :: _, r => by have := r.length; simp at this
  | _ :: _, [], r => by have := r.length; simp at this
  | v :: vs, b :: bs, r => by
    have e := Rep.bl_inv r.split.1
    have ih := reps_bls r.split.2
    rw [e, ih, List.map_cons]
theorem reps_intsV {μ : Sto} {H : Hp} : ∀ {vs : List V} {ns : List Int}, Reps K μ H vs (ns.map .int) → vs = ns.map .int
  | [], [], _ => rfl
  | [], _ :: _, r => by have := r.length; simp at this
  | _ :: _, [], r => by have := r.length; simp at this
  | v :: vs, b :: bs, r => by
    have e := Rep.int_inv r.split.1
    have ih := reps_intsV r.split.2
    rw [e, ih, List.map_cons]
def cAll : DC := fun xs μ Φ => ∃ bs : List Bool, xs = [.lst (bs.map .bl)] ∧ Φ (.bl (bs.all id)) μ
def cAny : DC := fun xs μ Φ => ∃ bs : List Bool, xs = [.lst (bs.map .bl)] ∧ Φ (.bl (bs.any id)) μ
theorem rcAll : RC K (rAll K) cAll := fun H μ vs ds Φ Q s r q k => by
  obtain ⟨bs, rfl, q⟩ := q
  obtain ⟨v, rfl, r⟩ := reps1 r
  obtain ⟨a, us, rfl, h1, h2⟩ := Rep.lst_inv r
  have e := reps_bls h2
  subst e
  exact ⟨a, bs, rfl, h1.sq, k _ H _ μ .refl s (.bl _ .nil) q⟩
def cMin2 : DC := fun xs μ Φ => ∃ i j, xs = [.int i, .int j] ∧ Φ (.int (if j < i then j else i)) μ
theorem rcMin2 : RC K (fun xs H Q => ∃ i j, xs = [.int i, .int j] ∧ Q (.int (if j < i then j else i)) H) cMin2 := fun H μ vs ds Φ Q s r q k => by
  obtain ⟨i, j, rfl, q⟩ := q
  obtain ⟨v, w, rfl, r1, r2⟩ := reps2 r
  obtain rfl := Rep.int_inv r1
  obtain rfl := Rep.int_inv r2
  exact ⟨i, j, rfl, k _ H _ μ .refl s (.int _ .nil) q⟩
def cMax2 : DC := fun xs μ Φ => ∃ i j, xs = [.int i, .int j] ∧ Φ (.int (if j > i then j else i)) μ
theorem rcMax2 : RC K (fun xs H Q => ∃ i j, xs = [.int i, .int j] ∧ Q (.int (if j > i then j else i)) H) cMax2 := fun H μ vs ds Φ Q s r q k => by
  obtain ⟨i, j, rfl, q⟩ := q
  obtain ⟨v, w, rfl, r1, r2⟩ := reps2 r
  obtain rfl := Rep.int_inv r1
  obtain rfl := Rep.int_inv r2
  exact ⟨i, j, rfl, k _ H _ μ .refl s (.int _ .nil) q⟩
def cDivmod : DC := fun xs μ Φ => ∃ i j, xs = [.int i, .int j] ∧ CDivP i j ∧ Φ (.pr [.int (i / j), .int (i % j)]) μ
def tyD : D → Option String
  | .non => some "NoneType"
  | .bl _ => some "bool"
  | .int _ => some "int"
  | .str _ => some "str"
  | .tup _ => some "tuple"
  | .lst _ => some "list"
  | _ => none
theorem tyD_ok {μ : Sto} {H : Hp} {v : V} {d : D} {n : String} (r : Rep K μ H v d) (h : tyD d = some n) : TyX K H v (.type n) := by
  cases d with
  | non => cases h; cases r; exact .base .non
  | bl b => cases h; cases r; exact .base (.bl b)
  | int i => cases h; cases r; exact .base (.int i)
  | str i => cases h; cases r; exact .base (.str i)
  | tup ds =>
    cases h
    obtain ⟨a, vs, rfl, h1, h2⟩ := Rep.tup_inv r
    rcases h1 with ⟨o, h1, _⟩ | ⟨o, its, n, h1, h3, _⟩
    · exact .fTuple h1
    · exact .kTuple h1 h3
  | lst ds =>
    cases h
    obtain ⟨a, vs, rfl, h1, h2⟩ := Rep.lst_inv r
    exact .base (.lst h1.1)
  | obj C ns ds => cases h
  | hd v => cases h
  | scr ns => cases h
  | pr ns => cases h
def instB : D → String → Option Bool
  | .non, "int" => some false | .non, "bool" => some false | .non, "str" => some false | .non, "tuple" => some false | .non, "list" => some false
  | .int _, "int" => some true | .int _, "bool" => some false | .int _, "str" => some false | .int _, "tuple" => some false | .int _, "list" => some false
  | .bl _, "int" => some true | .bl _, "bool" => some true | .bl _, "str" => some false | .bl _, "tuple" => some false | .bl _, "list" => some false
  | .str _, "int" => some false | .str _, "bool" => some false | .str _, "str" => some true | .str _, "tuple" => some false | .str _, "list" => some false
  | .tup _, "int" => some false | .tup _, "bool" => some false | .tup _, "str" => some false | .tup _, "tuple" => some true | .tup _, "list" => some false
  | .lst _, "int" => some false | .lst _, "bool" => some false | .lst _, "str" => some false | .lst _, "tuple" => some false | .lst _, "list" => some true
  | _, _ => none
theorem instB_ok {d : D} {T : String} {b : Bool} (h : instB d T = some b) : ∃ n, tyD d = some n ∧ kitB n T = some b := by
  unfold instB at h
  split at h <;> first | (cases h; done) | (cases h; exact ⟨_, rfl, by decide +kernel⟩)
def cIsi (T : String) : DC := fun xs μ Φ => ∃ x b, xs = [x, .hd (.ty T)] ∧ instB x T = some b ∧ Φ (.bl b) μ
theorem rcIsi {T : String} : RC K (rIsi K) (cIsi T) := fun H μ vs ds Φ Q s r q k => by
  obtain ⟨x, b, rfl, hi, q⟩ := q
  obtain ⟨n, hn, hk⟩ := instB_ok hi
  obtain ⟨v, w, rfl, r1, r2⟩ := reps2 r
  obtain rfl := Rep.hd_inv r2
  exact ⟨v, _, _, _, b, rfl, .ty T, tyD_ok r1 hn, kit_ty hk, k _ H _ μ .refl s (.bl _ .nil) q⟩
def dApp (φa φb : DE) : DE := fun Ψ δ μ Φ => φa Ψ δ μ fun x μ1 => ∃ a ds, x = .hd (.ref a) ∧ μ1 a = some (.lst ds) ∧ φb Ψ δ μ1 fun y μ2 => ∃ es, μ2 a = some (.lst es) ∧ es.length ≤ 100000 ∧ Φ .non (sset μ2 a (.lst (es ++ [y])))
theorem own_upd {μ : Sto} {H : Hp} {a : Addr} {ds es : List D} {us : List V} (s : StoOk K μ H) (h : μ a = some (.lst ds)) (r : Reps K (sset μ a (.lst es)) (upd H a (.lst us)) us es) : Evo μ H (sset μ a (.lst es)) (upd H a (.lst us)) ∧ StoOk K (sset μ a (.lst es)) (upd H a (.lst us)) := by
  have e : Evo μ H (sset μ a (.lst es)) (upd H a (.lst us)) := .cell h fun n => n.notL h
  exact ⟨e, s.cell e ⟨us, upd_same, r⟩⟩
theorem own_evo {μ : Sto} {H : Hp} {a : Addr} {ds es : List D} {us : List V} (h : μ a = some (.lst ds)) : Evo μ H (sset μ a (.lst es)) (upd H a (.lst us)) := .cell h fun n => n.notL h
theorem sApp {B : Bx K} {ta tb : TE} {φa φb : DE} (a : SE B ta φa) (b : SE B tb φb) : SE B (tBM K "list" rAppend ta (tCons tb tNil)) (dApp φa φb) := fun σ H δ μ Φ Q S q k =>
  a σ H δ μ _ _ S q fun v H1 x μ1 S1 e1 r1 q1 => by
    obtain ⟨p, ds, rfl, hp, q1⟩ := q1
    obtain rfl := Rep.hd_inv r1
    obtain ⟨us, h1, h2⟩ := S1.sto _ _ hp
    refine ⟨.inl ⟨rfl, us, .of h1⟩, b σ H1 δ μ1 _ _ S1 q1 fun w H2 y μ2 S2 e2 r2 q2 => ?_⟩
    obtain ⟨es, hp2, hz, q2⟩ := q2
    obtain ⟨ws, h3, h4⟩ := S2.sto _ _ hp2
    refine ⟨p, ws, w, rfl, rfl, h3, Nat.lt_of_le_of_lt (by rw [h4.length]; exact hz) (by decide), ?_⟩
    have e3 : Evo μ2 H2 (sset μ2 p (.lst (es ++ [y]))) (upd H2 p (.lst (ws ++ [w]))) := own_evo hp2
    obtain ⟨e4, s4⟩ := own_upd S2.sto hp2 ((h4.append r2).mono e3)
    exact k _ _ _ _ (S2.step e4 s4) ((e1.trans e2).trans e4) (.non .nil) q2
/-- o[i] = e, o a handle of a list -/
def eSub (φo φi : DE) : XP → D → DEnv → Sto → (DEnv → Sto → Prop) → Prop := fun Ψ d δ μ Φ => φo Ψ δ μ fun x μ1 => φi Ψ δ μ1 fun y μ2 => ∃ a ds i j, x = .hd (.ref a) ∧ y = .int i ∧ μ2 a = some (.lst ds) ∧ ixN ds.length i = some j ∧ Φ δ (sset μ2 a (.lst (ds.set j d)))
theorem sSub {B : Bx K} {ta tb : TE} {φa φb : DE} (a : SE B ta φa) (b : SE B tb φb) : SG B (gSub ta tb rSetL) (eSub φa φb B.Ψ) := fun v d σ H δ μ Φ Q S r q k =>
  a σ H δ μ _ _ S q fun o H1 x μ1 S1 e1 r1 q1 => b σ H1 δ μ1 _ _ S1 q1 fun i H2 y μ2 S2 e2 r2 q2 => by
    obtain ⟨p, ds, i, j, rfl, rfl, hp, hj, q2⟩ := q2
    obtain rfl := Rep.hd_inv r1
    obtain rfl := Rep.int_inv r2
    obtain ⟨us, h1, h2⟩ := S2.sto _ _ hp
    refine ⟨p, us, i, j, rfl, rfl, h1, by rw [h2.length]; exact hj, ?_⟩
    have e3 : Evo μ2 H2 (sset μ2 p (.lst (ds.set j d))) (upd H2 p (.lst (us.set j v))) := own_evo hp
    obtain ⟨e4, s4⟩ := own_upd S2.sto hp ((h2.set ((r.mono e1).mono e2) j).mono e3)
    exact k σ _ δ _ (S2.step e4 s4) ((e1.trans e2).trans e4) q2
def dAsgS (φ φo φi : DE) : DSt := fun Ψ Δ δ μ => φ Ψ δ μ fun x μ1 => eSub φo φi Ψ x δ μ1 Δ.nx
theorem sAsgS {B : Bx K} {te ta tb : TE} {φ φa φb : DE} (e : SE B te φ) (a : SE B ta φa) (b : SE B tb φb) : SS B (tAsg te (gSub ta tb rSetL)) (dAsgS φ φa φb) := fun D Δ σ H δ μ E S q =>
  e σ H δ μ _ _ S q fun v H1 x μ1 S1 e1 r1 q1 => sSub a b v x σ H1 δ μ1 _ _ S1 r1 q1 fun σ2 H2 δ2 μ2 S2 e2 q2 => E.nx σ2 H2 δ2 μ2 S2 q2
end
end DW
set_option Elab.async false
set_option linter.all false
set_option maxRecDepth 100000
namespace DW
open PySem PySem.Spec L2
section
variable {K : Fg} {B : Bx K}
abbrev DI := XP → DEnv → Sto → (List D → Sto → Prop) → Prop
/-- the iterator hands out the items, as long as what stood still stands -/
def IterOk (K : Fg) (μ1 : Sto) (H1 : Hp) (J : It) (xs : List D) : Prop := ∀ (i : Nat) (H : Hp) (μ : Sto), StoOk K μ H → Evo μ1 H1 μ H →
  (i < xs.length → J.go i H ∧ ∀ x H', J.yld i H x H' → ∃ d, xs[i]? = some d ∧ StoOk K μ H' ∧ Evo μ H μ H' ∧ Rep K μ H' x d) ∧ (xs.length ≤ i → J.stop i H)
def SI (B : Bx K) (wi : TI) (ι : DI) : Prop := ∀ (σ : L2.St) (H : Hp) (δ : DEnv) (μ : Sto) (Φ : List D → Sto → Prop) (R : It → Hp → Prop), B.S σ H δ μ → ι B.Ψ δ μ Φ →
  (∀ xs J H' μ', B.S σ H' δ μ' → Evo μ H μ' H' → IterOk K μ' H' J xs → Φ xs μ' → R J H') → wi σ H R
def iSeqT (φ : DE) : DI := fun Ψ δ μ Φ => φ Ψ δ μ fun x μ1 => ∃ ds, x = .tup ds ∧ Φ ds μ1
def iSeqL (φ : DE) : DI := fun Ψ δ μ Φ => φ Ψ δ μ fun x μ1 => ∃ ds, x = .lst ds ∧ Φ ds μ1
theorem siT {te : TE} {φ : DE} (a : SE B te φ) : SI B (iTup K te) (iSeqT φ) := fun σ H δ μ Φ R S q k =>
  a σ H δ μ _ _ S q fun v H1 x μ1 S1 e1 r1 q1 => by
    obtain ⟨ds, rfl, q2⟩ := q1
    obtain ⟨p, vs, rfl, h1, h2⟩ := Rep.tup_inv r1
    refine ⟨p, rfl, ⟨vs, h1.sq⟩, k ds _ H1 μ1 S1 e1 (fun i H2 μ2 s2 e2 => ⟨fun hi => ?_, fun hi => ⟨vs, (h1.mono e2).sq, by rw [h2.length]; exact hi⟩⟩) q2⟩
    have hv : i < vs.length := by rw [h2.length]; exact hi
    refine ⟨⟨vs, vs[i], (h1.mono e2).sq, List.getElem?_eq_getElem hv⟩, fun x H' ⟨eH, hy⟩ => ?_⟩
    subst eH
    obtain ⟨d, hd, rd⟩ := (h2.mono e2).getV (hy vs (h1.mono e2).sq)
    exact ⟨d, hd, s2, .refl, rd⟩
theorem siL {te : TE} {φ : DE} (a : SE B te φ) : SI B (iList K te) (iSeqL φ) := fun σ H δ μ Φ R S q k =>
  a σ H δ μ _ _ S q fun v H1 x μ1 S1 e1 r1 q1 => by
    obtain ⟨ds, rfl, q2⟩ := q1
    obtain ⟨p, vs, rfl, h1, h2⟩ := Rep.lst_inv r1
    refine ⟨p, rfl, ⟨vs, h1.sq⟩, k ds _ H1 μ1 S1 e1 (fun i H2 μ2 s2 e2 => ⟨fun hi => ?_, fun hi => ⟨vs, (h1.mono e2).sq, by rw [h2.length]; exact hi⟩⟩) q2⟩
    have hv : i < vs.length := by rw [h2.length]; exact hi
    refine ⟨⟨vs, vs[i], (h1.mono e2).sq, List.getElem?_eq_getElem hv⟩, fun x H' ⟨eH, hy⟩ => ?_⟩
    subst eH
    obtain ⟨d, hd, rd⟩ := (h2.mono e2).getV (hy vs (h1.mono e2).sq)
    exact ⟨d, hd, s2, .refl, rd⟩
def rngD (lo : Int) (n : Nat) : List D := (List.range n).map fun (i : Nat) => .int (lo + (i : Int))
theorem rngD_len {lo : Int} {n : Nat} : (rngD lo n).length = n := by unfold rngD; rw [List.length_map, List.length_range]
theorem rngD_at {lo : Int} {n i : Nat} (h : i < n) : (rngD lo n)[i]? = some (.int (lo + (i : Int))) := by
  unfold rngD
  rw [List.getElem?_map, List.getElem?_range h]
  rfl
theorem iter_rng {μ : Sto} {H : Hp} {lo : Int} {n : Nat} : IterOk K μ H (Itr lo n) (rngD lo n) := fun i H2 μ2 s2 e2 => by
  rw [rngD_len]
  refine ⟨fun hi => ⟨hi, fun x H' ⟨eH, hy⟩ => ?_⟩, fun hi => hi⟩
  subst eH hy
  exact ⟨_, rngD_at hi, s2, .refl, .int _ .nil⟩
def iR1 (φ : DE) : DI := fun Ψ δ μ Φ => φ Ψ δ μ fun x μ1 => ∃ j, x = .int j ∧ j < 4611686018427387904 ∧ -4611686018427387904 ≤ j ∧ Φ (rngD 0 j.toNat) μ1
theorem siR1 {te : TE} {φ : DE} (a : SE B te φ) : SI B (iRng1 (tCons te tNil)) (iR1 φ) := fun σ H δ μ Φ R S q k =>
  a σ H δ μ _ _ S q fun v H1 x μ1 S1 e1 r1 q1 => by
    obtain ⟨j, rfl, h1, h2, q2⟩ := q1
    obtain rfl := Rep.int_inv r1
    exact ⟨j, rfl, by omega, by omega, k _ _ H1 μ1 S1 e1 iter_rng q2⟩
def iR2 (φ φ' : DE) : DI := fun Ψ δ μ Φ => φ Ψ δ μ fun x μ1 => φ' Ψ δ μ1 fun y μ2 => ∃ i j, x = .int i ∧ y = .int j ∧ (-4611686018427387904 ≤ i ∧ i < 4611686018427387904 ∧ -4611686018427387904 ≤ j ∧ j < 4611686018427387904) ∧ Φ (rngD i (j - i).toNat) μ2
theorem siR2 {te tf : TE} {φ φ' : DE} (a : SE B te φ) (b : SE B tf φ') : SI B (iRng2 (tCons te (tCons tf tNil))) (iR2 φ φ') := fun σ H δ μ Φ R S q k =>
  a σ H δ μ _ _ S q fun v H1 x μ1 S1 e1 r1 q1 => b σ H1 δ μ1 _ _ S1 q1 fun w H2 y μ2 S2 e2 r2 q2 => by
    obtain ⟨i, j, rfl, rfl, h, q2⟩ := q2
    obtain rfl := Rep.int_inv r1
    obtain rfl := Rep.int_inv r2
    exact ⟨i, j, rfl, by omega, k _ _ H2 μ2 S2 (e1.trans e2) iter_rng q2⟩
/-- zip of two tuples -/
def iZipT (φ φ' : DE) : DI := fun Ψ δ μ Φ => φ Ψ δ μ fun x μ1 => φ' Ψ δ μ1 fun y μ2 => ∃ xs ys, x = .tup xs ∧ y = .tup ys ∧ Φ ((xs.zip ys).map fun p => .pr [p.1, p.2]) μ2
/-- a text, sign by sign -/
def iText (φ : DE) : DI := fun Ψ δ μ Φ => φ Ψ δ μ fun x μ1 => ∃ s, x = .str s ∧ Φ (s.cps.toList.map fun c => .str ⟨#[c]⟩) μ1
/-- a loop -/
def dFor (ι : DI) (γ : DG) (ω : DSt) : DSt := fun Ψ Δ δ μ => ι Ψ δ μ fun xs μ1 => ∃ W : Nat → DEnv → Sto → Prop, W 0 δ μ1 ∧
  (∀ i d δ' μ', xs[i]? = some d → W i δ' μ' → γ d δ' μ' fun δ2 μ2 => ω Ψ { Δ with nx := W (i + 1), ct := W (i + 1), bk := Δ.nx } δ2 μ2) ∧ ∀ δ' μ', W xs.length δ' μ' → Δ.nx δ' μ'
theorem sFor {wi : TI} {g : TG} {tb : TS} {ι : DI} {γ : DG} {ω : DSt} (a : SI B wi ι) (b : ∀ H1 μ1 e, SG (B.re H1 μ1 e) g γ) (c : ∀ H1 μ1 e, SS (B.re H1 μ1 e) tb ω) : SS B (tFor wi g tb) (dFor ι γ ω) := fun D Δ σ H δ μ E S q =>
  a σ H δ μ _ _ S q fun xs J H1 μ1 S1 e1 it q1 => by
    obtain ⟨W, w0, ws, wd⟩ := q1
    refine ⟨fun i m σ' H' => m = xs.length - i ∧ i ≤ xs.length ∧ ∃ δ' μ', (B.re H1 μ1 S1.evo).S σ' H' δ' μ' ∧ W i δ' μ', ⟨xs.length, by simp, Nat.zero_le _, δ, μ1, ⟨.refl, S1.sto, S1.env⟩, w0⟩, ?_⟩
    rintro i m σ' H' ⟨rfl, hi, δ', μ', S', w⟩
    by_cases hlt : i < xs.length
    · obtain ⟨hgo, hy⟩ := (it i H' μ' S'.sto S'.evo).1 hlt
      refine .inr ⟨hgo, fun σ2 H2 => ∃ δ2 μ2, (B.re H1 μ1 S1.evo).S σ2 H2 δ2 μ2 ∧ W (i + 1) δ2 μ2, fun σ2 H2 ⟨δ2, μ2, S2, w2⟩ => ⟨xs.length - (i + 1), by omega, rfl, by omega, δ2, μ2, S2, w2⟩, fun x H2 y => ?_⟩
      obtain ⟨d, hd, s2, e2, r2⟩ := hy x H2 y
      refine b H1 μ1 S1.evo x d σ' H2 δ' μ' _ _ (S'.step e2 s2) r2 (ws i d δ' μ' hd w) fun σ3 H3 δ3 μ3 S3 e3 q3 => ?_
      exact c H1 μ1 S1.evo _ { Δ with nx := W (i + 1), ct := W (i + 1), bk := Δ.nx } σ3 H3 δ3 μ3 ⟨fun σ4 H4 δ4 μ4 S4 q4 => ⟨δ4, μ4, S4, q4⟩, fun v4 H4 d4 μ4 σ4 δ4 S4 r4 q4 => E.rt v4 H4 d4 μ4 σ4 δ4 ⟨S1.evo.trans S4.evo, S4.sto, S4.env⟩ r4 q4, fun σ4 H4 δ4 μ4 S4 q4 => E.nx σ4 H4 δ4 μ4 ⟨S1.evo.trans S4.evo, S4.sto, S4.env⟩ q4, fun σ4 H4 δ4 μ4 S4 q4 => ⟨δ4, μ4, S4, q4⟩⟩ S3 q3
    · have e : i = xs.length := by omega
      subst e
      exact .inl ⟨(it _ H' μ' S'.sto S'.evo).2 (Nat.le_refl _), E.nx σ' H' δ' μ' ⟨S1.evo.trans S'.evo, S'.sto, S'.env⟩ (wd δ' μ' w)⟩
def dwipe (δ : DEnv) : List Nat → DEnv
  | [] => δ
  | v :: vs => (dwipe δ vs).set v none
theorem EnvOk.unset {μ : Sto} {H : Hp} {σ : L2.St} {δ : DEnv} (h : EnvOk K μ H σ δ) (j : Nat) : EnvOk K μ H (σ.set j none) (δ.set j none) := ⟨by rw [List.length_set, List.length_set]; exact h.len, fun i x q => by
  rw [List.getElem?_set] at q
  by_cases hj : j = i
  · rw [if_pos hj] at q
    split at q <;> cases q
  · rw [if_neg hj] at q
    obtain ⟨v, e, r⟩ := h.at_ i x q
    exact ⟨v, by rw [List.getElem?_set, if_neg hj]; exact e, r⟩⟩
theorem EnvOk.wipe {μ : Sto} {H : Hp} {σ : L2.St} {δ : DEnv} (h : EnvOk K μ H σ δ) : ∀ vs, EnvOk K μ H (L2.wipe σ vs) (dwipe δ vs)
  | [] => h
  | v :: vs => (EnvOk.wipe h vs).unset v
theorem wipe_get (σ : L2.St) : ∀ (vs : List Nat) (i : Nat), (L2.wipe σ vs)[i]? = if i ∈ vs ∧ i < σ.length then some none else σ[i]?
  | [], i => by simp [L2.wipe]
  | v :: vs, i => by
    have ih := wipe_get σ vs i
    show ((L2.wipe σ vs).set v none)[i]? = _
    rw [List.getElem?_set, L2.wipe_length, ih]
    by_cases h : v = i
    · subst h
      rw [if_pos rfl]
      by_cases hl : v < σ.length
      · rw [if_pos hl, if_pos ⟨List.mem_cons_self, hl⟩]
      · rw [if_neg hl, if_neg fun z => hl z.2, List.getElem?_eq_none (by omega)]
    · rw [if_neg h]
      have : (i ∈ v :: vs ∧ i < σ.length) ↔ (i ∈ vs ∧ i < σ.length) := by
        constructor
        · rintro ⟨a, b⟩
          rcases List.mem_cons.mp a with e | e
          · exact absurd e.symm h
          · exact ⟨e, b⟩
        · rintro ⟨a, b⟩
          exact ⟨List.mem_cons_of_mem _ a, b⟩
      simp only [this]
theorem wipe_set {σ : L2.St} {vs : List Nat} {j : Nat} {x : Option V} (h : j ∈ vs) : L2.wipe (σ.set j x) vs = L2.wipe σ vs := by
  apply List.ext_getElem?
  intro i
  rw [wipe_get, wipe_get, List.length_set, List.getElem?_set]
  by_cases hi : i ∈ vs ∧ i < σ.length
  · rw [if_pos hi, if_pos hi]
  · rw [if_neg hi, if_neg hi]
    by_cases e : j = i
    · subst e
      rw [if_pos rfl, if_neg (fun z => hi ⟨h, z⟩), List.getElem?_eq_none (Nat.le_of_not_lt fun z => hi ⟨h, z⟩)]
    · rw [if_neg e]
theorem wipe_wipe {σ : L2.St} {vs : List Nat} : L2.wipe (L2.wipe σ vs) vs = L2.wipe σ vs := by
  apply List.ext_getElem?
  intro i
  rw [wipe_get, L2.wipe_length, wipe_get]
  split <;> rfl
/-- a target stores nothing but own names -/
def GW (vs : List Nat) (g : TG) : Prop := ∀ (v : V) (σ W : L2.St) (H : Hp) (Q : L2.St → Hp → Prop), L2.wipe σ vs = W → g v σ H Q → g v σ H fun σ2 H2 => L2.wipe σ2 vs = W ∧ Q σ2 H2
theorem gwName {vs : List Nat} {j : Nat} (h : j ∈ vs) : GW vs (gName j) := fun v σ W H Q e q => ⟨by rw [wipe_set h]; exact e, q⟩
def dLc (ι : DI) (γ : DG) (θ : DT) (φ : DE) (vs : List Nat) : DE := fun Ψ δ μ Φ => ι Ψ δ μ fun xs μ1 => ∀ p, μ1 p = none → ∃ W : Nat → Sto → Prop, W 0 (sset μ1 p (.lst [])) ∧
  (∀ i d μ2, xs[i]? = some d → W i μ2 → γ d (dwipe δ vs) μ2 fun δ3 μ3 => θ Ψ δ3 μ3 fun b μ4 =>
    (b = true → φ Ψ δ3 μ4 fun y μ5 => ∃ acc, μ5 p = some (.lst acc) ∧ acc.length ≤ 100000 ∧ W (i + 1) (sset μ5 p (.lst (acc ++ [y])))) ∧ (b = false → W (i + 1) μ4)) ∧
  ∀ μ2, W xs.length μ2 → ∃ acc, μ2 p = some (.lst acc) ∧ Φ (.lst acc) (sdel μ2 p)
theorem sLc {wi : TI} {g : TG} {tt : TT} {te : TE} {vs : List Nat} {ι : DI} {γ : DG} {θ : DT} {φ : DE} (a : SI B wi ι) (w : GW vs g) (b : ∀ H1 μ1 e, SG (B.re H1 μ1 e) g γ) (c : ∀ H1 μ1 e, ST (B.re H1 μ1 e) tt θ) (d : ∀ H1 μ1 e, SE (B.re H1 μ1 e) te φ) :
    SE B (tLc wi g tt te vs) (dLc ι γ θ φ vs) := fun σ H δ μ Φ Q S q k =>
  a σ H δ μ _ _ S q fun xs J H1 μ1 S1 e1 it q1 => fun p hp => by
    have hμp : μ1 p = none := S1.sto.fresh hp
    obtain ⟨W, w0, ws, wd⟩ := q1 p hμp
    refine ⟨fun i m H' => m = xs.length - i ∧ i ≤ xs.length ∧ ∃ μ', Evo μ1 H1 μ' H' ∧ StoOk K μ' H' ∧ W i μ', ⟨xs.length, by simp, Nat.zero_le _, _, .newC S1.sto hp, sto_own S1.sto hp .nil, w0⟩, ?_⟩
    rintro i m H' ⟨rfl, hi, μ', e', s', wi'⟩
    by_cases hlt : i < xs.length
    · obtain ⟨hgo, hy⟩ := (it i H' μ' s' e').1 hlt
      refine .inr ⟨hgo, fun H2 => ∃ μ2, Evo μ1 H1 μ2 H2 ∧ StoOk K μ2 H2 ∧ W (i + 1) μ2, fun H2 ⟨μ2, e2, s2, w2⟩ => ⟨xs.length - (i + 1), by omega, rfl, by omega, μ2, e2, s2, w2⟩, fun x H2 y => ?_⟩
      obtain ⟨dd, hd, s2, e2, r2⟩ := hy x H2 y
      have S2 : (B.re H1 μ1 S1.evo).S (L2.wipe σ vs) H2 (dwipe δ vs) μ' := ⟨e'.trans e2, s2, ((S1.env.mono e').mono e2).wipe vs⟩
      refine w x (L2.wipe σ vs) (L2.wipe σ vs) H2 _ wipe_wipe ?_
      refine b H1 μ1 S1.evo x dd (L2.wipe σ vs) H2 (dwipe δ vs) μ' _ _ S2 r2 (ws i dd μ' hd wi') fun σ3 H3 δ3 μ3 S3 e3 q3 => ?_
      refine c H1 μ1 S1.evo σ3 H3 δ3 μ3 _ _ S3 q3 fun b4 H4 μ4 S4 e4 q4 => ?_
      cases b4 with
      | true =>
        rw [if_pos rfl]
        refine d H1 μ1 S1.evo σ3 H4 δ3 μ4 _ _ S4 (q4.1 rfl) fun v5 H5 y5 μ5 S5 e5 r5 q5 => ?_
        obtain ⟨acc, hacc, hz, w5⟩ := q5
        obtain ⟨us, h5, hr5⟩ := S5.sto _ _ hacc
        have e6 : Evo μ5 H5 (sset μ5 p (.lst (acc ++ [y5]))) (upd H5 p (.lst (us ++ [v5]))) := own_evo hacc
        obtain ⟨e7, s7⟩ := own_upd S5.sto hacc ((hr5.append r5).mono e6)
        exact ⟨us, h5, Nat.lt_of_le_of_lt (by rw [hr5.length]; exact hz) (by decide), _, S5.evo.trans e7, s7, w5⟩
      | false =>
        rw [if_neg Bool.false_ne_true]
        exact ⟨μ4, S4.evo, S4.sto, q4.2 rfl⟩
    · have e : i = xs.length := by omega
      subst e
      obtain ⟨acc, hacc, q2⟩ := wd μ' wi'
      obtain ⟨us, h5, hr5⟩ := s' _ _ hacc
      refine .inl ⟨(it _ H' μ' s' e').2 (Nat.le_refl _), ?_⟩
      have e8 : Evo μ1 H1 (sdel μ' p) H' := e'.trans sdel_sub.evo
      exact k (.ref p) H' (.lst acc) (sdel μ' p) (S1.step e8 (sdel_sub.sto s')) (e1.trans e8) (.lst ⟨h5, .of sdel_same⟩ (hr5.mono sdel_sub.evo) .nil) q2
def dYes : DT := fun _ _ μ Φ => Φ true μ
theorem sYes : ST B tYes dYes := fun σ H δ μ Φ Q S q k => k true H μ S .refl q
abbrev Con := List D → Sto → DK → (XD → Sto → Prop) → Prop
def spOf (K : Fg) (c : Con) : Sp := fun vs H Q E => ∃ μ ds Φ Ψ, StoOk K μ H ∧ Reps K μ H vs ds ∧ c ds μ Φ Ψ ∧
  (∀ v H' d μ', Evo μ H μ' H' → StoOk K μ' H' → Rep K μ' H' v d → Φ d μ' → Q v H') ∧
  ∀ cls dd H' x μ', Evo μ H μ' H' → StoOk K μ' H' → RepX K μ' H' cls dd x → Ψ x μ' → E cls dd H'
/-- a call that raises nothing -/
def dCall (c : Con) (ψ : DA) : DE := fun Ψ δ μ Φ => ψ Ψ δ μ fun xs μ1 => c xs μ1 Φ fun _ _ => False
theorem sCall {c : Con} {tas : TA} {ψ : DA} (a : SA B tas ψ) : SE B (tCall (spOf K c) [] E0 tas) (dCall c ψ) := fun σ H δ μ Φ Q S q k =>
  a σ H δ μ _ _ S q fun vs H1 xs μ1 S1 e1 r1 q1 => by
    rw [List.append_nil]
    exact ⟨μ1, xs, Φ, fun _ _ => False, S1.sto, r1, q1, fun v H2 d μ2 e2 s2 r2 q2 => k v H2 d μ2 (S1.step e2 s2) (e1.trans e2) r2 q2, fun _ _ _ _ _ _ _ _ z => z⟩
/-- a call that may raise -/
def dCallS (c : Con) (ψ : DA) : DE := fun Ψ δ μ Φ => ψ Ψ δ μ fun xs μ1 => c xs μ1 Φ fun x μ2 => Ψ x δ μ2
theorem sCallS {c : Con} {tas : TA} {ψ : DA} (a : SA B tas ψ) : SE B (tCallS (spOf K c) (WE B.W) tas) (dCallS c ψ) := fun σ H δ μ Φ Q S q k =>
  a σ H δ μ _ _ S q fun vs H1 xs μ1 S1 e1 r1 q1 =>
    ⟨μ1, xs, Φ, fun x μ2 => B.Ψ x δ μ2, S1.sto, r1, q1, fun v H2 d μ2 e2 s2 r2 q2 => k v H2 d μ2 (S1.step e2 s2) (e1.trans e2) r2 q2, fun cls dd H2 x μ2 e2 s2 r2 q2 => B.hW cls dd σ H2 x δ μ2 (S1.step e2 s2) r2 q2⟩
/-- raise C('..'), a class without own fields -/
def dRaise0 (C : Addr) : DSt := fun Ψ _ δ μ => Ψ (.mk C none) δ μ
theorem sRaise0 {C : Addr} : SS B (fun _ σ H => (fun (_ : L2.St) (H : Hp) (Q : XK) => Q (.ref C) none H) σ H fun cls d H' => B.W cls d σ H') (dRaise0 C) := fun D Δ σ H δ μ E S q => B.hW _ _ σ H (.mk C none) δ μ S ⟨rfl, rfl⟩ q
def dstart (N : List Str) (ds : List D) : DEnv := ds.map some ++ List.replicate (N.length - ds.length) none
theorem env_start {μ : Sto} {H : Hp} {N : List Str} {vs : List V} {ds : List D} (r : Reps K μ H vs ds) : EnvOk K μ H (L2.start N vs) (dstart N ds) := by
  have hl := r.length
  refine ⟨by unfold L2.start dstart; simp [hl], fun i d q => ?_⟩
  unfold dstart at q
  unfold L2.start
  by_cases h : i < ds.length
  · rw [List.getElem?_append_left (by simpa using h), List.getElem?_map] at q
    cases e : ds[i]? with
    | none => rw [e] at q; cases q
    | some y =>
      rw [e] at q
      cases q
      obtain ⟨v, ev, rv⟩ := r.get e
      exact ⟨v, by rw [List.getElem?_append_left (by simpa [hl] using h), List.getElem?_map, ev]; rfl, rv⟩
  · rw [List.getElem?_append_right (by simpa using h), List.getElem?_replicate] at q
    split at q <;> cases q
/-- what a def's body must bring about -/
abbrev goalE (Φ : DK) : DEnds := ⟨fun _ μ' => ∃ μ2, Sub μ2 μ' ∧ Φ .non μ2, fun d μ' => ∃ μ2, Sub μ2 μ' ∧ Φ d μ2, fun _ _ => False, fun _ _ => False⟩
abbrev goalX (Ψ : XD → Sto → Prop) : XP := fun x _ μ' => ∃ μ2, Sub μ2 μ' ∧ Ψ x μ2
theorem RepX.mono {μ μ' : Sto} {H H' : Hp} {cls : Value} {dd : Option Addr} {x : XD} (e : Evo μ H μ' H') (h : RepX K μ H cls dd x) : RepX K μ' H' cls dd x := by
  obtain ⟨C, fs⟩ := x
  cases fs with
  | none => exact h
  | some f =>
    obtain ⟨ns, ds⟩ := f
    obtain ⟨h1, d, us, h2, h3, h4, h5, h6⟩ := h
    exact ⟨h1, d, us, h2, (e.st _ _ h3 h4).1, (e.st _ _ h3 h4).2, h5, h6.mono e⟩
end
end DW
set_option Elab.async false
set_option linter.all false
set_option maxRecDepth 100000
namespace DW
open PySem PySem.Spec L2
section
variable {α : Type} {μ μ' : Sto} {Φ : DK} {i j : Int} {x y : D} {xs ys ds : List D} {δ : DEnv} {Ψ : XP} {Δ : DEnds} {b : Bool} {s t : Str}
theorem ex_some {a : α} {P : α → Prop} : (∃ d, some (some a) = some (some d) ∧ P d) = P a := propext ⟨fun ⟨d, e, p⟩ => by cases e; exact p, fun p => ⟨a, rfl, p⟩⟩
theorem w_I0 {g : Int → Int → D} : oI0 g (.int i) (.int j) μ Φ = Φ (g i j) μ := propext ⟨fun ⟨a, b, e1, e2, q⟩ => by cases e1; cases e2; exact q, fun q => ⟨i, j, rfl, rfl, q⟩⟩
theorem w_I {C : Int → Int → Prop} {g : Int → Int → D} : oI C g (.int i) (.int j) μ Φ = (C i j ∧ Φ (g i j) μ) := propext ⟨fun ⟨a, b, e1, e2, q⟩ => by cases e1; cases e2; exact q, fun q => ⟨i, j, rfl, rfl, q⟩⟩
theorem w_uI {g : Int → Int} : uI g (.int i) μ Φ = Φ (.int (g i)) μ := propext ⟨fun ⟨a, e1, q⟩ => by cases e1; exact q, fun q => ⟨i, rfl, q⟩⟩
theorem w_int : cInt [.int i] μ Φ = Φ (.int i) μ := propext (Iff.intro (by
  rintro ⟨a, q⟩
  rcases q with ⟨e, q⟩ | ⟨_, e, q⟩
  · cases e; exact q
  · cases e) (fun q => ⟨i, .inl ⟨rfl, q⟩⟩))
theorem w_bl {P : Bool → Prop} : (∃ c, D.bl b = .bl c ∧ P c) = P b := propext ⟨fun ⟨c, e, q⟩ => by cases e; exact q, fun q => ⟨b, rfl, q⟩⟩
theorem w_isi {T : String} : cIsi T [x, .hd (.ty T)] μ Φ = ∃ b, instB x T = some b ∧ Φ (.bl b) μ := propext ⟨fun ⟨y, b, e, q⟩ => by cases e; exact ⟨b, q⟩, fun ⟨b, q⟩ => ⟨x, b, rfl, q⟩⟩
theorem w_someb {P : Bool → Prop} : (∃ c, some b = some c ∧ P c) = P b := propext ⟨fun ⟨c, e, q⟩ => by cases e; exact q, fun q => ⟨b, rfl, q⟩⟩
theorem w_eqI : oEq (.int i) (.int j) μ Φ = Φ (.bl (decide (i = j))) μ := w_someb
theorem w_neI : oNe (.int i) (.int j) μ Φ = Φ (.bl (!decide (i = j))) μ := w_someb
theorem w_eqS : oEq (.str s) (.str t) μ Φ = Φ (.bl (decide (s = t))) μ := w_someb
theorem w_neS : oNe (.str s) (.str t) μ Φ = Φ (.bl (!decide (s = t))) μ := w_someb
theorem w_lenT : cLen [.tup ds] μ Φ = Φ (.int ds.length) μ := propext ⟨fun ⟨x, es, e, h, q⟩ => by cases e; cases h; exact q, fun q => ⟨_, _, rfl, .tup ds, q⟩⟩
theorem w_lenL : cLen [.lst ds] μ Φ = Φ (.int ds.length) μ := propext ⟨fun ⟨x, es, e, h, q⟩ => by cases e; cases h; exact q, fun q => ⟨_, _, rfl, .lst ds, q⟩⟩
theorem w_lenS {ns : List Int} : cLen [.scr ns] μ Φ = Φ (.int ns.length) μ := propext ⟨fun ⟨x, es, e, h, q⟩ => by cases e; cases h; rw [List.length_map] at q; exact q, fun q => ⟨_, _, rfl, .scr ns, by rw [List.length_map]; exact q⟩⟩
theorem w_tupL : cTuple [.lst ds] μ Φ = Φ (.tup ds) μ := propext ⟨fun ⟨x, es, e, h, q⟩ => by cases e; cases h; exact q, fun q => ⟨_, _, rfl, .lst ds, q⟩⟩
theorem w_tupT : cTuple [.tup ds] μ Φ = Φ (.tup ds) μ := propext ⟨fun ⟨x, es, e, h, q⟩ => by cases e; cases h; exact q, fun q => ⟨_, _, rfl, .tup ds, q⟩⟩
theorem w_ixT : oIxT (.tup ds) (.int i) μ Φ = ∃ d, atI ds i = some d ∧ Φ d μ := propext ⟨fun ⟨x, es, d, e1, e2, q⟩ => by cases e1; cases e2; exact ⟨d, q⟩, fun ⟨d, q⟩ => ⟨_, _, d, rfl, rfl, q⟩⟩
theorem w_ixL : oIxL (.lst ds) (.int i) μ Φ = ∃ d, atI ds i = some d ∧ Φ d μ := propext ⟨fun ⟨x, es, d, e1, _, e2, q⟩ => by cases e1; cases e2; exact ⟨d, q⟩, fun ⟨d, q⟩ => ⟨_, _, d, .lst ds, rfl, rfl, q⟩⟩
theorem w_ixS {ns : List Int} : oIxL (.scr ns) (.int i) μ Φ = ∃ d, atI (ns.map D.int) i = some d ∧ Φ d μ := propext ⟨fun ⟨x, es, d, e1, _, e2, q⟩ => by cases e1; cases e2; exact ⟨d, q⟩, fun ⟨d, q⟩ => ⟨_, _, d, .scr ns, rfl, rfl, q⟩⟩
theorem w_catT : oCatT (.tup xs) (.tup ys) μ Φ = (xs.length + ys.length ≤ 100000 ∧ Φ (.tup (xs ++ ys)) μ) := propext ⟨fun ⟨x, es, e1, e2, q⟩ => by cases e1; cases e2; exact q, fun q => ⟨_, _, rfl, rfl, q⟩⟩
theorem w_catL : oCatL (.lst xs) (.lst ys) μ Φ = (xs.length + ys.length ≤ 100000 ∧ Φ (.lst (xs ++ ys)) μ) := propext ⟨fun ⟨x, es, e1, e2, q⟩ => by cases e1; cases e2; exact q, fun q => ⟨_, _, rfl, rfl, q⟩⟩
theorem w_all {bs : List Bool} : cAll [.lst (bs.map .bl)] μ Φ = Φ (.bl (bs.all id)) μ := propext (Iff.intro (by
  rintro ⟨cs, e, q⟩
  have e2 : bs = cs := by
    injection e with e _
    injection e with e
    exact (List.map_inj_right (fun _ _ z => by cases z; rfl)).mp e
  subst e2
  exact q) (fun q => ⟨bs, rfl, q⟩))
theorem w_any {bs : List Bool} : cAny [.lst (bs.map .bl)] μ Φ = Φ (.bl (bs.any id)) μ := propext (Iff.intro (by
  rintro ⟨cs, e, q⟩
  have e2 : bs = cs := by
    injection e with e _
    injection e with e
    exact (List.map_inj_right (fun _ _ z => by cases z; rfl)).mp e
  subst e2
  exact q) (fun q => ⟨bs, rfl, q⟩))
theorem w_min2 : cMin2 [.int i, .int j] μ Φ = Φ (.int (if j < i then j else i)) μ := propext ⟨fun ⟨a, b, e, q⟩ => by cases e; exact q, fun q => ⟨_, _, rfl, q⟩⟩
theorem w_divmod : cDivmod [.int i, .int j] μ Φ = (CDivP i j ∧ Φ (.pr [.int (i / j), .int (i % j)]) μ) := propext ⟨fun ⟨a, b, e, q⟩ => by cases e; exact q, fun q => ⟨_, _, rfl, q⟩⟩
theorem w_listS {ns : List Int} : cList [.scr ns] μ Φ = Φ (.lst (ns.map .int)) μ := propext ⟨fun ⟨x, es, e, h, q⟩ => by cases e; cases h; exact q, fun q => ⟨_, _, rfl, .scr ns, q⟩⟩
theorem w_listL : cList [.lst ds] μ Φ = Φ (.lst ds) μ := propext ⟨fun ⟨x, es, e, h, q⟩ => by cases e; cases h; exact q, fun q => ⟨_, _, rfl, .lst ds, q⟩⟩
theorem w_listT : cList [.tup ds] μ Φ = Φ (.lst ds) μ := propext ⟨fun ⟨x, es, e, h, q⟩ => by cases e; cases h; exact q, fun q => ⟨_, _, rfl, .tup ds, q⟩⟩
theorem w_isN {x : D} : oIsN x .non μ Φ = ∃ b, isNone x = some b ∧ Φ (.bl b) μ := propext ⟨fun ⟨_, q⟩ => q, fun q => ⟨rfl, q⟩⟩
theorem w_notN {x : D} : oNotN x .non μ Φ = ∃ b, isNone x = some b ∧ Φ (.bl (!b)) μ := propext ⟨fun ⟨_, q⟩ => q, fun q => ⟨rfl, q⟩⟩
section
variable {φ φa φb φc : DE} {γ : DG} {ω ζ : DSt} {θ ϑ : DT} {ψ : DA} {ρ ρ' : DO} {σ : DU} {κ : DC} {c : Con} {n : Nat} {C : Addr} {d : D} {Th : Bool → Sto → Prop} {Ls : List D → Sto → Prop} {Pn : DEnv → Sto → Prop} {η : List D → DEnv → Sto → (DEnv → Sto → Prop) → Prop} {ol oh : XP → DEnv → Sto → (Option Int → Sto → Prop) → Prop} {Xo : Option Int → Sto → Prop}
theorem u_seq : dSeq ω ζ Ψ Δ δ μ = ω Ψ { Δ with nx := ζ Ψ Δ } δ μ := rfl
theorem u_asg : dAsg φ γ Ψ Δ δ μ = φ Ψ δ μ fun x μ1 => γ x δ μ1 Δ.nx := rfl
theorem u_asgS : dAsgS φ φa φb Ψ Δ δ μ = φ Ψ δ μ fun x μ1 => eSub φa φb Ψ x δ μ1 Δ.nx := rfl
theorem u_ret : dRet φ Ψ Δ δ μ = φ Ψ δ μ Δ.rt := rfl
theorem u_retN : dRetN Ψ Δ δ μ = Δ.rt .non μ := rfl
theorem u_if : dIfS θ ω ζ Ψ Δ δ μ = θ Ψ δ μ fun b μ1 => (b = true → ω Ψ Δ δ μ1) ∧ (b = false → ζ Ψ Δ δ μ1) := rfl
theorem u_next : dNext Ψ Δ δ μ = Δ.nx δ μ := rfl
theorem u_break : dBreak Ψ Δ δ μ = Δ.bk δ μ := rfl
theorem u_cont : dCont Ψ Δ δ μ = Δ.ct δ μ := rfl
theorem u_drop : dDrop φ Ψ Δ δ μ = φ Ψ δ μ fun _ μ1 => Δ.nx δ μ1 := rfl
theorem u_raise : dRaise0 C Ψ Δ δ μ = Ψ (.mk C none) δ μ := rfl
theorem u_aug : dAug n φ ρ Ψ Δ δ μ = ∃ x, δ[n]? = some (some x) ∧ φ Ψ δ μ fun y μ1 => ρ x y μ1 fun z μ2 => Δ.nx (δ.set n (some z)) μ2 := rfl
theorem u_var : dVar n Ψ δ μ Φ = ∃ d, δ[n]? = some (some d) ∧ Φ d μ := rfl
theorem u_rest : dRest n Ψ δ μ Φ = ∃ a ds, δ[n]? = some (some (.hd (.ref a))) ∧ μ a = some (.lst ds) ∧ Φ (.lst ds) (sset μ a (.frz ds)) := rfl
theorem u_c : dC d Ψ δ μ Φ = Φ d μ := rfl
theorem u_op : dOp ρ φa φb Ψ δ μ Φ = φa Ψ δ μ fun x μ1 => φb Ψ δ μ1 fun y μ2 => ρ x y μ2 Φ := rfl
theorem u_un : dUn σ φa Ψ δ μ Φ = φa Ψ δ μ fun x μ1 => σ x μ1 Φ := rfl
theorem u_test : dTest φ Ψ δ μ Th = φ Ψ δ μ fun x μ1 => ∃ b, x = .bl b ∧ Th b μ1 := rfl
theorem u_and : dAnd θ ϑ Ψ δ μ Th = θ Ψ δ μ fun b μ1 => (b = true → ϑ Ψ δ μ1 Th) ∧ (b = false → Th false μ1) := rfl
theorem u_or : dOr θ ϑ Ψ δ μ Th = θ Ψ δ μ fun b μ1 => (b = true → Th true μ1) ∧ (b = false → ϑ Ψ δ μ1 Th) := rfl
theorem u_not : dNot θ Ψ δ μ Th = θ Ψ δ μ fun b μ1 => Th (!b) μ1 := rfl
theorem u_yes : dYes Ψ δ μ Th = Th true μ := rfl
theorem u_andV : dAndV φa φb Ψ δ μ Φ = φa Ψ δ μ fun x μ1 => ∃ b, x = .bl b ∧ (b = true → φb Ψ δ μ1 Φ) ∧ (b = false → Φ (.bl false) μ1) := rfl
theorem u_orV : dOrV φa φb Ψ δ μ Φ = φa Ψ δ μ fun x μ1 => ∃ b, x = .bl b ∧ (b = true → Φ (.bl true) μ1) ∧ (b = false → φb Ψ δ μ1 Φ) := rfl
theorem u_notV : dNotV φa Ψ δ μ Φ = φa Ψ δ μ fun x μ1 => ∃ b, x = .bl b ∧ Φ (.bl (!b)) μ1 := rfl
theorem u_ifE : dIf θ φa φb Ψ δ μ Φ = θ Ψ δ μ fun b μ1 => (b = true → φa Ψ δ μ1 Φ) ∧ (b = false → φb Ψ δ μ1 Φ) := rfl
theorem u_chain : dChain ρ ρ' φa φb φc Ψ δ μ Φ = φa Ψ δ μ fun x μ1 => φb Ψ δ μ1 fun y μ2 => ρ x y μ2 fun z μ3 => ∃ b, z = .bl b ∧ (b = true → φc Ψ δ μ3 fun u μ4 => ρ' y u μ4 Φ) ∧ (b = false → Φ (.bl false) μ3) := rfl
theorem u_nil : dNil Ψ δ μ Ls = Ls [] μ := rfl
theorem u_cons : dCons φ ψ Ψ δ μ Ls = φ Ψ δ μ fun x μ1 => ψ Ψ δ μ1 fun xs μ2 => Ls (x :: xs) μ2 := rfl
theorem u_tup : dTup ψ Ψ δ μ Φ = ψ Ψ δ μ fun xs μ1 => xs.length ≤ 100000 ∧ Φ (.tup xs) μ1 := rfl
theorem u_lst : dLst ψ Ψ δ μ Φ = ψ Ψ δ μ fun xs μ1 => xs.length ≤ 100000 ∧ Φ (.lst xs) μ1 := rfl
theorem u_own : dOwn ψ Ψ δ μ Φ = ψ Ψ δ μ fun xs μ1 => xs.length ≤ 100000 ∧ ∀ p, μ1 p = none → Φ (.hd (.ref p)) (sset μ1 p (.lst xs)) := rfl
theorem u_cb : dCB κ ψ Ψ δ μ Φ = ψ Ψ δ μ fun xs μ1 => κ xs μ1 Φ := rfl
theorem u_call : dCall c ψ Ψ δ μ Φ = ψ Ψ δ μ fun xs μ1 => c xs μ1 Φ fun _ _ => False := rfl
theorem u_callS : dCallS c ψ Ψ δ μ Φ = ψ Ψ δ μ fun xs μ1 => c xs μ1 Φ fun x μ2 => Ψ x δ μ2 := rfl
theorem u_name : eName n d δ μ Pn = Pn (δ.set n (some d)) μ := rfl
theorem u_etup : eTup n η d δ μ Pn = ∃ ds, tpl d = some ds ∧ ds.length = n ∧ η ds δ μ Pn := rfl
theorem w_tplT {P : List D → Prop} : (∃ es, tpl (.tup ds) = some es ∧ P es) = P ds := propext ⟨fun ⟨c, e, q⟩ => by cases e; exact q, fun q => ⟨ds, rfl, q⟩⟩
theorem w_tplP {P : List D → Prop} : (∃ es, tpl (.pr ds) = some es ∧ P es) = P ds := propext ⟨fun ⟨c, e, q⟩ => by cases e; exact q, fun q => ⟨ds, rfl, q⟩⟩
theorem u_enil : eNil xs δ μ Pn = (xs = [] ∧ Pn δ μ) := rfl
theorem u_econs : eCons γ η xs δ μ Pn = ∃ d r, xs = d :: r ∧ γ d δ μ fun δ' μ' => η r δ' μ' Pn := rfl
theorem u_sub : eSub φa φb Ψ d δ μ Pn = φa Ψ δ μ fun x μ1 => φb Ψ δ μ1 fun y μ2 => ∃ a ds i j, x = .hd (.ref a) ∧ y = .int i ∧ μ2 a = some (.lst ds) ∧ ixN ds.length i = some j ∧ Pn δ (sset μ2 a (.lst (ds.set j d))) := rfl
theorem u_app : dApp φa φb Ψ δ μ Φ = φa Ψ δ μ fun x μ1 => ∃ a ds, x = .hd (.ref a) ∧ μ1 a = some (.lst ds) ∧ φb Ψ δ μ1 fun y μ2 => ∃ es, μ2 a = some (.lst es) ∧ es.length ≤ 100000 ∧ Φ .non (sset μ2 a (.lst (es ++ [y]))) := rfl
theorem u_slT : dSlT φ ol oh Ψ δ μ Φ = φ Ψ δ μ fun x μ1 => ol Ψ δ μ1 fun lo μ2 => oh Ψ δ μ2 fun hi μ3 => ∃ ds, x = .tup ds ∧ Φ (.tup (cutD ds lo hi)) μ3 := rfl
theorem u_slL : dSlL φ ol oh Ψ δ μ Φ = φ Ψ δ μ fun x μ1 => ol Ψ δ μ1 fun lo μ2 => oh Ψ δ μ2 fun hi μ3 => ∃ ds, Items μ3 x ds ∧ isTup x = false ∧ Φ (.lst (cutD ds lo hi)) μ3 := rfl
theorem u_noPart : dNoPart Ψ δ μ Xo = Xo none μ := rfl
theorem u_part : dPart φ Ψ δ μ Xo = φ Ψ δ μ fun x μ1 => ∃ i, x = .int i ∧ Xo (some i) μ1 := rfl
theorem u_revL : dRevL φ Ψ δ μ Φ = φ Ψ δ μ fun x μ1 => ∃ ds, Items μ1 x ds ∧ isTup x = false ∧ Φ (.lst ds.reverse) μ1 := rfl
end
theorem w_tupE {P : List D → Prop} : (∃ es, D.tup ds = .tup es ∧ P es) = P ds := propext ⟨fun ⟨c, e, q⟩ => by cases e; exact q, fun q => ⟨ds, rfl, q⟩⟩
theorem w_intE {P : Int → Prop} : (∃ j, D.int i = .int j ∧ P j) = P i := propext ⟨fun ⟨c, e, q⟩ => by cases e; exact q, fun q => ⟨i, rfl, q⟩⟩
theorem w_consE {P : D → List D → Prop} : (∃ d r, x :: xs = d :: r ∧ P d r) = P x xs := propext ⟨fun ⟨c, r, e, q⟩ => by cases e; exact q, fun q => ⟨x, xs, rfl, q⟩⟩
theorem w_hdE {a : Addr} {P : Addr → List D → Prop} : (∃ b es, D.hd (.ref a) = .hd (.ref b) ∧ P b es) = ∃ es, P a es := propext ⟨fun ⟨b, es, e, q⟩ => by cases e; exact ⟨es, q⟩, fun ⟨es, q⟩ => ⟨a, es, rfl, q⟩⟩
theorem w_cell {a : Addr} {P : List D → Prop} (h : μ a = some (.lst ds)) : (∃ es, μ a = some (.lst es) ∧ P es) = P ds := propext ⟨fun ⟨es, e, q⟩ => by rw [h] at e; cases e; exact q, fun q => ⟨ds, h, q⟩⟩
theorem w_cellS {a : Addr} {P : List D → Prop} : (∃ es, sset μ a (.lst ds) a = some (.lst es) ∧ P es) = P ds := w_cell sset_same
theorem w_set {a : Addr} {P' : Addr → List D → Nat → Prop} : (∃ b es k j, D.hd (.ref a) = .hd (.ref b) ∧ D.int i = .int k ∧ μ b = some (.lst es) ∧ ixN es.length k = some j ∧ P' b es j) = (∃ es, μ a = some (.lst es) ∧ ∃ j, ixN es.length i = some j ∧ P' a es j) := propext ⟨fun ⟨b, es, k, j, e1, e2, q1, q2⟩ => by cases e1; cases e2; exact ⟨es, q1, j, q2⟩, fun ⟨es, q1, j, q2⟩ => ⟨a, es, i, j, rfl, rfl, q1, q2⟩⟩
theorem at0 {P : D → Prop} {x0 : D} : (∃ d, atI (x0 :: xs) 0 = some d ∧ P d) = P x0 := propext ⟨fun ⟨d, e, q⟩ => by rw [show (0 : Int) = ((0 : Nat) : Int) from rfl, atI_nat (j := 0) rfl] at e; cases e; exact q, fun q => ⟨x0, atI_nat (j := 0) rfl, q⟩⟩
theorem at1 {P : D → Prop} {x0 x1 : D} : (∃ d, atI (x0 :: x1 :: xs) 1 = some d ∧ P d) = P x1 := propext ⟨fun ⟨d, e, q⟩ => by rw [show (1 : Int) = ((1 : Nat) : Int) from rfl, atI_nat (j := 1) rfl] at e; cases e; exact q, fun q => ⟨x1, atI_nat (j := 1) rfl, q⟩⟩
theorem at2 {P : D → Prop} {x0 x1 x2 : D} : (∃ d, atI (x0 :: x1 :: x2 :: xs) 2 = some d ∧ P d) = P x2 := propext ⟨fun ⟨d, e, q⟩ => by rw [show (2 : Int) = ((2 : Nat) : Int) from rfl, atI_nat (j := 2) rfl] at e; cases e; exact q, fun q => ⟨x2, atI_nat (j := 2) rfl, q⟩⟩
theorem at3 {P : D → Prop} {x0 x1 x2 x3 : D} : (∃ d, atI (x0 :: x1 :: x2 :: x3 :: xs) 3 = some d ∧ P d) = P x3 := propext ⟨fun ⟨d, e, q⟩ => by rw [show (3 : Int) = ((3 : Nat) : Int) from rfl, atI_nat (j := 3) rfl] at e; cases e; exact q, fun q => ⟨x3, atI_nat (j := 3) rfl, q⟩⟩
theorem ix40 {P : Nat → Prop} : (∃ j, ixN 4 0 = some j ∧ P j) = P 0 := propext ⟨fun ⟨j, e, q⟩ => by cases e; exact q, fun q => ⟨0, rfl, q⟩⟩
theorem ix42 {P : Nat → Prop} : (∃ j, ixN 4 2 = some j ∧ P j) = P 2 := propext ⟨fun ⟨j, e, q⟩ => by cases e; exact q, fun q => ⟨2, rfl, q⟩⟩
theorem ix43 {P : Nat → Prop} : (∃ j, ixN 4 3 = some j ∧ P j) = P 3 := propext ⟨fun ⟨j, e, q⟩ => by cases e; exact q, fun q => ⟨3, rfl, q⟩⟩
theorem mapI_get {ws : List Int} {i : Nat} {d : D} (h : (ws.map D.int)[i]? = some d) : ∃ z, ws[i]? = some z ∧ d = .int z := by
  rw [List.getElem?_map] at h
  cases e : ws[i]? with
  | none => rw [e] at h; cases h
  | some z => rw [e] at h; cases h; exact ⟨z, rfl, rfl⟩
theorem v_ixH {a : Addr} : oIxL (.hd (.ref a)) (.int i) μ Φ = ((∃ es, μ a = some (.lst es) ∧ ∃ d, atI es i = some d ∧ Φ d μ) ∨ (∃ es, μ a = some (.frz es) ∧ ∃ d, atI es i = some d ∧ Φ d μ)) := propext (Iff.intro (by
  rintro ⟨es, k, d, hi, _, e, q⟩
  cases e
  cases hi with
  | own h => exact .inl ⟨es, h, d, q⟩
  | frz h => exact .inr ⟨es, h, d, q⟩) (by
  rintro (⟨es, h, d, q⟩ | ⟨es, h, d, q⟩)
  · exact ⟨es, i, d, .own h, rfl, rfl, q⟩
  · exact ⟨es, i, d, .frz h, rfl, rfl, q⟩))
theorem v_items {a : Addr} {P : List D → Prop} : (∃ es, Items μ (.hd (.ref a)) es ∧ P es) = ((∃ es, μ a = some (.lst es) ∧ P es) ∨ (∃ es, μ a = some (.frz es) ∧ P es)) := propext (Iff.intro (by
  rintro ⟨es, hi, q⟩
  cases hi with
  | own h => exact .inl ⟨es, h, q⟩
  | frz h => exact .inr ⟨es, h, q⟩) (by
  rintro (⟨es, h, q⟩ | ⟨es, h, q⟩)
  · exact ⟨es, .own h, q⟩
  · exact ⟨es, .frz h, q⟩))
theorem v_itemsT {P : List D → Prop} : (∃ es, Items μ (.tup ds) es ∧ P es) = P ds := propext ⟨fun ⟨es, h, q⟩ => by cases h; exact q, fun q => ⟨ds, .tup ds, q⟩⟩
theorem v_itemsL {P : List D → Prop} : (∃ es, Items μ (.lst ds) es ∧ P es) = P ds := propext ⟨fun ⟨es, h, q⟩ => by cases h; exact q, fun q => ⟨ds, .lst ds, q⟩⟩
theorem v_itemsS {ns : List Int} {P : List D → Prop} : (∃ es, Items μ (.scr ns) es ∧ P es) = P (ns.map .int) := propext ⟨fun ⟨es, h, q⟩ => by cases h; exact q, fun q => ⟨_, .scr ns, q⟩⟩
theorem v_len : cLen [x] μ Φ = ∃ es, Items μ x es ∧ Φ (.int es.length) μ := propext ⟨fun ⟨y, es, e, h, q⟩ => by cases e; exact ⟨es, h, q⟩, fun ⟨es, h, q⟩ => ⟨x, es, rfl, h, q⟩⟩
theorem v_tuple : cTuple [x] μ Φ = ∃ es, Items μ x es ∧ Φ (.tup es) μ := propext ⟨fun ⟨y, es, e, h, q⟩ => by cases e; exact ⟨es, h, q⟩, fun ⟨es, h, q⟩ => ⟨x, es, rfl, h, q⟩⟩
theorem v_list : cList [x] μ Φ = ∃ es, Items μ x es ∧ Φ (.lst es) μ := propext ⟨fun ⟨y, es, e, h, q⟩ => by cases e; exact ⟨es, h, q⟩, fun ⟨es, h, q⟩ => ⟨x, es, rfl, h, q⟩⟩
theorem v_listOwn : cListOwn [x] μ Φ = ∃ es, Items μ x es ∧ ∀ p, μ p = none → Φ (.hd (.ref p)) (sset μ p (.lst es)) := propext ⟨fun ⟨y, es, e, h, q⟩ => by cases e; exact ⟨es, h, q⟩, fun ⟨es, h, q⟩ => ⟨x, es, rfl, h, q⟩⟩
section
variable {T : String}
theorem i_tT : instB (.tup xs) "tuple" = some true := rfl
theorem i_tI : instB (.tup xs) "int" = some false := rfl
theorem i_tB : instB (.tup xs) "bool" = some false := rfl
theorem i_tS : instB (.tup xs) "str" = some false := rfl
theorem i_nT : instB .non "tuple" = some false := rfl
theorem i_nI : instB .non "int" = some false := rfl
theorem i_nB : instB .non "bool" = some false := rfl
theorem i_nS : instB .non "str" = some false := rfl
theorem i_iT : instB (.int i) "tuple" = some false := rfl
theorem i_iI : instB (.int i) "int" = some true := rfl
theorem i_iB : instB (.int i) "bool" = some false := rfl
theorem i_iS : instB (.int i) "str" = some false := rfl
theorem i_bT : instB (.bl b) "tuple" = some false := rfl
theorem i_bI : instB (.bl b) "int" = some true := rfl
theorem i_bB : instB (.bl b) "bool" = some true := rfl
theorem i_bS : instB (.bl b) "str" = some false := rfl
theorem i_sT : instB (.str s) "tuple" = some false := rfl
theorem i_sI : instB (.str s) "int" = some false := rfl
theorem i_sB : instB (.str s) "bool" = some false := rfl
theorem i_sS : instB (.str s) "str" = some true := rfl
end
theorem w_eqB {c : Bool} : oEq (.bl b) (.bl c) μ Φ = Φ (.bl (decide (b = c))) μ := w_someb
/-- the turns of a comprehension that changes nothing -/
def givenD (n : Nat) (f : Nat → Bool) (v : Nat → D) : List D := ((List.range n).filter f).map v
theorem givenD_yes {n : Nat} {f : Nat → Bool} {v : Nat → D} (h : f n = true) : givenD (n + 1) f v = givenD n f v ++ [v n] := by
  unfold givenD
  rw [List.range_succ, List.filter_append, List.map_append, List.filter_cons, if_pos h] <;> rfl
theorem givenD_no {n : Nat} {f : Nat → Bool} {v : Nat → D} (h : f n = false) : givenD (n + 1) f v = givenD n f v := by
  unfold givenD
  rw [List.range_succ, List.filter_append, List.map_append, List.filter_cons, if_neg (by rw [h]; decide)]
  exact List.append_nil _
theorem givenD_len (n : Nat) (f : Nat → Bool) (v : Nat → D) : (givenD n f v).length ≤ n := by
  unfold givenD
  rw [List.length_map]
  have h := List.length_filter_le f (List.range n)
  rw [List.length_range] at h
  exact h
theorem givenD_all (n : Nat) (v : Nat → D) : givenD n (fun _ => true) v = (List.range n).map v := by
  unfold givenD
  rw [List.filter_eq_self.mpr fun _ _ => rfl]
theorem lc_go {γ : DG} {θ : DT} {φ : DE} {δw : DEnv} {μ1 : Sto} {xs : List D} (f : Nat → Bool) (v : Nat → D) (hz : xs.length ≤ 100000)
    (hs : ∀ (i : Nat) (d : D) (μ2 : Sto) (X : DK) (Y : Sto → Prop), xs[i]? = some d → Sub μ1 μ2 → (f i = true → X (v i) μ2) → (f i = false → Y μ2) →
      γ d δw μ2 fun δ3 μ3 => θ Ψ δ3 μ3 fun b μ4 => (b = true → φ Ψ δ3 μ4 X) ∧ (b = false → Y μ4))
    (hd : Φ (.lst (givenD xs.length f v)) μ1) : ∀ p, μ1 p = none → ∃ W : Nat → Sto → Prop, W 0 (sset μ1 p (.lst [])) ∧
  (∀ i d μ2, xs[i]? = some d → W i μ2 → γ d δw μ2 fun δ3 μ3 => θ Ψ δ3 μ3 fun b μ4 =>
    (b = true → φ Ψ δ3 μ4 fun y μ5 => ∃ acc, μ5 p = some (.lst acc) ∧ acc.length ≤ 100000 ∧ W (i + 1) (sset μ5 p (.lst (acc ++ [y])))) ∧ (b = false → W (i + 1) μ4)) ∧
  ∀ μ2, W xs.length μ2 → ∃ acc, μ2 p = some (.lst acc) ∧ Φ (.lst acc) (sdel μ2 p) := fun p hp => by
  refine ⟨fun i μ' => μ' = sset μ1 p (.lst (givenD i f v)), rfl, fun i d μ2 hi e => ?_, fun μ2 e => ?_⟩
  · subst e
    have hl : i < xs.length := (List.getElem?_eq_some_iff.mp hi).1
    refine hs i d _ _ _ hi (.set Sub.refl hp) (fun hf => ⟨_, sset_same, ?_, ?_⟩) fun hf => ?_
    · have := givenD_len i f v; omega
    · show sset (sset μ1 p (.lst (givenD i f v))) p (.lst (givenD i f v ++ [v i])) = sset μ1 p (.lst (givenD (i + 1) f v))
      rw [sset_sset, givenD_yes hf]
    · show sset μ1 p (.lst (givenD i f v)) = sset μ1 p (.lst (givenD (i + 1) f v))
      rw [givenD_no hf]
  · subst e
    refine ⟨_, sset_same, ?_⟩
    rw [sdel_sset hp]
    exact hd
/-- the list of a comprehension -/
def LcG (γ : DG) (θ : DT) (φ : DE) (δw : DEnv) (Ψ : XP) (xs : List D) (μ1 : Sto) (Φ : DK) : Prop := ∀ p, μ1 p = none → ∃ W : Nat → Sto → Prop, W 0 (sset μ1 p (.lst [])) ∧
  (∀ i d μ2, xs[i]? = some d → W i μ2 → γ d δw μ2 fun δ3 μ3 => θ Ψ δ3 μ3 fun b μ4 =>
    (b = true → φ Ψ δ3 μ4 fun y μ5 => ∃ acc, μ5 p = some (.lst acc) ∧ acc.length ≤ 100000 ∧ W (i + 1) (sset μ5 p (.lst (acc ++ [y])))) ∧ (b = false → W (i + 1) μ4)) ∧
  ∀ μ2, W xs.length μ2 → ∃ acc, μ2 p = some (.lst acc) ∧ Φ (.lst acc) (sdel μ2 p)
theorem u_lc {ι : DI} {γ : DG} {θ : DT} {φ : DE} {vs : List Nat} : dLc ι γ θ φ vs Ψ δ μ Φ = ι Ψ δ μ fun xs μ1 => LcG γ θ φ (dwipe δ vs) Ψ xs μ1 Φ := rfl
theorem lcG_pure {γ : DG} {θ : DT} {φ : DE} {δw : DEnv} {μ1 : Sto} {xs : List D} (f : Nat → Bool) (v : Nat → D) (hz : xs.length ≤ 100000)
    (hs : ∀ (i : Nat) (d : D) (μ2 : Sto) (X : DK) (Y : Sto → Prop), xs[i]? = some d → Sub μ1 μ2 → (f i = true → X (v i) μ2) → (f i = false → Y μ2) →
      γ d δw μ2 fun δ3 μ3 => θ Ψ δ3 μ3 fun b μ4 => (b = true → φ Ψ δ3 μ4 X) ∧ (b = false → Y μ4))
    (hd : Φ (.lst (givenD xs.length f v)) μ1) : LcG γ θ φ δw Ψ xs μ1 Φ := lc_go f v hz hs hd
/-- each item gives one -/
theorem lcG_map {γ : DG} {φ : DE} {δw : DEnv} {μ1 : Sto} {xs : List D} (v : Nat → D) (hz : xs.length ≤ 100000)
    (hs : ∀ (i : Nat) (d : D) (μ2 : Sto) (X : DK), xs[i]? = some d → Sub μ1 μ2 → X (v i) μ2 → γ d δw μ2 fun δ3 μ3 => φ Ψ δ3 μ3 X)
    (hd : Φ (.lst ((List.range xs.length).map v)) μ1) (mono : ∀ d δ μ (P Q : DEnv → Sto → Prop), (∀ a b, P a b → Q a b) → γ d δ μ P → γ d δ μ Q) : LcG γ dYes φ δw Ψ xs μ1 Φ := by
  refine lcG_pure (fun _ => true) v hz (fun i d μ2 X Y hi hsub hx hy => ?_) (by rw [givenD_all]; exact hd)
  exact mono _ _ _ _ _ (fun δ3 μ3 h => ⟨fun _ => h, fun z => nomatch z⟩) (hs i d μ2 X hi hsub (hx rfl))
theorem lcG_mapN {n : Nat} {φ : DE} {δw : DEnv} {μ1 : Sto} {xs : List D} (v : Nat → D) (hz : xs.length ≤ 100000)
    (hs : ∀ (i : Nat) (d : D) (μ2 : Sto) (X : DK), xs[i]? = some d → Sub μ1 μ2 → X (v i) μ2 → φ Ψ (δw.set n (some d)) μ2 X)
    (hd : Φ (.lst ((List.range xs.length).map v)) μ1) : LcG (eName n) dYes φ δw Ψ xs μ1 Φ :=
  lcG_map v hz hs hd fun d δ μ P Q h q => h _ _ q
theorem u_for {ι : DI} {γ : DG} {ω : DSt} : dFor ι γ ω Ψ Δ δ μ = ι Ψ δ μ fun xs μ1 => ∃ W : Nat → DEnv → Sto → Prop, W 0 δ μ1 ∧
  (∀ i d δ' μ', xs[i]? = some d → W i δ' μ' → γ d δ' μ' fun δ2 μ2 => ω Ψ { Δ with nx := W (i + 1), ct := W (i + 1), bk := Δ.nx } δ2 μ2) ∧ ∀ δ' μ', W xs.length δ' μ' → Δ.nx δ' μ' := rfl
section
variable {φ φ' : DE} {Ls : List D → Sto → Prop}
theorem u_iT : iSeqT φ Ψ δ μ Ls = φ Ψ δ μ fun x μ1 => ∃ ds, x = .tup ds ∧ Ls ds μ1 := rfl
theorem u_iL : iSeqL φ Ψ δ μ Ls = φ Ψ δ μ fun x μ1 => ∃ ds, x = .lst ds ∧ Ls ds μ1 := rfl
theorem u_iR1 : iR1 φ Ψ δ μ Ls = φ Ψ δ μ fun x μ1 => ∃ j, x = .int j ∧ j < 4611686018427387904 ∧ -4611686018427387904 ≤ j ∧ Ls (rngD 0 j.toNat) μ1 := rfl
theorem u_iR2 : iR2 φ φ' Ψ δ μ Ls = φ Ψ δ μ fun x μ1 => φ' Ψ δ μ1 fun y μ2 => ∃ i j, x = .int i ∧ y = .int j ∧ (-4611686018427387904 ≤ i ∧ i < 4611686018427387904 ∧ -4611686018427387904 ≤ j ∧ j < 4611686018427387904) ∧ Ls (rngD i (j - i).toNat) μ2 := rfl
theorem u_iZ : iZipT φ φ' Ψ δ μ Ls = φ Ψ δ μ fun x μ1 => φ' Ψ δ μ1 fun y μ2 => ∃ xs ys, x = .tup xs ∧ y = .tup ys ∧ Ls ((xs.zip ys).map fun p => .pr [p.1, p.2]) μ2 := rfl
theorem u_iS : iText φ Ψ δ μ Ls = φ Ψ δ μ fun x μ1 => ∃ s, x = .str s ∧ Ls (s.cps.toList.map fun c => .str ⟨#[c]⟩) μ1 := rfl
end
theorem w_lstE {P : List D → Prop} : (∃ es, D.lst ds = .lst es ∧ P es) = P ds := propext ⟨fun ⟨c, e, q⟩ => by cases e; exact q, fun q => ⟨ds, rfl, q⟩⟩
theorem rngD_get {lo : Int} {n i : Nat} {d : D} (h : (rngD lo n)[i]? = some d) : i < n ∧ d = .int (lo + (i : Int)) := by
  have hl := (List.getElem?_eq_some_iff.mp h).1
  rw [rngD_len] at hl
  rw [rngD_at hl] at h
  cases h
  exact ⟨hl, rfl⟩
theorem w_allB {P : List Bool} (e : ds = P.map .bl) (h : Φ (.bl (P.all id)) μ) : cAll [.lst ds] μ Φ := ⟨P, by rw [e], h⟩
/-- one statement, what follows named -/
theorem q_seq {ω ζ : DSt} (h : ∀ nx, nx = ζ Ψ Δ → ω Ψ ⟨nx, Δ.rt, Δ.bk, Δ.ct⟩ δ μ) : dSeq ω ζ Ψ Δ δ μ := h _ rfl
theorem atI_n {α : Type} {xs : List α} {j : Nat} {v : α} (h : xs[j]? = some v) : atI xs (j : Int) = some v := atI_nat h
theorem ret_same {Φ : DK} {d : D} {μ : Sto} (h : Φ d μ) : ∃ μ2, Sub μ2 μ ∧ Φ d μ2 := ⟨μ, Sub.refl, h⟩
theorem mulx (a b : Nat) (h1 : i.natAbs < 2 ^ a) (h2 : j.natAbs < 2 ^ b) (h : a + b ≤ 134217728) : CMulX i j := mulx_ok h1 h2 h
end
end DW
set_option Elab.async false
set_option linter.all false
set_option maxRecDepth 100000
set_option maxHeartbeats 4000000
namespace DW
open PySem PySem.Spec PyProof.Rows L2 HT
def dRevT (φ : DE) : DE := fun Ψ δ μ Φ => φ Ψ δ μ fun x μ1 => ∃ ds, x = .tup ds ∧ Φ (.tup ds.reverse) μ1
theorem tuple_mul1 (l : Addr) (items : Array Value) (n : Nat) (sl : Array (Option Value)) (dd : Option Addr) (x : Int) (u : Tok) (c0 : (decide (x < -(2 ^ 63)) || decide (x ≥ 2 ^ 63)) = false) (c1 : (items.isEmpty || x == 1) = true) :
    Meets (Builtin.«tuple.__mul__» ⟨[.ref l, .int x u], []⟩) (fun _ R s => s.heap.get? l = some { cls := .type "tuple", dict := dd, data := .seq items n, slots := sl } ∧ R (.ok (.ret (Value.ref l))) s) :=
  .of_wp fun prog w A R s h => by
    obtain ⟨hp, g, d, tk, os⟩ := s
    obtain ⟨hl, h⟩ := h
    have f1 := AutoSeq1.idx_int
    wp_walk using wpAny_loadPart' hl
    repeat (first
      | (refine wpAny_ite_false (decide_eq_false (by rw [c0]; exact Bool.false_ne_true)) ?_; wp_walk using wpAny_loadPart' hl)
      | (refine wpAny_ite_true (decide_eq_true (by rw [c1])) ?_; wp_walk using wpAny_loadPart' hl))
    exact ⟨_, rfl, h⟩
theorem tuple_mul0 (l : Addr) (items : Array Value) (n : Nat) (sl : Array (Option Value)) (dd : Option Addr) (x : Int) (u : Tok) (c0 : (decide (x < -(2 ^ 63)) || decide (x ≥ 2 ^ 63)) = false) (c1 : (items.isEmpty || x == 1) = false) (c2 : (decide (x ≤ 0) || items.isEmpty) = true) :
    Meets (Builtin.«tuple.__mul__» ⟨[.ref l, .int x u], []⟩) (fun _ R s => s.heap.get? l = some { cls := .type "tuple", dict := dd, data := .seq items n, slots := sl } ∧
      R (.ok (.ret (Value.ref s.heap.objs.size))) { s with heap := s.heap.push { cls := Value.type "tuple", data := Data.seq #[] }, toks := s.toks }) :=
  .of_wp fun prog w A R s h => by
    obtain ⟨hp, g, d, tk, os⟩ := s
    obtain ⟨hl, h⟩ := h
    have f1 := AutoSeq1.idx_int
    wp_walk using wpAny_loadPart' hl
    repeat (first
      | (refine wpAny_ite_false (decide_eq_false (by rw [c0]; exact Bool.false_ne_true)) ?_; wp_walk using wpAny_loadPart' hl)
      | (refine wpAny_ite_false (decide_eq_false (by rw [c1]; exact Bool.false_ne_true)) ?_; wp_walk using wpAny_loadPart' hl)
      | (refine wpAny_ite_true (decide_eq_true (by rw [c2])) ?_; wp_walk using wpAny_loadPart' hl))
    exact ⟨_, rfl, h⟩
def rRepBig (K : Fg) : R2 := fun x y H Q => ∃ l k xs, x = .ref l ∧ y = .int k ∧ SqT K H l xs ∧ xs ≠ [] ∧ 2 ≤ k ∧ k ≤ 1000 ∧ xs.length ≤ 1000 ∧ NewT H (List.replicate k.toNat xs).flatten Q
theorem op_repBig {X : Cx} : OpR X (binaryOp .Mult) (rRepBig X.K) := by
  intro pins s σ H x y v u Q I rx ry h
  obtain ⟨l, k, xs, rfl, rfl, hT, hne, g2, g3, hz, q⟩ := h
  cases rx
  obtain ⟨t, rfl⟩ := ry
  obtain ⟨its, r, ⟨⟨cls, dd, data, sl⟩, ho, hc, n, hd⟩, hs⟩ := I.tuple hT
  simp only at hc hd
  subst hc hd
  have many : its.length = xs.length := r.length.symm
  have some' : its.toArray.isEmpty = false := by
    cases its with
    | nil => exact absurd (List.eq_nil_of_length_eq_zero (l := xs) (by simpa using many.symm)) hne
    | cons a b => rfl
  have wide : (its.toArray.size : Int) * k ≤ 1000000 := by
    have z : ((xs.length : Nat) : Int) * k ≤ 1000 * k := Int.mul_le_mul_of_nonneg_right (by omega) (by omega)
    rw [List.size_toArray, many]; omega
  have fl : (List.replicate k.toNat xs).flatten.length ≤ sizeLine := by
    have z : k.toNat * xs.length ≤ 1000 * 1000 := Nat.mul_le_mul (by omega) hz
    rw [PyProof.Rows.lm_len_rep_flat, sizeLine_eq]; omega
  have fl2 : (List.replicate k.toNat its).flatten.length ≤ sizeLine := by rw [PyProof.Rows.lm_len_rep_flat, many, ← PyProof.Rows.lm_len_rep_flat]; exact fl
  have z0 : (decide (k < -(2 ^ 63)) || decide (k ≥ 2 ^ 63)) = false := by rw [decide_eq_false (by omega), decide_eq_false (by omega)]; rfl
  have z1 : (its.toArray.isEmpty || k == 1) = false := by rw [some', Bool.false_or]; exact beq_eq_false_iff_ne.mpr (by omega)
  have z2 : (decide (k ≤ 0) || its.toArray.isEmpty) = false := by rw [some', Bool.or_false]; exact decide_eq_false (by omega)
  have z4 : Builtin.Tuple.tupleTooMany ((its.toArray.size : Int) * k) = false := by unfold Builtin.Tuple.tupleTooMany; rw [sizeLine_eq]; exact decide_eq_false (by omega)
  have mul := tuple_mulW l its.toArray n dd sl k t z0 z1 z2 (by omega) z4 (by rw [size_rep, List.size_toArray]; exact fl2)
  have one : s.TypeIs (.ref l) "tuple" := ⟨_, ho, rfl⟩
  refine wpAny_binaryOp_repeat_ref (T := "tuple") (U := "int") (by decide) one (fun s' => typeIs_int s' k t) noFill_tuple_mul F.fills_int_mul F.slot_int_rmul repeat_tuple F.slot_int_index.lookup ?_
  refine call_meets F.slot_int_rmul (typeIs_int s k t) F.entry_int_rmul (F.args_int_rmul_2 _ _) (int_rmul_tuple k t l its.toArray n dd sl) ⟨ho, rfl, one, ?_⟩
  refine call_meets F.slot_tuple_mul one F.entry_tuple_mul (F.args_tuple_mul_2 _ _) mul ⟨ho, ?_⟩
  rw [size_rep]
  exact new_tup I fl (r.rep k.toNat) q
def rRepA (K : Fg) : R2 := fun x y H Q => ∃ l k xs, x = .ref l ∧ y = .int k ∧ SqT K H l xs ∧ k ≤ 1000 ∧ -1000000 ≤ k ∧ xs.length ≤ 1000 ∧ (xs = [] ∨ k = 1 → Q (.ref l) H) ∧ (xs ≠ [] → k ≤ 0 → NewT H [] Q) ∧
  (xs ≠ [] → 2 ≤ k → NewT H (List.replicate k.toNat xs).flatten Q)
theorem op_repA {X : Cx} : OpR X (binaryOp .Mult) (rRepA X.K) := by
  intro pins s σ H x y v u Q I rx ry h
  obtain ⟨l, k, xs, ex, ey, hT, h1, h2, hz, q1, q2, q3⟩ := h
  by_cases hbig : xs ≠ [] ∧ 2 ≤ k
  · exact op_repBig pins s σ H _ _ v u Q I rx ry ⟨l, k, xs, ex, ey, hT, hbig.1, hbig.2, h1, hz, q3 hbig.1 hbig.2⟩
  · subst ex ey
    cases rx
    obtain ⟨t, rfl⟩ := ry
    obtain ⟨its, r, ⟨⟨cls, dd, data, sl⟩, ho, hc, n, hd⟩, hs⟩ := I.tuple hT
    simp only at hc hd
    subst hc hd
    have hle : its.length = xs.length := r.length.symm
    have c0 : (decide (k < -(2 ^ 63)) || decide (k ≥ 2 ^ 63)) = false := by
      rw [decide_eq_false (by omega), decide_eq_false (by omega)] <;> rfl
    have hemp : its.toArray.isEmpty = decide (xs = []) := by
      cases its with
      | nil => rw [List.eq_nil_of_length_eq_zero (l := xs) (by simpa using hle.symm)]; rfl
      | cons a b =>
        have : xs ≠ [] := fun z => by rw [z] at hle; simp at hle
        rw [decide_eq_false this]; rfl
    by_cases hs1 : xs = [] ∨ k = 1
    · have c1 : (its.toArray.isEmpty || k == 1) = true := by
        rw [hemp]
        rcases hs1 with z | z
        · rw [decide_eq_true z]; rfl
        · rw [z]; simp
      refine wpAny_binaryOp_repeat_ref (T := "tuple") (U := "int") (by decide) ⟨_, ho, rfl⟩ (fun s' => typeIs_int s' k t) noFill_tuple_mul F.fills_int_mul F.slot_int_rmul repeat_tuple F.slot_int_index.lookup
        (call_meets F.slot_int_rmul (typeIs_int s k t) F.entry_int_rmul (F.args_int_rmul_2 _ _) (int_rmul_tuple k t l its.toArray n dd sl)
          ⟨ho, rfl, ⟨_, ho, rfl⟩, call_meets F.slot_tuple_mul ⟨_, ho, rfl⟩ F.entry_tuple_mul (F.args_tuple_mul_2 _ _) (tuple_mul1 l its.toArray n sl dd k t c0 c1) ⟨ho, ?_⟩⟩)
      exact ⟨.ref l, H, I, rfl, q1 hs1⟩
    · have hx : xs ≠ [] := fun z => hs1 (.inl z)
      have hk : k ≤ 0 := by
        have : ¬ 2 ≤ k := fun z => hbig ⟨hx, z⟩
        have : k ≠ 1 := fun z => hs1 (.inr z)
        omega
      have c1 : (its.toArray.isEmpty || k == 1) = false := by
        rw [hemp, decide_eq_false hx, Bool.false_or]
        exact beq_eq_false_iff_ne.mpr (by omega)
      have c2 : (decide (k ≤ 0) || its.toArray.isEmpty) = true := by rw [decide_eq_true hk]; rfl
      refine wpAny_binaryOp_repeat_ref (T := "tuple") (U := "int") (by decide) ⟨_, ho, rfl⟩ (fun s' => typeIs_int s' k t) noFill_tuple_mul F.fills_int_mul F.slot_int_rmul repeat_tuple F.slot_int_index.lookup
        (call_meets F.slot_int_rmul (typeIs_int s k t) F.entry_int_rmul (F.args_int_rmul_2 _ _) (int_rmul_tuple k t l its.toArray n dd sl)
          ⟨ho, rfl, ⟨_, ho, rfl⟩, call_meets F.slot_tuple_mul ⟨_, ho, rfl⟩ F.entry_tuple_mul (F.args_tuple_mul_2 _ _) (tuple_mul0 l its.toArray n sl dd k t c0 c1 c2) ⟨ho, ?_⟩⟩)
      exact new_tup (its := []) I (by decide) .nil (q2 hx hk)
def oRepT : DO := fun x y μ Φ => ∃ ds k, x = .tup ds ∧ y = .int k ∧ k ≤ 1000 ∧ -1000000 ≤ k ∧ ds.length ≤ 1000 ∧ Φ (.tup (List.replicate k.toNat ds).flatten) μ
theorem roRepT {K : Fg} : RO K (rRepA K) oRepT := fun H μ v w d e Φ Q s0 r1 r2 h k => by
  obtain ⟨ds, i, rfl, rfl, h1, h2, h3, q⟩ := h
  obtain ⟨p, vs, rfl, t1, t2⟩ := Rep.tup_inv r1
  obtain rfl := Rep.int_inv r2
  have hl := t2.length
  have nil : vs = [] → ds = [] := fun z => by rw [z] at hl; exact List.eq_nil_of_length_eq_zero hl.symm
  have rnil : ∀ n, (List.replicate n ([] : List D)).flatten = [] := fun n => by induction n <;> simp_all [List.replicate_succ]
  refine ⟨p, i, vs, rfl, rfl, t1.sq, h1, h2, by omega, fun z => ?_, fun z z2 q0 o ho hc hp => ?_, fun z z2 q0 o ho hc hp => ?_⟩
  · refine k _ H _ μ .refl s0 ?_ q
    have e : (List.replicate i.toNat ds).flatten = ds := by
      rcases z with z | z
      · rw [nil z, rnil]
      · subst z; simp
    rw [e]
    exact r1
  · refine k _ _ _ μ (.new hp) (s0.new hp) ?_ q
    have e : i.toNat = 0 := by omega
    rw [e]
    exact rep_tupN s0 hp ho hc .nil
  · exact k _ _ _ μ (.new hp) (s0.new hp) (rep_tupN s0 hp ho hc (reps_rep t2 _)) q
end DW
set_option Elab.async false
set_option linter.all false
set_option maxRecDepth 100000
set_option maxHeartbeats 4000000
namespace DW
open PySem PySem.Spec PyProof.Rows L2 GenW
end DW
set_option Elab.async false
set_option linter.all false
set_option maxRecDepth 100000
set_option maxHeartbeats 4000000
namespace DW
open PySem PySem.Spec PyProof.Rows L2 HotX
def kitD (K : Fg) : XD → V → Option Bool
  | .mk C none, .ref T => PySem.W.kitOne K (.ref C) (.ref T)
  | .mk C none, .ty T => PySem.W.kitOne K (.ref C) (.type T)
  | _, _ => none
def excOk (K : Fg) : XD → Prop
  | .mk C none => L2.ExcC K C
  | _ => False
def cIsX (K : Fg) (a : Addr) (x : XD) : DC := fun xs μ Φ => ∃ c b, xs = [.hd (.ref a), .hd c] ∧ kitD K x c = some b ∧ excOk K x ∧ Φ (.bl b) μ
section
variable {K : Fg} {B : Bx K}
theorem sCallSW {W : WX} {c : Con} {tas : TA} {ψ : DA} (hW : B.W = W) (a : SA B tas ψ) : SE B (tCallS (spOf K c) (WE W) tas) (dCallS c ψ) := by
  subst hW; exact sCallS a
theorem sRaise0W {W : WX} {C : Addr} (hW : B.W = W) : SS B (fun _ σ H => (fun (_ : L2.St) (H : Hp) (Q : XK) => Q (.ref C) none H) σ H fun cls d H' => W cls d σ H') (dRaise0 C) := by
  subst hW; exact sRaise0
def dTryAs (K : Fg) (c : Value) (i : Nat) (ω : DSt) (ζ : Addr → XD → DSt) : DSt := fun Ψ Δ δ μ => ω (fun x δ' μ' => ∃ b, (match x with | .mk D _ => PySem.W.exmOne K (.ref D) c) = some b ∧
  (b = true → ∀ a, μ' a = none → ζ a x Ψ ⟨fun δ2 μ2 => Δ.nx (δ2.set i none) μ2, Δ.rt, fun δ2 μ2 => Δ.bk (δ2.set i none) μ2, fun δ2 μ2 => Δ.ct (δ2.set i none) μ2⟩ (δ'.set i (some (.hd (.ref a)))) μ') ∧ (b = false → Ψ x δ' μ')) Δ δ μ
theorem sTryAs {c : Value} {i : Nat} {W : WX} {tb : WX → TS} {ts : Addr → Value → Option Addr → TS} {ω : DSt} {ζ : Addr → XD → DSt} (hW : B.W = W) (hb : ∀ (W' : WX) (B' : Bx K), B'.W = W' → SS B' (tb W') ω)
    (hs : ∀ (a : Addr) (cls : Value) (dd : Option Addr) (x : XD) (B' : Bx K), B'.W = W → RepX K B'.μ0 B'.H0 cls dd x → SS B' (ts a cls dd) (ζ a x)) :
    SS B (fun D σ H => tb (wAs K c i ts W D) D σ H) (dTryAs K c i ω ζ) := fun D Δ σ H δ μ E S q => by
  subst hW
  refine hb _ ⟨B.H0, B.μ0, wAs K c i ts B.W D, _, fun cls dd σ1 H1 x δ1 μ1 S1 rx q1 => ?_⟩ rfl D Δ σ H δ μ ⟨E.nx, E.rt, E.bk, E.ct⟩ S q
  obtain ⟨b, e1, hy, hn⟩ := q1
  have ec : ∃ C fs, x = .mk C fs ∧ cls = .ref C := by
    obtain ⟨C, fs⟩ := x
    cases fs with
    | none => exact ⟨C, _, rfl, rx.1⟩
    | some f => exact ⟨C, _, rfl, rx.1⟩
  obtain ⟨C, fs, rfl, rfl⟩ := ec
  refine ⟨b, e1, fun hb1 a ha => ?_, fun hb1 => B.hW _ _ σ1 H1 _ δ1 μ1 S1 rx (hn hb1)⟩
  have hfr := S1.sto.fresh ha
  refine hs a (.ref C) dd (.mk C fs) (B.re H1 μ1 S1.evo) rfl rx _ _ _ H1 _ μ1 ⟨fun σ2 H2 δ2 μ2 S2 q2 => ?_, fun v H2 d μ2 σ2 δ2 S2 r2 q2 => ?_, fun σ2 H2 δ2 μ2 S2 q2 => ?_, fun σ2 H2 δ2 μ2 S2 q2 => ?_⟩ ⟨.refl, S1.sto, S1.env.set (.hd _ .nil) i⟩ (hy hb1 a hfr)
  · exact E.nx _ H2 _ μ2 ⟨S1.evo.trans S2.evo, S2.sto, S2.env.unset i⟩ q2
  · exact E.rt v H2 d μ2 σ2 δ2 ⟨S1.evo.trans S2.evo, S2.sto, S2.env⟩ r2 q2
  · exact E.bk _ H2 _ μ2 ⟨S1.evo.trans S2.evo, S2.sto, S2.env.unset i⟩ q2
  · exact E.ct _ H2 _ μ2 ⟨S1.evo.trans S2.evo, S2.sto, S2.env.unset i⟩ q2
abbrev ConG := List D → Sto → (List D → Sto → Prop) → Prop
def dTupG (c : ConG) (ψ : DA) : DE := fun Ψ δ μ Φ => ψ Ψ δ μ fun xs μ1 => c xs μ1 fun es μ2 => Φ (.tup es) μ2
end
/-- what is wanted behind a statement of a generator -/
structure GDs where
  nx : List DW.D → DEnv → Sto → Prop
  rt : List DW.D → DW.D → Sto → Prop
  bk : List DW.D → DEnv → Sto → Prop
  ct : List DW.D → DEnv → Sto → Prop
abbrev DGn := XP → GDs → List DW.D → DEnv → Sto → Prop
section
variable {K : Fg} {B : Bx K}
def dGPlain (ω : DSt) : DGn := fun Ψ Δ es δ μ => ω Ψ ⟨Δ.nx es, Δ.rt es, Δ.bk es, Δ.ct es⟩ δ μ
def dGThen (ω ζ : DGn) : DGn := fun Ψ Δ es δ μ => ω Ψ ⟨fun es' δ' μ' => ζ Ψ Δ es' δ' μ', Δ.rt, Δ.bk, Δ.ct⟩ es δ μ
def dGNil : DGn := fun _ Δ es δ μ => Δ.nx es δ μ
def dYield (φ : DE) : DGn := fun Ψ Δ es δ μ => es.length ≤ 100000 ∧ φ Ψ δ μ fun x μ1 => Δ.nx (es ++ [x]) δ μ1
def dGWhile (θ : DT) (ω : DGn) : DGn := fun Ψ Δ es δ μ => ∃ W : Nat → List DW.D → DEnv → Sto → Prop, (∃ m, W m es δ μ) ∧ ∀ m es δ μ, W m es δ μ → θ Ψ δ μ fun b μ1 =>
  (b = true → ω Ψ ⟨fun es' δ' μ' => ∃ m', m' < m ∧ W m' es' δ' μ', Δ.rt, Δ.nx, fun es' δ' μ' => ∃ m', m' < m ∧ W m' es' δ' μ'⟩ es δ μ1) ∧ (b = false → Δ.nx es δ μ1)
end
theorem passN {X : Cx} : Passes (L2N.CX X.prog X.w) X E0 := fun _ _ _ _ _ _ _ h => by
  obtain ⟨_, _, _, _, _, _, _, _, _, _, _, _, z⟩ := h
  exact z.elim
/-- THE RULE for a def, whatever the air -/
theorem def_okC {CX : CXT} {P : Program} {w : World} {K : Fg} {mg : Str → Option Value} {base : Heap} {x qual : Str} {st : Stmt} {f : Addr} {fd : FuncData} {N ps : List Str} {k : Nat} {c : Con} (F : Fun K x qual st f fd) (Sc : FnScope N ps (defScope st)) (φ : DSt)
    (hl : ∀ ds μ Φ Ψ, c ds μ Φ Ψ → ds.length = ps.length)
    (hb : ∀ (cdv : Value) (A : Around) (outer : List Env) (s : Shared) (H : Hp) (E : XK) (B : Bx K), B.W = (fun cls d _ H => E cls d H) → Room k (A.deeper (PyProof.Rows.envOfC qual (defScope st) s.heap.objs.size f cdv)) →
      ∃ t, PSs (cxOf CX P w K mg base N qual (defScope st) f cdv A outer s H E) (defBody st) t ∧ SS B t φ)
    (hv : ∀ ds μ Φ Ψ, c ds μ Φ Ψ → φ (goalX Ψ) (goalE Φ) (dstart N ds) μ) : FnOk P w K mg base CX (k + 1) f fd ps (spOf K c) := by
  obtain ⟨oc, od, kV, doc, pm, an, cdv, ct, osl, rfl, lk, hcd⟩ := F.ex
  refine fn_of lk hcd Sc (fun vs H Q E h => ?_) (fun A outer s H vs Q E hr h => ?_)
  · obtain ⟨μ, ds, Φ, Ψ, _, r, hc, _⟩ := h
    rw [r.length]
    exact hl ds μ Φ Ψ hc
  · obtain ⟨μ, ds, Φ, Ψ, s0, r, hc, hq, hx⟩ := h
    let B : Bx K := ⟨H, μ, fun cls d _ H => E cls d H, goalX Ψ, fun cls dd σ H' x δ μ' S rx ⟨μ2, hs, q⟩ => hx cls dd H' x μ2 (S.evo.trans hs.evo) (hs.sto S.sto) (rx.mono hs.evo) q⟩
    obtain ⟨t, ht, hs⟩ := hb cdv A outer s H E B rfl hr
    refine ⟨t, ht, hs { nx := fun _ H' => Q .non H', rt := Q } (goalE Φ) (L2.start N vs) H (dstart N ds) μ ⟨fun σ H' δ μ' S ⟨μ2, h2, q⟩ => ?_, fun v H' d μ' σ δ S rv ⟨μ2, h2, q⟩ => ?_, fun _ _ _ _ _ z => z, fun _ _ _ _ _ z => z⟩ ⟨.refl, s0, env_start r⟩ (hv ds μ Φ Ψ hc)⟩
    · exact hq .non H' .non μ2 (S.evo.trans h2.evo) (h2.sto S.sto) (.non .nil) q
    · exact hq v H' d μ2 (S.evo.trans h2.evo) (h2.sto S.sto) (rv.mono h2.evo) q
section
variable {K : Fg} {φ : DE} {ψ : DA} {Ψ : XP} {δ : DEnv} {μ : Sto} {Φ : DK} {ω ζ : DSt} {Δ : DEnds} {ds es : List DW.D} {k : Int} {Γ : GDs} {α β : DGn} {θ : DT} {c : ConG} {cv : Value} {i : Nat} {ξ : Addr → XD → DSt}
theorem u_revT : dRevT φ Ψ δ μ Φ = φ Ψ δ μ fun x μ1 => ∃ ds, x = .tup ds ∧ Φ (.tup ds.reverse) μ1 := rfl
theorem w_repT : oRepT (.tup ds) (.int k) μ Φ = (k ≤ 1000 ∧ -1000000 ≤ k ∧ ds.length ≤ 1000 ∧ Φ (.tup (List.replicate k.toNat ds).flatten) μ) := propext ⟨fun ⟨a, b, e1, e2, q⟩ => by cases e1; cases e2; exact q, fun q => ⟨_, _, rfl, rfl, q⟩⟩
theorem u_tupG : dTupG c ψ Ψ δ μ Φ = ψ Ψ δ μ fun xs μ1 => c xs μ1 fun es μ2 => Φ (.tup es) μ2 := rfl
theorem u_try : dTryAs K cv i ω ξ Ψ Δ δ μ = ω (fun x δ' μ' => ∃ b, (match x with | .mk D _ => PySem.W.exmOne K (.ref D) cv) = some b ∧
  (b = true → ∀ a, μ' a = none → ξ a x Ψ ⟨fun δ2 μ2 => Δ.nx (δ2.set i none) μ2, Δ.rt, fun δ2 μ2 => Δ.bk (δ2.set i none) μ2, fun δ2 μ2 => Δ.ct (δ2.set i none) μ2⟩ (δ'.set i (some (.hd (.ref a)))) μ') ∧ (b = false → Ψ x δ' μ')) Δ δ μ := rfl
theorem u_gPlain : dGPlain ω Ψ Γ es δ μ = ω Ψ ⟨Γ.nx es, Γ.rt es, Γ.bk es, Γ.ct es⟩ δ μ := rfl
theorem u_gThen : dGThen α β Ψ Γ es δ μ = α Ψ ⟨fun es' δ' μ' => β Ψ Γ es' δ' μ', Γ.rt, Γ.bk, Γ.ct⟩ es δ μ := rfl
theorem u_gNil : dGNil Ψ Γ es δ μ = Γ.nx es δ μ := rfl
theorem u_yield : dYield φ Ψ Γ es δ μ = (es.length ≤ 100000 ∧ φ Ψ δ μ fun x μ1 => Γ.nx (es ++ [x]) δ μ1) := rfl
theorem u_gWhile : dGWhile θ α Ψ Γ es δ μ = ∃ W : Nat → List DW.D → DEnv → Sto → Prop, (∃ m, W m es δ μ) ∧ ∀ m es δ μ, W m es δ μ → θ Ψ δ μ fun b μ1 =>
  (b = true → α Ψ ⟨fun es' δ' μ' => ∃ m', m' < m ∧ W m' es' δ' μ', Γ.rt, Γ.nx, fun es' δ' μ' => ∃ m', m' < m ∧ W m' es' δ' μ'⟩ es δ μ1) ∧ (b = false → Γ.nx es δ μ1) := rfl
theorem u_while : dWhile θ ω Ψ Δ δ μ = ∃ W : Nat → DEnv → Sto → Prop, (∃ m, W m δ μ) ∧ ∀ m δ μ, W m δ μ → θ Ψ δ μ fun b μ1 =>
  (b = true → ω Ψ { Δ with nx := fun δ' μ' => ∃ m', m' < m ∧ W m' δ' μ', ct := fun δ' μ' => ∃ m', m' < m ∧ W m' δ' μ', bk := Δ.nx } δ μ1) ∧ (b = false → Δ.nx δ μ1) := rfl
theorem u_isX {a : Addr} {x : XD} {c : V} : cIsX K a x [.hd (.ref a), .hd c] μ Φ = ∃ b, kitD K x c = some b ∧ excOk K x ∧ Φ (.bl b) μ := propext ⟨fun ⟨c', b, e, q⟩ => by cases e; exact ⟨b, q⟩, fun ⟨b, q⟩ => ⟨c, b, rfl, q⟩⟩
theorem u_kitR {C T : Addr} : kitD K (.mk C none) (.ref T) = PySem.W.kitOne K (.ref C) (.ref T) := rfl
theorem u_kitT {C : Addr} {T : String} : kitD K (.mk C none) (.ty T) = PySem.W.kitOne K (.ref C) (.type T) := rfl
theorem u_excOk {C : Addr} : excOk K (.mk C none) = L2.ExcC K C := rfl
theorem w_zipE {P : List DW.D → List DW.D → Prop} : (∃ xs ys, D.tup ds = D.tup xs ∧ D.tup es = D.tup ys ∧ P xs ys) = P ds es := propext ⟨fun ⟨a, b, e1, e2, q⟩ => by cases e1; cases e2; exact q, fun q => ⟨_, _, rfl, rfl, q⟩⟩
theorem u_goalX {G : XD → Sto → Prop} {x : XD} : goalX G x δ μ = ∃ μ2, Sub μ2 μ ∧ G x μ2 := rfl
theorem cut_to (p : Nat) : cutD ds none (some (p : Int)) = ds.take p := by
  unfold cutD
  show (ds.drop 0).take (min (p : Int).toNat ds.length - 0) = _
  rw [List.drop_zero, Nat.sub_zero, Int.toNat_natCast]
  by_cases h : p ≤ ds.length
  · rw [Nat.min_eq_left h]
  · rw [Nat.min_eq_right (by omega), List.take_length, List.take_of_length_le (by omega)]
theorem cut_from (p : Nat) : cutD ds (some (p : Int)) none = ds.drop p := by
  unfold cutD
  show (ds.drop (min (p : Int).toNat ds.length)).take (ds.length - min (p : Int).toNat ds.length) = _
  rw [Int.toNat_natCast]
  by_cases h : p ≤ ds.length
  · rw [Nat.min_eq_left h, List.take_of_length_le (by rw [List.length_drop]; omega)]
  · rw [Nat.min_eq_right (by omega), List.drop_length, List.take_nil, List.drop_eq_nil_of_le (by omega)]
theorem cut_from1 (p : Nat) : cutD ds (some ((p : Int) + 1)) none = ds.drop (p + 1) := cut_from (p + 1)
end
end DW
set_option Elab.async false
set_option linter.all false
set_option maxRecDepth 100000
namespace LW
open PySem PySem.Spec L2 DW
def prodI (ws : List Int) : Int := ws.foldl (· * ·) 1
theorem prodI_snoc (ws : List Int) (z : Int) : prodI (ws ++ [z]) = prodI ws * z := by unfold prodI; rw [List.foldl_append]; rfl
theorem prod_snoc {ws : List Int} {i : Nat} {z : Int} (h : ws[i]? = some z) : prodI (ws.take (i + 1)) = prodI (ws.take i) * z := by
  rw [List.take_add_one, h]; exact prodI_snoc _ _
def prodR : List Int → Int
  | [] => 1
  | w :: r => prodR r * w
theorem prodI_rev : ∀ r : List Int, prodI r.reverse = prodR r
  | [] => rfl
  | w :: r => by rw [List.reverse_cons, prodI_snoc, prodI_rev r]; rfl
abbrev Pos (ws : List Int) : Prop := ∀ w ∈ ws, (0 : Int) < w
theorem Pos.rev {ws : List Int} (h : Pos ws) : Pos ws.reverse := fun w hw => h w (List.mem_reverse.mp hw)
theorem prodR_pos : ∀ {r : List Int}, Pos r → 0 < prodR r
  | [], _ => by decide
  | w :: r, h => Int.mul_pos (prodR_pos fun x hx => h x (List.mem_cons_of_mem _ hx)) (h w List.mem_cons_self)
/-- widths as they are drawn -/
structure WB (ws : List Int) : Prop where
  len : ws.length ≤ 1000
  lo : ∀ w ∈ ws, (0 : Int) ≤ w
  hi : ∀ w ∈ ws, w < 2 ^ 100
  pr : ∀ j, 0 ≤ prodI (ws.take j) ∧ prodI (ws.take j) < 2 ^ 200
end LW
set_option Elab.async false
set_option linter.all false
set_option maxRecDepth 100000
namespace LW
open PySem PySem.Spec L2 DW
/-- two lists that change: the state and one's own -/
structure Two (μ : Sto) (p st : Addr) (L c : List D) (μ' : Sto) : Prop where
  hp : μ p = none
  ne : st ≠ p
  pL : μ' p = some (.lst L)
  sc : μ' st = some (.lst c)
  ot : ∀ a, a ≠ p → a ≠ st → μ' a = μ a
theorem Two.start {μ : Sto} {p st : Addr} {L c : List D} (hp : μ p = none) (hs : μ st = some (.lst c)) : Two μ p st L c (sset μ p (.lst L)) := by
  have ne : st ≠ p := fun z => by rw [z, hp] at hs; cases hs
  exact ⟨hp, ne, sset_same, by rw [sset_ne ne]; exact hs, fun a h _ => sset_ne h⟩
theorem Two.setS {μ μ' : Sto} {p st : Addr} {L c c2 : List D} (T : Two μ p st L c μ') : Two μ p st L c2 (sset μ' st (.lst c2)) :=
  ⟨T.hp, T.ne, by rw [sset_ne (Ne.symm T.ne)]; exact T.pL, sset_same, fun a h1 h2 => by rw [sset_ne h2]; exact T.ot a h1 h2⟩
theorem Two.setP {μ μ' : Sto} {p st : Addr} {L L2 c : List D} (T : Two μ p st L c μ') : Two μ p st L2 c (sset μ' p (.lst L2)) :=
  ⟨T.hp, T.ne, sset_same, by rw [sset_ne T.ne]; exact T.sc, fun a h1 h2 => by rw [sset_ne h1]; exact T.ot a h1 h2⟩
theorem Two.sub {μ μ' : Sto} {p st : Addr} {L c : List D} (T : Two μ p st L c μ') : Sub (sset μ st (.lst c)) μ' := fun a x e => by
  by_cases h : a = st
  · subst h; rw [sset_same] at e; rw [T.sc]; exact e
  · rw [sset_ne h] at e
    have h1 : a ≠ p := fun z => by rw [z, T.hp] at e; cases e
    rw [T.ot a h1 h]; exact e
theorem Two.del {μ μ' : Sto} {p st : Addr} {L c : List D} (T : Two μ p st L c μ') : sdel μ' p = sset μ st (.lst c) := by
  funext a
  unfold sdel
  by_cases h : a = p
  · subst h; rw [if_pos rfl, sset_ne (Ne.symm T.ne), T.hp]
  · rw [if_neg h]
    by_cases h2 : a = st
    · subst h2; rw [sset_same, T.sc]
    · rw [sset_ne h2]; exact T.ot a h h2
theorem prodI_eqR (ws : List Int) : prodI ws = prodR ws.reverse := by
  have e := prodI_rev ws.reverse
  rw [List.reverse_reverse] at e
  exact e
theorem prodI_pos0 {ws : List Int} (h : Pos ws) : 0 < prodI ws := by rw [prodI_eqR]; exact prodR_pos h.rev
theorem Pos.take {ws : List Int} (h : Pos ws) (j : Nat) : Pos (ws.take j) := fun w hw => h w (List.mem_of_mem_take hw)
/-- a product of a front is no greater -/
theorem prod_take_le {ws : List Int} (h : Pos ws) : ∀ j, prodI (ws.take j) ≤ prodI ws := by
  have step : ∀ j, prodI (ws.take j) ≤ prodI (ws.take (j + 1)) := fun j => by
    cases e : ws[j]? with
    | none =>
      have hl : ws.length ≤ j := by rw [List.getElem?_eq_none_iff] at e; exact e
      rw [List.take_of_length_le hl, List.take_of_length_le (by omega)]; exact Int.le_refl _
    | some z =>
      rw [LW.prod_snoc e]
      have h1 := prodI_pos0 (h.take j)
      have h2 := h z (List.mem_of_getElem? e)
      have : prodI (ws.take j) * 1 ≤ prodI (ws.take j) * z := Int.mul_le_mul_of_nonneg_left (by omega) (by omega)
      omega
  have far : ∀ k j, prodI (ws.take j) ≤ prodI (ws.take (j + k)) := fun k => by
    induction k with
    | zero => intro j; exact Int.le_refl _
    | succ k ih => intro j; exact Int.le_trans (ih j) (step (j + k))
  intro j
  have := far ws.length j
  rw [List.take_of_length_le (by omega : ws.length ≤ j + ws.length)] at this
  exact this
theorem WB.of {ws : List Int} (hl : ws.length ≤ 1000) (hp : Pos ws) (hh : ∀ w ∈ ws, w < 2 ^ 100) (hb : prodI ws < 2 ^ 200) : WB ws :=
  ⟨hl, fun w hw => by have := hp w hw; omega, hh, fun j => ⟨by have := prodI_pos0 (hp.take j); omega, by have := prod_take_le hp j; omega⟩⟩
end LW
set_option Elab.async false
set_option linter.all false
set_option maxRecDepth 100000
set_option maxHeartbeats 4000000
namespace DW
open PySem PySem.Spec PyProof.Rows L2
section
variable {K : Fg} {B : Bx K} {te ta tb : TE} {φ φa φb : DE} {tl th : TO} {ol oh : XP → DEnv → Sto → (Option Int → Sto → Prop) → Prop}
def oCatS : DO := fun x y μ Φ => ∃ s t, x = .str s ∧ y = .str t ∧ s.length + t.length ≤ 100000 ∧ Φ (.str (s ++ t)) μ
def oInS (neg : Bool) : DO := fun x y μ Φ => ∃ (c : Nat) (z : Str), x = .str ⟨#[c]⟩ ∧ y = .str z ∧ Φ (.bl (if neg then !decide (c ∈ z.cps.toList) else decide (c ∈ z.cps.toList))) μ
def oIxS : DO := fun x y μ Φ => ∃ z i c, x = .str z ∧ y = .int i ∧ z.length ≤ 100000 ∧ atI z.cps.toList i = some c ∧ Φ (.str ⟨#[c]⟩) μ
def dSlS (φ : DE) (ol oh : XP → DEnv → Sto → (Option Int → Sto → Prop) → Prop) : DE := fun Ψ δ μ Φ => φ Ψ δ μ fun x μ1 => ol Ψ δ μ1 fun lo μ2 => oh Ψ δ μ2 fun hi μ3 => ∃ z, x = .str z ∧ z.length ≤ 100000 ∧ Φ (.str (cutS z lo hi)) μ3
def cStr : DC := fun xs μ Φ => (∃ i, xs = [.int i] ∧ i.natAbs.log2 < 1920 ∧ Φ (.str (toString i)) μ) ∨ ∃ a, xs = [.str a] ∧ Φ (.str a) μ
end
end DW
set_option Elab.async false
set_option linter.all false
set_option maxRecDepth 100000
set_option maxHeartbeats 4000000
namespace DW
open PySem PySem.Spec PyProof.Rows L2
theorem meets_enum1 {v : Value} {o : Obj} {H : Heap → Prop} (B : Begins v o H) :
    Meets (Builtin.«enumerate.__new__» ⟨[.type "enumerate", v], []⟩) (fun _ R s => H s.heap ∧
      R (.ok (.ret (.ref (s.heap.push o).objs.size))) { s with heap := (s.heap.push o).push { cls := .type "enumerate", data := .fields #[.none, .bool false, .ref s.heap.objs.size, rawInt 0, .none, .none] } }) :=
  .of_wp fun prog w A R s h => by
    obtain ⟨hp, g, d, tk, os⟩ := s
    obtain ⟨h1, h⟩ := h
    have hsub := sub_enumerate
    have itr : ∀ {A' : Around} {E : Value → Shared → Prop} {Q : Value → Shared → Prop}, Q (.ref hp.objs.size) ⟨hp.push o, g, d, tk, os⟩ → wpAny (model prog w) A' (pyIter v) Q E ⟨hp, g, d, tk, os⟩ :=
      fun q => B.iter prog w _ _ ⟨hp, g, d, tk, os⟩ _ h1 q
    wp_walk using itr
    refine wpAny_stack_any fun st => wpAny_pure ?_
    split
    · rename_i c _ _ _ _ _
      cases (c == Value.type "enumerate") <;> (wp_walk using itr; exact ⟨_, rfl, h⟩)
    · wp_walk using itr
      exact ⟨_, rfl, h⟩
theorem enum_one {prog : Program} {w : World} {A : Around} {E : Value → Shared → Prop} {s : Shared} {v : Value} {o : Obj} {H : Heap → Prop} {Q : Value → Shared → Prop} (B : Begins v o H) (h1 : H s.heap)
    (h : ∀ h', IsEnum h' (s.heap.objs.size + 1) s.heap.objs.size 0 .none → h'.get? s.heap.objs.size = some o → h'.objs.size = s.heap.objs.size + 2 →
      (∀ b o, s.heap.get? b = some o → h'.get? b = some o) → Q (.ref (s.heap.objs.size + 1)) { s with heap := h' }) :
    wpAny (model prog w) A (call (.type "enumerate") [v]) Q E s := by
  refine callType_new F.called_enumerate (by decide) (F.typeCall_enumerate_1 _) (F.newCall_enumerate_1 _) (fun obj => F.args_object_init_2 obj _) F.entry_enumerate_new (meets_enum1 B) ⟨h1, ?_⟩
  have hz : (s.heap.push o).objs.size = s.heap.objs.size + 1 := Heap.size_push ..
  have he := Heap.get?_push_size (s.heap.push o) (o := { cls := .type "enumerate", data := .fields #[.none, .bool false, .ref s.heap.objs.size, rawInt 0, .none, .none] }) rfl
  rw [hz] at he
  show _ ∧ _
  rw [hz]
  exact ⟨⟨_, he, rfl⟩, h _ he (Heap.get?_push_of_some _ (Heap.get?_push_size _ B.free)) (by rw [Heap.size_push, hz]) fun b o x => Heap.get?_push_of_some _ (Heap.get?_push_of_some _ x)⟩
/-- the tuple at a, counted from c -/
def IteT (K : Fg) (a : Addr) (n : Nat) (c : Int) : It :=
  ⟨fun i H => i < n ∧ ∃ (xs : List V) (x : V), SqT K H a xs ∧ xs[i]? = some x, fun i H v H' => ∃ T x, v = .ref T ∧ H T = none ∧ H' = upd H T (.tup [.int (c + (i : Nat)), x]) ∧ ∀ xs, SqT K H a xs → xs[i]? = some x, fun i H => n ≤ i ∧ ∃ xs : List V, SqT K H a xs ∧ xs.length = n⟩
theorem enum_apart {h : Heap} {e it t : Addr} {c : Int} {i : Nat} {old : Value} {items : Array Value} (he : IsEnum h e it c old) (hi : h.IsTupleIter it t i) (ht : h.IsTuple t items) : t ≠ it ∧ e ∉ [it, t] ∧ e ≠ it := by
  obtain ⟨o1, e1, c1, _⟩ := hi
  obtain ⟨o2, e2, c2, _⟩ := ht
  have n1 : t ≠ it := fun z => by subst z; rw [e1] at e2; cases e2; rw [c1] at c2; exact absurd (Value.type.inj c2) (by decide)
  have n2 : e ≠ it := fun z => by
    subst z
    have q : h.get? e = some _ := he
    rw [e1] at q; cases q; exact absurd (Value.type.inj c1) (by decide)
  have n3 : e ≠ t := fun z => by
    subst z
    have q : h.get? e = some _ := he
    rw [e2] at q; cases q; exact absurd (Value.type.inj c2) (by decide)
  exact ⟨n1, by simp [n2, n3], n2⟩
theorem turn_enumT {P : Program} {w : World} {K : Fg} {elts : List Expr} {kk : Nat} {tpos : Pos} (a e it : Addr) (n : Nat) (c : Int) :
    Turn P w K (.Tuple elts kk tpos) (IteT K a n c) [e, it] e (fun i h => i ≤ n ∧ (∃ old, IsEnum h e it (c + (i : Nat)) old) ∧ h.IsTupleIter it a i ∧ e ≠ it) where
  mem := by simp
  obj := fun i h st b hb => by
    obtain ⟨_, ⟨old, he⟩, ⟨o, ho, hc, hd⟩, _⟩ := st
    rcases (show b = e ∨ b = it by simpa using hb) with z | z
    · rw [z]; exact ⟨_, he, fun v q => nomatch q⟩
    · rw [z]; exact ⟨o, ho, fun v q => by rw [hd] at q; cases q⟩
  keep := fun i h h' st k => by
    obtain ⟨hin, ⟨old, he⟩, ⟨o, ho, r⟩, hne⟩ := st
    exact ⟨hin, ⟨old, k e (by simp) _ he⟩, ⟨o, k it (by simp) o ho, r⟩, hne⟩
  item := by
    intro X hP hw hK hc i pins s σ H E I hf st hg
    subst hP hw hK
    obtain ⟨hin, ⟨old, he⟩, hit, hne⟩ := st
    obtain ⟨hlt, xs, x, hq, hx⟩ := hg
    obtain ⟨its, rv, p, hz⟩ := I.tuple hq
    obtain ⟨u, hu, ru⟩ := rv.get hx
    have pt : s.heap.IsTuple a its.toArray := p
    obtain ⟨n1, n2, n3⟩ := enum_apart he hit pt
    have hel : e < s.heap.objs.size := Heap.lt_size he
    have hil : it < s.heap.objs.size := by obtain ⟨_, q, _⟩ := hit; exact Heap.lt_size q
    have hiu : i < its.toArray.size := by rw [List.size_toArray]; exact (List.getElem?_eq_some_iff.mp hu).1
    refine wpAny_pyNext_enum_itemC (Draws.tuple (A := X.A.in1) (I.ok.hd hc) it a n1 its.toArray) he ⟨hit, pt⟩ hiu n3 n2 fun y h' tk hP ho hst hT hsz hk => ?_
    have hy : y = u := by
      have q : its.toArray[i]? = some y := hP
      have q2 : its.toArray[i]? = some u := by simpa using hu
      rw [q2] at q; exact (Option.some.inj q).symm
    subst hy
    refine ⟨_, rfl, wpAny_letOwnedTupleGo_enum (s := { s with heap := h', toks := tk + 1 }) ho fun h'' he' sb => ?_⟩
    have hT2 := (sb.2 _ (Nat.ne_of_gt hel)).trans hT
    have new : ObjOk X.prog X.w (upd H s.heap.objs.size (.tup [.int (c + (i : Nat)), x])) h'' s.heap.objs.size (.tup [.int (c + (i : Nat)), x]) :=
      ⟨by show 2 ≤ sizeLine; decide, [.int (c + (i : Nat)) tk, y], .cons ⟨_, rfl⟩ (.cons ru .nil), ⟨_, hT2, rfl, _, rfl⟩⟩
    have I1 : Inv X pins σ (upd H s.heap.objs.size (.tup [.int (c + (i : Nat)), x])) { s with heap := h'', toks := tk + 1 } :=
      I.turnedNew (ch := [e, it]) (fun b ob hb q => (sb.2 b (fun z => hb (by simp [z]))).trans (hk b ob (fun z => hb (by simp [z])) (fun z => hb (by simp [z])) q)) hf (Nat.le_refl _) new
    refine ⟨.ref s.heap.objs.size, _, I1, rfl, ⟨_, x, rfl, I.hok.fresh (Nat.le_refl _), rfl, fun ys hy => by rw [I.tuple_inj hy hq]; exact hx⟩, ⟨hlt, ⟨y, ?_⟩, ?_, hne⟩, fun b hb => ?_⟩
    · have e1 : c + ((i + 1 : Nat) : Int) = c + ((i : Nat) : Int) + 1 := by omega
      rw [e1]; exact he'
    · obtain ⟨o, q, r⟩ := hst.1
      exact ⟨o, (sb.2 it (Ne.symm hne)).trans q, r⟩
    · have hb' : b < s.heap.objs.size := by
        rcases (show b = e ∨ b = it by simpa using hb) with z | z <;> (rw [z]; assumption)
      rw [upd_ne (Nat.ne_of_lt hb')]
      exact (hf b hb).1
  done := by
    intro X hP hw hK hc i pins s σ H E I hf st hg
    subst hP hw hK
    obtain ⟨hin, ⟨old, he⟩, hit, hne⟩ := st
    obtain ⟨hle, xs, hq, hx⟩ := hg
    obtain ⟨its, rv, p, hz⟩ := I.tuple hq
    have pt : s.heap.IsTuple a its.toArray := p
    obtain ⟨n1, n2, n3⟩ := enum_apart he hit pt
    obtain ⟨f0, f1, f2, f3, f4, f5⟩ := hf it (by simp)
    have hl := rv.length
    have hi : i = its.toArray.size := by rw [List.size_toArray]; omega
    subst hi
    exact wpAny_pyNext_enum_endD (Draws.tuple (A := X.A.in1) (I.ok.hd hc) it a n1 its.toArray) he ⟨hit, pt⟩ fun h' eb => ⟨rfl, I.turned (t' := s.toks) (fun b o hb q => eb b o hb q) f0 f1 f3 f4 f5⟩
  self := fun A i s Q E st h => let ⟨_, ⟨_, he⟩, _⟩ := st; wpAny_pyIter_enum he h
def iEnumT (K : Fg) (c : Int) (ta : TA) : TI := fun σ H R => ta σ H fun vs H1 => ∃ a xs, vs = [.ref a] ∧ SqT K H1 a xs ∧ R (IteT K a xs.length c) H1
theorem pie_enumT {X : Cx} {pins : List (Addr × Obj)} {σ : L2.St} {H1 : Hp} {s1 : Shared} {h' : Heap} {a : Addr} {xs : List V} {c : Int} {R : It → Hp → Prop} {elts : List Expr} {kk : Nat} {tpos : Pos} (I1 : Inv X pins σ H1 s1) (hq : SqT X.K H1 a xs)
    (he : IsEnum h' (s1.heap.objs.size + 1) s1.heap.objs.size c .none) (ho : h'.get? s1.heap.objs.size = some { cls := .type "tuple_iterator", data := .fields #[.ref a, .int 0 0] })
    (hk : ∀ b o, s1.heap.get? b = some o → h'.get? b = some o) (q : R (IteT X.K a xs.length c) H1) : PIE X pins σ (.Tuple elts kk tpos) R (.ref (s1.heap.objs.size + 1)) { s1 with heap := h' } := by
  refine ⟨s1.heap.objs.size + 1, [s1.heap.objs.size + 1, s1.heap.objs.size], _, _, H1, rfl, I1.kept (t' := s1.toks) hk, turn_enumT a (s1.heap.objs.size + 1) s1.heap.objs.size xs.length c, ⟨Nat.zero_le _, ⟨.none, ?_⟩, ⟨_, ho, rfl, rfl⟩, Nat.succ_ne_self _⟩, fun b hb => ?_, q⟩
  · have e : c + ((0 : Nat) : Int) = c := by omega
    rw [e]; exact he
  · have hle : s1.heap.objs.size ≤ b := by
      rcases (show b = s1.heap.objs.size + 1 ∨ b = s1.heap.objs.size by simpa using hb) with z | z
      · rw [z]; exact Nat.le_succ _
      · rw [z]; exact Nat.le_refl _
    exact I1.fpOk hle (I1.hok.fresh hle)
/-- for i, x in enumerate(t) -/
theorem pi_enumT {X : Cx} {e : Expr} {ta : TA} {p pos tpos : Pos} {elts : List Expr} {kk : Nat} (hg : Gl X "enumerate") (hm : X.mg "enumerate" = none) (ha : PA X [e] ta) (hs : starEach [e] X.env = [(false, eval e X.env)] := by rfl) :
    PI X (.Tuple elts kk tpos) (.Call (.Name "enumerate" p) [e] [] pos) (iEnumT X.K 0 ta) := by
  refine ⟨fun pins s σ H R I h => ?_⟩
  refine Call_ (ld_blt I hg hm boot_enumerate (PyProof.Rows.callWith_type1 (thn (ha.run pos pins s σ H _ I h) fun us s1 ⟨vs, H1, I1, r1, q1⟩ => ?_) hs rfl))
  obtain ⟨a, xs, rfl, hq, q⟩ := q1
  rw [Vals.ref1 r1]
  obtain ⟨its, rv, p', hz⟩ := I1.tuple hq
  exact enum_one (begins_tuple a its.toArray) p' fun h' he ho hsz hk => wpAny_pyIter_enum he (pie_enumT I1 hq he ho hk q)
def iEnD (φ : DE) (c : Int) : DI := fun Ψ δ μ Φ => φ Ψ δ μ fun x μ1 => ∃ ds, x = .tup ds ∧ Φ ((List.range ds.length).map fun (i : Nat) => .pr [.int (c + (i : Int)), ds.getD i .non]) μ1
theorem siEnumT {K : Fg} {B : Bx K} {te : TE} {φ : DE} {c : Int} (a : SE B te φ) : SI B (iEnumT K c (tCons te tNil)) (iEnD φ c) := fun σ H δ μ Φ R S q k =>
  a σ H δ μ _ _ S q fun v H1 x μ1 S1 e1 r1 q1 => by
    obtain ⟨ds, rfl, q2⟩ := q1
    obtain ⟨p, vs, rfl, h1, h2⟩ := Rep.tup_inv r1
    refine ⟨p, vs, rfl, h1.sq, k _ _ H1 μ1 S1 e1 (fun i H3 μ3 s3 e3 => ?_) q2⟩
    rw [List.length_map, List.length_range]
    have hl := h2.length
    refine ⟨fun hi => ?_, fun hi => ⟨by omega, vs, (h1.mono e3).sq, rfl⟩⟩
    have hv : i < vs.length := by omega
    refine ⟨⟨hv, vs, vs[i], (h1.mono e3).sq, List.getElem?_eq_getElem hv⟩, fun z H' hy => ?_⟩
    obtain ⟨T, u, rfl, hT, rfl, hu⟩ := hy
    obtain ⟨d, hd, rd⟩ := (h2.mono e3).getV (hu vs (h1.mono e3).sq)
    refine ⟨.pr [.int (c + (i : Int)), d], ?_, s3.new hT, .new hT, rep_tup s3 hT (.cons (.int _ .nil) (.cons rd .nil))⟩
    rw [List.getElem?_map, List.getElem?_range hi]
    show some (D.pr [D.int (c + (i : Int)), ds.getD i .non]) = _
    rw [List.getD_eq_getElem?_getD, hd]
    rfl
end DW
set_option Elab.async false
set_option linter.all false
set_option maxRecDepth 100000
set_option maxHeartbeats 4000000
namespace DW
open PySem PySem.Spec PyProof.Rows L2 NdefX PySem.W
/-- a method that may say super(): its body, at its own activation -/
theorem supfn_of {CX : CXT} {P : Program} {w : World} {K : Fg} {mg : Str → Option Value} {base : Heap} {k : Nat} {f C cc cda : Addr} {name qual : Str} {params : Arguments} {body : List Stmt} {scope : Scope} {kV doc pm ct oc cl : Value} {an od cld : Option Addr}
    {osl csl : Array (Option Value)} {N ps : List Str} {sp : Sp} (lk : K.lookup f = some ⟨oc, od, .func (ksFn name qual params body scope .none kV doc pm an (.ref cda) ct cc), osl⟩) (hcd : codeIn K (.ref cda) qual = true) (S : NScope N ps ["__class__"] scope)
    (lcc : K.lookup cc = some ⟨cl, cld, .cell (some (.ref C)), csl⟩)
    (len : ∀ vs H Q E, sp vs H Q E → vs.length = ps.length)
    (hbody : ∀ (A : Around) (outer : List Env) (s s1 : Shared) (H : Hp) (vs : List V) (Q : VK) (E : XK), Room k (A.deeper (envF ⟨name, qual, params, body, scope, [("__class__", cc)], cda⟩ f s.heap.objs.size)) → sp vs H Q E →
      Inv (ncx CX P w K mg base N ⟨name, qual, params, body, scope, [("__class__", cc)], cda⟩ f A outer s H E) [] (startF N vs [none]) H s1 →
      _root_.PySem.wpAt (model P w) (A.deeper (envF ⟨name, qual, params, body, scope, [("__class__", cc)], cda⟩ f s.heap.objs.size)) (.func body (envF ⟨name, qual, params, body, scope, [("__class__", cc)], cda⟩ f s.heap.objs.size)) (execs body (envF ⟨name, qual, params, body, scope, [("__class__", cc)], cda⟩ f s.heap.objs.size))
        (SP (ncx CX P w K mg base N ⟨name, qual, params, body, scope, [("__class__", cc)], cda⟩ f A outer s H E) [] { nx := fun _ H' => Q .non H', rt := Q }) (ncx CX P w K mg base N ⟨name, qual, params, body, scope, [("__class__", cc)], cda⟩ f A outer s H E).xe s1) :
    FnOk P w K mg base CX (k + 1) f (ksFn name qual params body scope .none kV doc pm an (.ref cda) ct cc) ps sp := by
  refine ⟨len, fun A outer s H args us vs Q E hr e0 hb r hsp => ?_⟩
  have hl := len _ _ _ _ hsp
  have KX : K.In s.heap := e0.mod.kin.keeps fun b o e => (e0.bs b o e).1
  have lim : s.heap.NoLimit := e0.mod.nolimit.keeps fun b o e => (e0.bs b o e).1
  refine ks_codeAny_call_defAt (fd := ksFn name qual params body scope .none kV doc pm an (.ref cda) ct cc) (body := body) (binds := ps.zip us) hr.depth (KX _ _ lk) rfl lim (codeRec_of KX hcd) rfl hb S.nocell (fun ⟨n, _⟩ hy => S.par n (List.of_mem_zip hy).1) (fun h₁ hns hk₁ => ?_) S.co S.gen S.kind
  have Cc : CellsAt [("__class__", cc)] ["__class__"] [none] s.heap H := by
    refine ⟨rfl, fun y c e => ?_, fun x y c e1 e2 => ?_, fun i y e => ?_⟩
    · have ec : c = cc := by
        simp only [List.lookup] at e
        split at e <;> simp_all
      subst ec
      exact ⟨(e0.bs _ _ (e0.mod.kin _ _ lcc)).2, _, _, KX _ _ lcc, rfl⟩
    · simp only [List.lookup] at e1 e2
      split at e1 <;> split at e2 <;> simp_all
    · cases i with
      | zero => cases e; exact ⟨cc, rfl, fun v z => by cases z⟩
      | succ i => cases i <;> cases e
  have I := inv_startN (CX := CX) (P := P) (w := w) (K := K) (mg := mg) (base := base) (F := ⟨name, qual, params, body, scope, [("__class__", cc)], cda⟩) (f := f) (E := E) (tk := s.toks + (ps.zip us).length) S hr.hd e0 hl r Cc hns hk₁
  refine ks_wpAt_mono (hbody A outer s _ H vs Q E (hr.deeper _) hsp I) (fun fl s' hs => ?_) fun e s' hs => hs
  have fin : ∀ {σ' : L2.St} {H' : Hp} {v : V} {u : Value}, Inv (ncx CX P w K mg base N ⟨name, qual, params, body, scope, [("__class__", cc)], cda⟩ f A outer s H E) [] σ' H' s' → L2.RelV v u → Q v H' → CE outer P w H s Q u s' :=
    fun {σ' H' v u} J rv q => ⟨v, H', J.os, J.bare, J.base, J.hok, rv, q⟩
  cases fl with
  | ret u =>
    obtain ⟨v, σ', H', J, rv, q⟩ := hs
    exact fin J rv q
  | next =>
    obtain ⟨σ', H', J, q⟩ := hs
    exact fin (v := V.non) (u := Value.none) J rfl q
  | brk =>
    obtain ⟨_, _, _, q⟩ := hs
    exact False.elim q
  | cont =>
    obtain ⟨_, _, _, q⟩ := hs
    exact False.elim q
end DW
set_option Elab.async false
set_option linter.all false
set_option maxRecDepth 100000
set_option maxHeartbeats 4000000
namespace DW
open PySem PySem.Spec PyProof.Rows L2 NdefX PySem.W
/-- the call of the bound __init__ -/
theorem mw_init {X : Cx} {pins : List (Addr × Obj)} {σ : L2.St} {H : Hp} {s : Shared} {a C u : Addr} {us : List Value} {A : Around} {E : Value → Shared → Prop} {Q : Value → Shared → Prop} (T : OexC X.K C) (I : Inv X pins σ H s) (e : H a = some (exo a C none)) (hu : s.heap.get? u = some (kxs_mw "ValueError.__init__" a)) (hl : us.length ≤ sizeLine)
    (h : ∀ s', Inv X pins σ H s' → Q .none s') : wpAny (model X.prog X.w) A (call (.ref u) us) Q E s := by
  obtain ⟨nm, q, N, bs, bm, sn, sub, ab, col, dd, k0, k1, k2, k3, k5, hC, hbm⟩ := T.cls
  obtain ⟨t1, ho⟩ := exo_at I.hok e
  have hC1 := I.kIn _ _ hC
  obtain ⟨hp, g, d, t, os⟩ := s
  have fin : ∀ h', (∀ b o, b ≠ a → hp.get? b = some o → h'.get? b = some o) → h'.get? a = some (excRec (.ref C) hp.objs.size none .none .none (.bool false)) → h'.get? hp.objs.size = some (excTup us) → Q .none ⟨h', g, d, t, os⟩ := fun h' k hx _ => by
    have J := I.write (t' := t) (x := a) (e := a) (o := exo a C none) (by rw [e]; exact True.intro) (.inl rfl) k ⟨_, hx⟩ (exo_ok hx)
    have eu : upd H a (exo a C none) = H := by
      funext b
      by_cases hb : b = a
      · rw [hb, upd_same, e]
      · rw [upd_ne hb]
    rw [eu] at J
    exact h _ J
  refine wpAny_call (codeAny_of_tree ?_)
  show wpAny _ A.in1 (callAny (.ref u) ⟨us, []⟩) _ _ _
  simp only [callAny]
  refine wpAny_bind (wpAny_load hu ?_)
  simp only [kxs_mw, show (Value.type "method-wrapper" == Value.type "method" || Value.type "method-wrapper" == Value.type "builtin_function_or_method" || Value.type "method-wrapper" == Value.type "method-wrapper") = true by decide, if_true]
  refine KFB.if_so (by decide) ?_
  refine wpAny_bind (check_bound_init PySem.F.excBase_ValueError.toExcCallFacts hC1 ho rfl ?_)
  refine wpAny_bind (wpAny_pure (wpAny_pure ?_))
  refine ⟨plainId_quiet PySem.F.excBase_ValueError.init.plain _, codeAny_builtin PySem.F.excBase_ValueError.initEntry ?_⟩
  exact exc_init_tree (cls := .ref C) (t0 := t1) (dv := none) (c2 := .none) (c3 := .none) (b4 := .bool false) ho hl fin
/-- what the written part says of a class whose __init__ says super().__init__(..) -/
structure SupC (K : Fg) (C D cc f cda : Addr) (file : Str) : Prop where
  ox : OexC K C
  cell : ∃ cl cld csl, K.lookup cc = some ⟨cl, cld, .cell (some (.ref D)), csl⟩
  own : isClsIn K D = true
  sub : mroIn K C (.ref D) = some true
  ve : subIn K (.ref C) (.type "ValueError") = some true
  opq : nsIn K cStatics "thirdparty.any" = some none
  sup : ks_superIn K C D "__init__" = some (some (.builtin "ValueError.__init__"))
  code : ∃ ccl cdd vs ccs tf, K.lookup cda = some ⟨ccl, cdd, .fields vs, ccs⟩ ∧ vs[2]? = some (.str file tf)
theorem super_line {X : Cx} {qual : Str} {scope : Scope} {L f cda cc a C D : Addr} {file : Str} {fd : FuncData} {oc : Value} {od : Option Addr} {osl : Array (Option Value)} {body : List Stmt} {p0 p1 p2 p3 p4 : Pos} {e1 : Expr} {te : TE} {σ : L2.St} {H : Hp} {s : Shared} {G : Shared → Prop} {ar : Arg}
    (hX : X.env = ksEnv qual scope L f (.ref cda) cc) (T : SupC X.K C D cc f cda file) (hf : X.K.lookup f = some ⟨oc, od, .func fd, osl⟩) (hp : (fd.params.posonlyargs ++ fd.params.args).head? = some ar)
    (hfile : ((X.prog.main.file : Str) == file) = true) (htop : (X.prog.main.scope.names.lookup ("super" : Str)).isSome = false) (hms : X.mg "super" = none)
    (hks : scope.names.lookup ("super" : Str) = some .globalImplicit) (hkc : scope.names.lookup ("__class__" : Str) = some .free) (hka : scope.names.lookup ar.arg = some .local)
    (I : Inv X [] σ H s) (hN : X.N[0]? = some ar.arg) (h0 : σ[0]? = some (some (.ref a))) (ea : H a = some (exo a C none)) (he : PE X e1 te)
    (hst : starEach [e1] X.env = (false, eval e1 X.env) :: starEach [] X.env) (hpl : (backTo p3 (starEach [] X.env)).any (·.1) = false)
    (hi : interactive X.env = false) (hsw : swapsWith (.Call (.Attribute (.Call (.Name "super" p0) [] [] p1) "__init__" p2) [e1] [] p3) none p4.line X.env = pure false)
    (hev : ∃ pl, eval (.Call (.Attribute (.Call (.Name "super" p0) [] [] p1) "__init__" p2) [e1] [] p3) X.env = (do
      let ov ← attributeBase (.Call (.Name "super" p0) [] [] p1) "__init__" X.env (eval (.Call (.Name "super" p0) [] [] p1) X.env)
      standAt p2.atName
      let (f, first) ← holding [ov] (getMethod ov "__init__" pl)
      callWith p3 f first (backTo p3 (starEach [e1] X.env)) []))
    (h : te σ H fun x H1 => H1 a = some (exo a C none) ∧ ∀ s', Inv X [] σ H1 s' → G s') :
    _root_.PySem.wpAt (model X.prog X.w) X.A (.func body X.env) (exec (.Expr (.Call (.Attribute (.Call (.Name "super" p0) [] [] p1) "__init__" p2) [e1] [] p3) p4) X.env) (fun fl s' => fl = .next ∧ G s') X.xe s := by
  obtain ⟨pl, hev⟩ := hev
  obtain ⟨cl, cld, csl, hcell⟩ := T.cell
  obtain ⟨ccl, cdd, vs, ccs, tf, hcode, hvs⟩ := T.code
  have KX := I.kIn
  refine ks_wpAt_Expr_any (ks_wpAt_MethodCall ?_ hev) hi hsw
  obtain ⟨nm, q, N, bs, bm, sn, sub, ab, col, dd, k0, k1, k2, k3, k5, hC, hbm⟩ := T.ox.cls
  obtain ⟨t1, ho⟩ := exo_at I.hok ea
  obtain ⟨m, hns, hlk⟩ := I.loc
  have hkind := I.ok.kind
  have ksX : X.env.kindOf "super" = some .globalImplicit := by rw [hX]; exact hks
  have kcX : X.env.kindOf "__class__" = some .free := by rw [hX]; exact hkc
  have kaX : X.env.kindOf ar.arg = some .local := by rw [hX]; exact hka
  have ccX : X.env.cells.lookup (("__class__" : Str)) = some cc := by rw [hX]; rfl
  obtain ⟨u0, ru0, lk0⟩ := hlk 0 ar.arg (.ref a) hN h0 (.inl kaX)
  obtain rfl : u0 = Value.ref a := ru0
  have hma : m ar.arg = some (.ref a) := by
    rcases lk0 with ⟨_, q⟩ | ⟨q, _⟩
    · exact q
    · rw [kaX] at q; rcases q with q | q <;> cases q
  obtain ⟨cdD, hcdD⟩ := Option.isSome_iff_exists.mp (show (clsIn X.K D).isSome = true from T.own)
  obtain ⟨oD, hD1, hD2⟩ : ∃ oD, s.heap.get? D = some oD ∧ oD.data = .cls cdD := by
    unfold clsIn at hcdD
    split at hcdD
    · rename_i c d cd' sl ho'
      cases hcdD
      exact ⟨_, KX _ _ ho', rfl⟩
    · cases hcdD
  obtain ⟨cdC, hcdC⟩ : ∃ cd, clsIn X.K C = some cd := by
    have q := T.sub
    unfold mroIn at q
    cases z : clsIn X.K C with
    | none => rw [z] at q; cases q
    | some cd => exact ⟨cd, rfl⟩
  have hsup : alongIn X.K "__init__" ((cdC.mro.dropWhile (· != .ref D)).drop 1) = some (some (.builtin "ValueError.__init__")) := by
    have q := T.sup
    unfold ks_superIn at q
    rw [hcdC] at q
    exact q
  have haC : a ≠ C := fun z => by
    have q := KX _ _ hC
    rw [← z, ho] at q
    cases q
  obtain ⟨mb, hb1, hb2⟩ := I.mod.blt
  obtain ⟨hh, g, d, t, os⟩ := s
  refine ks_wpAt_super_base (f := f) (fd := fd) (ar := ar) ksX kcX (by decide) (by rw [hX]) (KX _ _ hf) rfl hp (by rw [hX]) (KX _ _ hcode) rfl hvs hfile htop ?_
  refine ks_loadName_global hkind ksX (Calls.loadGlobal_builtin (by rw [I.ok.glob]; exact I.mod.glob.keeps I.bk) hms (by rw [I.ok.blt]; exact hb1.keeps I.bk) ((hb2 _ (by decide)).trans (by first | boot_by_name | rfl | kernel_rfl)) ⟨rfl, ?_⟩)
  refine wpAny_loadName_free hkind kcX ccX ⟨_, KX _ _ hcell, rfl⟩ ?_
  refine wpAny_loadName_local hkind kaX hns hma ?_
  refine ks_wpAny_isType_cls hD1 hD2 ⟨rfl, ?_⟩
  refine ks_wpAny_call_super hD1 hD2 ho rfl (fun c z => by cases z) (looks_mroIn KX T.sub) (fun h' e k => ?_)
  have KX' : X.K.In h' := KX.keeps k
  have ho' := k _ _ ho
  have LT : Looks (model X.prog X.w) h' (typeOf (.ref a)) (.ref C) := fun A Q E s k q => wpAny_typeOf_ref (k _ _ ho') q
  refine kxs_getMethod kxs_ValueError e (looks_opaque KX' T.opq) (l₀ := cdC.mro) (fun A Q E s k q => wpAny_bind ((looks_clsIn KX' hcdC) A _ E s k (wpAny_pure q))) rfl KX' hsup (LT.andThen (looks_subIn KX' T.ve)) haC (by decide) ?_
  -- the arguments
  have k2 : ∀ b o, hh.get? b = some o → (h'.push (kxs_mw "ValueError.__init__" a)).get? b = some o := fun b o q => Heap.get?_push_of_some _ (k b o q)
  have I2 : Inv X [] σ H ⟨h'.push (kxs_mw "ValueError.__init__" a), g, d, t + 1, os⟩ := I.kept (t' := t + 1) k2
  have hge : hh.objs.size ≤ h'.objs.size := by
    by_cases z : hh.objs.size = 0
    · omega
    · have hl : hh.objs.size - 1 < hh.objs.size := by omega
      exact Nat.le_of_lt (Heap.lt_size e)
  have I3 : Inv X [(h'.objs.size, kxs_mw "ValueError.__init__" a)] σ H ⟨h'.push (kxs_mw "ValueError.__init__" a), g, d, t + 1, os⟩ := I2.pins_of fun p hp => by
    rw [List.mem_singleton.mp hp]
    refine ⟨Heap.get?_push_size _ rfl, I.hok.fresh hge, ?_, I.nofs hge, fun v z => by cases z⟩
    have := hns.lt
    exact Nat.ne_of_gt (Nat.lt_of_lt_of_le this hge)
  rw [hst]
  refine kxs_callWith (i := "ValueError.__init__") (x := a) (by show (false || (backTo p3 (starEach [] X.env)).any (·.1)) = false; rw [hpl]; rfl) (Calls.evalArgs_plain ?_)
  refine Calls.spliced_cons (thn (he.run _ _ σ H _ I3 h) fun u1 s1 ⟨x1, H1, J1, rx1, ea1, q1⟩ => ?_)
  refine Calls.spliced_nil ?_
  have hu := (J1.pin (h'.objs.size, kxs_mw "ValueError.__init__" a) (List.mem_append_right _ List.mem_cons_self)).1
  refine ⟨hu, mw_init T.ox J1 ea1 hu (by show 1 ≤ sizeLine; decide) fun s' J => ⟨rfl, q1 s' (J.pins_of fun p hp => absurd hp (by simp))⟩⟩
end DW
set_option Elab.async false
set_option linter.all false
set_option maxRecDepth 100000
set_option maxHeartbeats 4000000
namespace DW
open PySem PySem.Spec PyProof.Rows L2 NdefX PySem.W
/-- what __init__(self, f) keeps: self, an error in the making, gets its one field -/
def spInit (K : Fg) (C : Addr) (fld : Str) (okv : V → Hp → Prop) : Sp := fun vs H Q _ => ∃ a v, vs = [.ref a, v] ∧ okv v H ∧ OexC K C ∧ findIn K (.ref C) fld = some none ∧ H a = some (exo a C none) ∧
  ∀ d, H d = none → d ≠ a → Q .non (upd (upd H d (exd d [(fld, v)])) a (exo a C (some d)))
/-- __init__(self, f): super().__init__(text); self.f = f -/
theorem sup_fn {CX : CXT} {P : Program} {w : World} {K : Fg} {mg : Str → Option Value} {base : Heap} {k : Nat} {f C D cc cda : Addr} {name qual fld file : Str} {params : Arguments} {scope : Scope} {kV doc pm ct oc : Value} {an od : Option Addr} {osl : Array (Option Value)} {N : List Str} {okv : V → Hp → Prop}
    {p0 p1 p2 p3 p4 q1 q2 q3 q4 : Pos} {e1 : Expr} {ar : Arg}
    (lk : K.lookup f = some ⟨oc, od, .func (ksFn name qual params [.Expr (.Call (.Attribute (.Call (.Name "super" p0) [] [] p1) "__init__" p2) [e1] [] p3) p4, .Assign [.Attribute (.Name "self" q1) fld q2] (.Name fld q3) q4] scope .none kV doc pm an (.ref cda) ct cc), osl⟩)
    (hcd : codeIn K (.ref cda) qual = true) (S : NScope N ["self", fld] ["__class__"] scope) (T : SupC K C D cc f cda file) (hp : (params.posonlyargs ++ params.args).head? = some ar) (har : ar.arg = "self")
    (hfile : ((P.main.file : Str) == file) = true) (htop : (P.main.scope.names.lookup ("super" : Str)).isSome = false) (hms : mg "super" = none) (hks : scope.names.lookup ("super" : Str) = some .globalImplicit)
    (hdb : (fld == ("__debug__" : Str)) = false)
    (hX : ∀ (X : Cx), X.prog = P → X.w = w → X.K = K → X.N = N → X.env.scope = scope → (∃ L, X.env = ksEnv qual scope L f (.ref cda) cc) → Room k X.A →
      (∃ te, PE X e1 te ∧ ∀ (σ : L2.St) (H : Hp) (v : V), σ[1]? = some (some v) → okv v H → ∀ Q : VK, (∀ x, Q x H) → te σ H Q) ∧
      starEach [e1] X.env = (false, eval e1 X.env) :: starEach [] X.env ∧ (backTo p3 (starEach [] X.env)).any (·.1) = false ∧ interactive X.env = false ∧
      swapsWith (.Call (.Attribute (.Call (.Name "super" p0) [] [] p1) "__init__" p2) [e1] [] p3) none p4.line X.env = pure false ∧
      (∃ pl, eval (.Call (.Attribute (.Call (.Name "super" p0) [] [] p1) "__init__" p2) [e1] [] p3) X.env = (do
        let ov ← attributeBase (.Call (.Name "super" p0) [] [] p1) "__init__" X.env (eval (.Call (.Name "super" p0) [] [] p1) X.env)
        standAt p2.atName
        let (f, first) ← holding [ov] (getMethod ov "__init__" pl)
        callWith p3 f first (backTo p3 (starEach [e1] X.env)) [])) ∧
      swapsWith (.Name fld q3) (some (.Attribute (.Name "self" q1) fld q2)) q4.line X.env = pure false ∧ PE X (.Name "self" q1) (tVar 0) ∧ PE X (.Name fld q3) (tVar 1)) :
    FnOk P w K mg base CX (k + 1) f (ksFn name qual params [.Expr (.Call (.Attribute (.Call (.Name "super" p0) [] [] p1) "__init__" p2) [e1] [] p3) p4, .Assign [.Attribute (.Name "self" q1) fld q2] (.Name fld q3) q4] scope .none kV doc pm an (.ref cda) ct cc) ["self", fld] (spInit K C fld okv) := by
  obtain ⟨cl, cld, csl, lcc⟩ := T.cell
  obtain ⟨_, hC2⟩ : True ∧ True := ⟨trivial, trivial⟩
  refine supfn_of lk hcd S lcc (fun vs H Q E h => ?_) (fun A outer s s1 H vs Q E hr h I => ?_)
  · obtain ⟨a, v, rfl, _⟩ := h; rfl
  obtain ⟨a, v, rfl, hok, hox, hno, ea, hq⟩ := h
  have hlen : N.take 3 = (["self", fld, "__class__"] : List Str) := S.pre
  have hn0 : N[0]? = some ("self" : Str) := by
    have q := congrArg (fun l : List Str => l[0]?) hlen
    rw [List.getElem?_take_of_lt (by decide)] at q
    exact q
  have hl3 : 3 ≤ N.length := by have := congrArg List.length hlen; rw [List.length_take] at this; simp at this; omega
  obtain ⟨⟨te, hte, hmsg⟩, f1, f2, f3, f4, f5, f6, f7, f8⟩ := hX (ncx CX P w K mg base N ⟨name, qual, params, [.Expr (.Call (.Attribute (.Call (.Name "super" p0) [] [] p1) "__init__" p2) [e1] [] p3) p4, .Assign [.Attribute (.Name "self" q1) fld q2] (.Name fld q3) q4], scope, [("__class__", cc)], cda⟩ f A outer s H E) rfl rfl rfl rfl rfl ⟨_, rfl⟩ hr
  have s0 : (startF N [.ref a, v] [none])[0]? = some (some (.ref a)) := rfl
  have s1' : (startF N [.ref a, v] [none])[1]? = some (some v) := rfl
  refine ks_wpAt_execs_cons (ks_wpAt_mono (super_line (X := ncx CX P w K mg base N ⟨name, qual, params, [.Expr (.Call (.Attribute (.Call (.Name "super" p0) [] [] p1) "__init__" p2) [e1] [] p3) p4, .Assign [.Attribute (.Name "self" q1) fld q2] (.Name fld q3) q4], scope, [("__class__", cc)], cda⟩ f A outer s H E) (L := s.heap.objs.size) (σ := startF N [.ref a, v] [none]) (H := H) rfl T lk hp hfile htop hms hks (S.frk _ List.mem_cons_self) (by rw [har]; exact S.par _ List.mem_cons_self) I (by rw [har]; exact hn0) s0 ea hte f1 f2 f3 f4 f5
    (G := fun s' => Inv (ncx CX P w K mg base N ⟨name, qual, params, [.Expr (.Call (.Attribute (.Call (.Name "super" p0) [] [] p1) "__init__" p2) [e1] [] p3) p4, .Assign [.Attribute (.Name "self" q1) fld q2] (.Name fld q3) q4], scope, [("__class__", cc)], cda⟩ f A outer s H E) [] (startF N [.ref a, v] [none]) H s') ?_) (fun fl s' hs => ?_) fun _ _ z => z)
  · exact hmsg _ H v s1' hok _ fun x => ⟨ea, fun s' J => J⟩
  · obtain ⟨rfl, J⟩ := hs
    refine PySem.wpAt_of_wpAny ?_
    refine (pss_one (ps_ost f7 f8 f6)).run [] s' _ H _ J ?_
    refine ⟨v, s1', .ref a, s0, a, C, rfl, hox, hno, .inl ⟨ea, fun dx hd hne => ?_⟩⟩
    exact hq dx hd hne
/-- C(e): an own error made, its context None -/
theorem pmk_sup {CX : CXT} {X : Cx} {x fld : Str} {C fI : Addr} {k : Nat} {fd : FuncData} {ps : List Str} {okv : V → Hp → Prop} {e : Expr} {ta : TA} {p pos : Pos} (T : OexC X.K C) (iC : findIn X.K (.ref C) "__init__" = some (some (.ref fI))) (tI : typeIn X.K (.ref fI) = some (.type "function")) (hno : findIn X.K (.ref C) fld = some none)
    (F1 : FnOk X.prog X.w X.K X.mg X.base CX k fI fd ps (spInit X.K C fld okv)) (hr : Room (k + 1) X.A) (hb : Binds X.K fd ps []) (hx : Passes CX X (fun _ _ _ => False)) (hg : Gl X x) (hm : X.mg x = some (.ref C)) (ha : PA X [e] ta)
    (hdb : (x == ("__debug__" : Str)) = false := by decide) (hst : starEach [e] X.env = (false, eval e X.env) :: starEach [] X.env := by rfl) (hpl : (backTo pos (starEach [] X.env)).any (·.1) = false := by rfl) :
    L2N.PMk X (.Call (.Name x p) [e] [] pos) (fun σ H Q => ta σ H fun vs H1 => ∃ v, vs = [v] ∧ (∀ a, H1 a = none → okv v (upd H1 a (exo a C none))) ∧ ∀ d, H1 d = none → Q (.ref C) (some d) (upd H1 d (.xd [(fld, v)]))) := by
  intro pins s σ H Q I h
  obtain ⟨nm, q, N, bs, bm, sn, sub, ab, col, dd, k0, k1, k2, k3, k5, hC, hbm⟩ := T.cls
  refine wpAny_Call_Name_kw (ld_glob I hg hm ?_ hdb)
  refine callWith_K (h₀ := X.base) I.ok.mod.kin T.kC (thn (ha.run pos pins s σ H _ I h) fun us s1 ⟨vs, H1, I1, r1, v, ev, hok, q1⟩ => ⟨I1.kIn, ?_⟩) hst hpl
  subst ev
  obtain ⟨u1, rfl, rv1⟩ := vals1 r1
  obtain ⟨hp, g, dr, tk, os⟩ := s1
  have hsz : hp.objs.size ≤ hp.objs.size + 1 := Nat.le_succ _
  have hn : H1 (hp.objs.size + 1) = none := I1.hok.fresh hsz
  have kk : ∀ b o, hp.get? b = some o → ((hp.push (kdv_tup [u1])).push (PySem.HandSPX.excO C hp.objs.size)).get? b = some o := fun b o z => Heap.get?_push_of_some _ (Heap.get?_push_of_some _ z)
  have hget : ((hp.push (kdv_tup [u1])).push (PySem.HandSPX.excO C hp.objs.size)).get? (hp.objs.size + 1) = some (PySem.HandSPX.excO C hp.objs.size) := by heap_get
  have I2 : Inv X pins σ (upd H1 (hp.objs.size + 1) (exo (hp.objs.size + 1) C none)) ⟨(hp.push (kdv_tup [u1])).push (PySem.HandSPX.excO C hp.objs.size), g, dr, tk, os⟩ := I1.laid (t' := tk) kk hsz (exo_ok hget)
  have hsp : spInit X.K C fld okv [.ref (hp.objs.size + 1), v] (upd H1 (hp.objs.size + 1) (exo (hp.objs.size + 1) C none)) (fun v' H2 => v' = .non ∧ ∃ d, H2 (hp.objs.size + 1) = some (exo (hp.objs.size + 1) C (some d)) ∧ H2 d = some (exd d [(fld, v)]) ∧ H1 d = none ∧ Q (.ref C) (some d) (upd (L2.del H2 (hp.objs.size + 1)) d (.xd [(fld, v)]))) (fun _ _ _ => False) := by
    refine ⟨_, v, rfl, hok _ hn, T, hno, upd_same, fun d hd hne => ⟨rfl, d, upd_same, ?_, ?_, ?_⟩⟩
    · rw [upd_ne hne, upd_same]
    · rw [upd_ne hne] at hd; exact hd
    · have hd1 : H1 d = none := by rw [upd_ne hne] at hd; exact hd
      have e2 : upd (L2.del (upd (upd (upd H1 (hp.objs.size + 1) (exo (hp.objs.size + 1) C none)) d (exd d [(fld, v)])) (hp.objs.size + 1) (exo (hp.objs.size + 1) C (some d))) (hp.objs.size + 1)) d (.xd [(fld, v)]) = upd H1 d (.xd [(fld, v)]) := by
        funext b
        by_cases h1 : b = d
        · rw [h1, upd_same, upd_same]
        · rw [upd_ne h1, upd_ne h1]
          by_cases h2 : b = hp.objs.size + 1
          · rw [h2, L2.del_same, hn]
          · rw [L2.del_ne h2, upd_ne h2, upd_ne h1, upd_ne h2]
      rw [e2]
      exact q1 d hd1
  have r2 : Vals [V.ref (hp.objs.size + 1), v] [Value.ref (hp.objs.size + 1), u1] := .cons rfl (.cons rv1 .nil)
  have hl : [Value.ref (hp.objs.size + 1), u1].length = ps.length := F1.len _ _ _ _ hsp
  show wpAny _ _ (call (.ref C) [u1]) _ _ _
  refine wpAny_call (PySem.HandSPX.call_own PySem.F.excBase_ValueError (fun Y => PySem.HandSPX.refsVE_contains Y bm hbm) (I1.kIn _ _ hC) (looks_findIn I1.kIn iC) (fun self => bind_fn I1.kIn self tI) (by show 1 ≤ sizeLine; decide)
    (codeAny_mono (F1.run _ X.stack _ _ ⟨[Value.ref (hp.objs.size + 1), u1], []⟩ [Value.ref (hp.objs.size + 1), u1] _ _ (fun _ _ _ => False) (hr.make C [u1] []) (I2.env0.make C [u1] []) (by have := hb _ [Value.ref (hp.objs.size + 1), u1] I2.kIn (by simpa using hl); simpa using this) r2 hsp) fun r s' hq' => ?_))
  cases r with
  | error er => exact hx pins σ _ _ er s' I2 hq'
  | ok fl =>
    cases fl with
    | ret u =>
      obtain ⟨v', H2, os2, bare2, un2, hok2, rv, ev, d, ea, ed, hd1, q2⟩ := hq'
      subst ev
      obtain ⟨h2, g2, d2, t2, os'⟩ := s'
      obtain ⟨t0, G, J, kG, ge, hoe, na⟩ := mk_end0 (d2 := d2) (t2 := t2) I1 hsz kk un2 hok2 os2 bare2 ea ed hd1
      exact ⟨rv, _, _, _, ⟨G, g2, d2, t2, os'⟩, _, .ref C, some d, rfl, J, kG, ge, hoe, ⟨rfl, rfl, fun vs z => by cases z; rfl⟩, rfl, rfl, na, rfl, bare2, raises_own T.exC T.tyC, q2⟩
    | next => exact False.elim hq'
    | brk => exact False.elim hq'
    | cont => exact False.elim hq'
end DW
set_option Elab.async false
set_option linter.all false
set_option maxRecDepth 100000
set_option maxHeartbeats 4000000
namespace DW
open PySem PySem.Spec PyProof.Rows L2
section
variable {K : Fg} {B : Bx K}
def dRaise1 (C : Addr) (fld : Str) (okd : D → Prop) (φ : DE) : DSt := fun Ψ _ δ μ => φ Ψ δ μ fun x μ1 => okd x ∧ Ψ (.mk C (some ([fld], [x]))) δ μ1
theorem sRaise1 {W : WX} {C : Addr} {fld : Str} {okd : D → Prop} {okv : V → Hp → Prop} {te : TE} {φ : DE} (hW : B.W = W) (hok : ∀ (μ : Sto) (H : Hp) (v : V) (d : D), Rep K μ H v d → okd d → okv v H) (a : SE B te φ) :
    SS B (fun _ σ H => (fun (σ : L2.St) (H : Hp) (Q : XK) => tCons te tNil σ H fun vs H1 => ∃ v, vs = [v] ∧ (∀ a, H1 a = none → okv v (upd H1 a (exo a C none))) ∧ ∀ d, H1 d = none → Q (.ref C) (some d) (upd H1 d (.xd [(fld, v)]))) σ H fun cls d H' => W cls d σ H') (dRaise1 C fld okd φ) := fun D Δ σ H δ μ E S q => by
  subst hW
  refine a σ H δ μ _ _ S q fun v H1 x μ1 S1 e1 r1 q1 => ?_
  obtain ⟨q2, q3⟩ := q1
  refine ⟨v, rfl, fun b hb => hok μ1 _ v x (r1.mono (.new hb)) q2, fun d hd => ?_⟩
  have ev : Evo μ1 H1 μ1 (upd H1 d (.xd [(fld, v)])) := .new hd
  exact B.hW _ _ σ _ (.mk C (some ([fld], [x]))) δ μ1 (S1.step ev (S1.sto.new hd)) ⟨rfl, d, [v], rfl, upd_same, .new S1.sto hd, rfl, r1.mono ev⟩ q3
/-- n.f, n the error that a suite holds -/
def dXf (a : Addr) (x : XD) (C : Addr) (f : Str) (φ : DE) : DE := fun Ψ δ μ Φ => φ Ψ δ μ fun y μ1 => y = .hd (.ref a) ∧ ∃ (ns : List Str) (ds : List DW.D) (i : Nat) (d : DW.D), x = .mk C (some (ns, ds)) ∧ ns[i]? = some f ∧ ns.Nodup ∧ ds[i]? = some d ∧ Φ d μ1
theorem zip_lookup : ∀ {ns : List Str} {us : List V} {i : Nat} {f : Str} {v : V}, ns.Nodup → ns[i]? = some f → us[i]? = some v → (ns.zip us).lookup f = some v
  | [], us, i, f, v, _, h, _ => by cases h
  | n :: ns, [], i, f, v, _, _, h => by cases h
  | n :: ns, u :: us, 0, f, v, _, h1, h2 => by
    have e1 := Option.some.inj h1
    have e2 := Option.some.inj h2
    subst e1 e2
    simp [List.lookup]
  | n :: ns, u :: us, i + 1, f, v, hn, h1, h2 => by
    have hne : ¬ (f = n) := fun z => by
      have : f ∈ ns := List.mem_of_getElem? h1
      rw [z] at this
      exact (List.nodup_cons.mp hn).1 this
    have hb : (f == n) = false := by simp [hne]
    show (match f == n with | true => some u | false => (ns.zip us).lookup f) = some v
    rw [hb]
    exact zip_lookup (List.nodup_cons.mp hn).2 h1 h2
theorem sXf {a C : Addr} {cls : Value} {dd : Option Addr} {x : XD} {f : Str} {te : TE} {φ : DE} (rx : RepX K B.μ0 B.H0 cls dd x) (s : SE B te φ) : SE B (tXf a cls dd C f te) (dXf a x C f φ) := fun σ H δ μ Φ Q S q k =>
  s σ H δ μ _ _ S q fun v H1 y μ1 S1 e1 r1 q1 => by
    obtain ⟨rfl, ns, ds, i, d, rfl, h1, h2, h3, q2⟩ := q1
    obtain rfl := Rep.hd_inv r1
    obtain ⟨rfl, p, us, rfl, hp, hnm, hl, hr⟩ := rx
    have hp1 := (S1.evo.st _ _ hp hnm)
    obtain ⟨u, hu, ru⟩ := (hr.mono S1.evo).get h3
    exact ⟨rfl, rfl, p, _, u, rfl, hp1.1, zip_lookup h2 h1 hu, k u H1 d μ1 S1 e1 ru q2⟩
def rIsH (K : Fg) (cls : Value) (dd : Option Addr) (a : Addr) : List V → Hp → VK → Prop := fun xs H Q => ∃ C, cls = .ref C ∧ L2.ExcC K C ∧ (dd = none ∨ ∃ p fs, dd = some p ∧ H p = some (.xd fs)) ∧
  ∃ (c : V) (cv : Value) (b : Bool), xs = [.ref a, c] ∧ (∀ u, RelV c u → u = cv) ∧ PySem.W.kitOne K (.ref C) cv = some b ∧ Q (.bl b) H
theorem call_isH {X : Cx} {a : Addr} {cls : Value} {dd : Option Addr} {oe : Obj} {pn : List (Addr × Obj)} (hz : L2N.Zn cls dd oe) (hf : ∃ vs, oe.data = .fields vs) : CallR (X.suite a ((a, oe) :: pn)) (.builtin "isinstance") (rIsH X.K cls dd a) := by
  intro pins s σ H xs us Q I r h
  obtain ⟨C, rfl, hC, hdd, c, cv, b, rfl, hcv, e, q⟩ := h
  obtain ⟨hget, _⟩ := I.pin (a, oe) (List.mem_append.mpr (.inl List.mem_cons_self))
  obtain ⟨vs, hv⟩ := hf
  obtain ⟨u1, u2, rfl, r1, r2⟩ := vals2 r
  obtain rfl : u1 = Value.ref a := r1
  have ec := hcv _ r2
  subst ec
  obtain ⟨od, J⟩ : ∃ od, PySem.W.InstAt s.heap a oe C od := by
    obtain ⟨oc, od, oda, osl⟩ := oe
    obtain ⟨h1, h2, _⟩ := hz
    dsimp only at h1 h2 hv
    subst h1 hv
    rcases hdd with z | ⟨p, fs, z, hp⟩
    · subst z; subst h2; exact ⟨none, hget, rfl, rfl, trivial⟩
    · subst z; subst h2
      obtain ⟨mA, ⟨o, es, ep, ho, _⟩, _⟩ := (I.hok p _ hp)
      exact ⟨some o, hget, rfl, rfl, ho⟩
  have hcl : (PySem.W.clsIn X.K C).isSome = true := by
    obtain ⟨cd, q, _⟩ := PySem.W.any_some hC.hd
    rw [q]; rfl
  exact PySem.W.kia_one (PySem.W.kitx_exc hcl hC.hg hC.hk hC.hs hC.ha hC.hn hC.ht hC.hm) I.kIn J e (fun z => nomatch z) fun tk => ⟨.bl b, H, I.kept (t' := tk) fun _ _ z => z, rfl, q⟩
def kitE (K : Fg) : XD → V → Option Bool
  | .mk C _, .ref T => PySem.W.kitOne K (.ref C) (.ref T)
  | .mk C _, .ty T => PySem.W.kitOne K (.ref C) (.type T)
  | _, _ => none
def excE (K : Fg) : XD → Prop
  | .mk C _ => L2.ExcC K C
def dIsE (K : Fg) (a : Addr) (x : XD) (ψ : DA) : DE := fun Ψ δ μ Φ => ψ Ψ δ μ fun xs μ1 => ∃ c b, xs = [.hd (.ref a), .hd c] ∧ kitE K x c = some b ∧ excE K x ∧ Φ (.bl b) μ1
theorem sIsE {a : Addr} {cls : Value} {dd : Option Addr} {x : XD} {tas : TA} {ψ : DA} (rx : RepX K B.μ0 B.H0 cls dd x) (s : SA B tas ψ) : SE B (tCB (rIsH K cls dd a) tas) (dIsE K a x ψ) := fun σ H δ μ Φ Q S q k =>
  s σ H δ μ _ _ S q fun vs H1 xs μ1 S1 e1 r1 q1 => by
    obtain ⟨c, b, rfl, hk, hx, q2⟩ := q1
    obtain ⟨v, w, rfl, ra, rb⟩ := reps2 r1
    obtain rfl := Rep.hd_inv ra
    obtain rfl := Rep.hd_inv rb
    obtain ⟨C, fs⟩ := x
    have hcd : cls = .ref C ∧ (dd = none ∨ ∃ p fs', dd = some p ∧ H1 p = some (.xd fs')) := by
      cases fs with
      | none => exact ⟨rx.1, .inl rx.2⟩
      | some f =>
        obtain ⟨ns, ds⟩ := f
        obtain ⟨hc, p, us, hp, hH, hn, _⟩ := rx
        exact ⟨hc, .inr ⟨p, _, hp, (S1.evo.st _ _ hH hn).1⟩⟩
    obtain ⟨rfl, hdd⟩ := hcd
    refine ⟨C, rfl, hx, hdd, ?_⟩
    cases w with
    | ref T => exact ⟨_, .ref T, b, rfl, fun u h => by cases h; rfl, hk, k _ H1 _ μ1 S1 e1 (.bl _ .nil) q2⟩
    | ty T => exact ⟨_, .type T, b, rfl, fun u h => by cases h; rfl, hk, k _ H1 _ μ1 S1 e1 (.bl _ .nil) q2⟩
    | _ => cases hk
end
end DW
set_option Elab.async false
set_option linter.all false
set_option maxRecDepth 100000
set_option maxHeartbeats 4000000
namespace DW
open PySem PySem.Spec PyProof.Rows L2
theorem repr_ints {prog : Program} {w : World} : ∀ {l : List Int} {its : List Value}, Vals (l.map V.int) its → (∀ i ∈ l, i.natAbs.log2 < 1920) → ReprAll prog w its (l.map fun i => Str.ofString (toString i))
  | [], _, r, _ => by cases r; exact .nil
  | y :: l, _, r, h => by
    cases r with
    | cons r1 r2 =>
      obtain ⟨t, rfl⟩ := r1
      exact .cons (ReprIs.int t (h y List.mem_cons_self)) (repr_ints r2 fun z hz => h z (List.mem_cons_of_mem _ hz))
theorem piled_ints : ∀ (l : List Int), (∀ i ∈ l, i.natAbs.log2 < 1920) → piled (l.map fun i => Str.ofString (toString i)) ≤ 3000 * l.length
  | [], _ => by simp [piled]
  | y :: l, h => by
    have ih := piled_ints l fun z hz => h z (List.mem_cons_of_mem _ hz)
    have e := int_text_length_le (k := 1920) (by decide) (h y List.mem_cons_self)
    rw [List.map_cons, piled_cons, PySem.ofString_length, List.length_cons]
    omega
def tFmtI (K : Fg) (te : TE) : TE := fun σ H Q => te σ H fun x H1 => ∃ (a : Addr) (l : List Int), x = .ref a ∧ SqT K H1 a (l.map V.int) ∧ (∀ i ∈ l, i.natAbs.log2 < 1920) ∧ l.length ≤ 1000 ∧ ∀ m : Str, m.length ≤ 3000100 → Q (.str m) H1
theorem pe_fmtI {X : Cx} {e : Expr} {te : TE} {pos : Pos} {k : Nat} (hr : Room k X.A) (he : PE X e te) : PE X (.FormattedValue e (-1) none pos) (tFmtI X.K te) := by
  refine ⟨fun pins s σ H Q I h => ?_⟩
  refine wpAny_FormattedValue_plain (thn (he.run pins s σ H _ I h) fun v s1 hv => ?_)
  obtain ⟨x, H1, I1, r1, a, l, rfl, ht, hc, hz, q⟩ := hv
  cases r1
  obtain ⟨its, rv, ⟨o, ho, hcl, n, hd⟩, _⟩ := I1.tuple ht
  have hp := piled_ints l hc
  have htx := fmt_text (l.map fun i => Str.ofString (toString i))
  have hu := hr.units
  exact fmt_tuple (ts := l.map fun i => Str.ofString (toString i)) (by omega) ho hcl hd (repr_ints rv hc) (by rw [sizeLine_eq]; omega) fun m u tk hm => ⟨.str m, H1, I1.tok _, ⟨u, rfl⟩, q m (by omega)⟩
def okPath (K : Fg) : V → Hp → Prop := fun v H => ∃ (a : Addr) (l : List Int), v = .ref a ∧ SqT K H a (l.map V.int) ∧ (∀ i ∈ l, i.natAbs.log2 < 1920) ∧ l.length ≤ 1000
theorem strlen_append (a b : Str) : (a ++ b).length = a.length + b.length := by first | exact PySem.Str.length_append a b | exact StrLaws.length_append a b | exact PySem.StrLaws.length_append a b
/-- f"..{path}.." -/
theorem msg_path {X : Cx} {s1 s2 : Str} {k1 k2 : Nat} {k : Nat} {fld : Str} {q1 q2 q3 q4 q5 : Pos} (hr : Room k X.A) (h1 : s1.length ≤ 1000) (h2 : s2.length ≤ 1000) (hv : PE X (.Name fld q2) (tVar 1)) :
    ∃ te, PE X (.JoinedStr [.Constant (.str s1) k1 q1, .FormattedValue (.Name fld q2) (-1) none q3, .Constant (.str s2) k2 q5] q4) te ∧ ∀ (σ : L2.St) (H : Hp) (v : V), σ[1]? = some (some v) → okPath X.K v H → ∀ Q : VK, (∀ x, Q x H) → te σ H Q :=
  ⟨_, pe_joined (.cons pe_str (.cons (pe_fmtI hr hv) (.cons pe_str .nil))), fun σ H v e ⟨a, l, ev, hs, hi, hl⟩ Q hq => by
    subst ev
    refine ⟨s1, rfl, ?_, .ref a, e, a, l, rfl, hs, hi, hl, fun m hm => ⟨m, rfl, ?_, s2, rfl, ?_, hq _⟩⟩
    · rw [strlen_append, sizeLine_eq]; show 0 + _ ≤ _; omega
    · rw [strlen_append, strlen_append, sizeLine_eq]; show 0 + _ + _ ≤ _; omega
    · rw [strlen_append, strlen_append, strlen_append, sizeLine_eq]; show 0 + _ + _ + _ ≤ _; omega⟩
theorem reps_int_inv {K : Fg} {μ : Sto} {H : Hp} : ∀ {vs : List V} {ns : List Int}, Reps K μ H vs (ns.map D.int) → vs = ns.map V.int
  | [], [], _ => rfl
  | [], _ :: _, r => by have := r.length; simp at this
  | _ :: _, [], r => by have := r.length; simp at this
  | v :: vs, n :: ns, r => by
    rw [List.map_cons] at r ⊢
    rw [Rep.int_inv r.split.1, reps_int_inv r.split.2]
def okdPath : D → Prop := fun d => ∃ l : List Int, d = .tup (l.map .int) ∧ (∀ i ∈ l, i.natAbs.log2 < 1920) ∧ l.length ≤ 1000
theorem okdPath_ok {K : Fg} (μ : Sto) (H : Hp) (v : V) (d : D) (r : Rep K μ H v d) (h : okdPath d) : okPath K v H := by
  obtain ⟨l, rfl, hi, hl⟩ := h
  obtain ⟨a, vs, rfl, ht, hr⟩ := Rep.tup_inv r
  have e := reps_int_inv hr
  subst e
  exact ⟨a, l, rfl, ht.sq, hi, hl⟩
end DW
set_option Elab.async false
set_option linter.all false
set_option maxRecDepth 100000
namespace DW
open PySem PySem.Spec PyProof.Rows L2
section
variable {K : Fg} {μ : Sto} {Φ : DK}
/-- len of a text -/
def cLenStr : DC := fun xs μ Φ => ∃ z, xs = [.str z] ∧ z.length ≤ 100000 ∧ Φ (.int z.length) μ
theorem w_lenStr {s : Str} : cLenStr [.str s] μ Φ = ((TL.tl s).length ≤ 100000 ∧ Φ (.int (TL.tl s).length) μ) := propext ⟨fun ⟨z, e, h1, q⟩ => by cases e; exact ⟨h1, q⟩, fun ⟨h1, q⟩ => ⟨s, rfl, h1, q⟩⟩
theorem w_catStr {s t : Str} : oCatS (.str s) (.str t) μ Φ = ((TL.tl s).length + (TL.tl t).length ≤ 100000 ∧ Φ (.str (s ++ t)) μ) := propext ⟨fun ⟨a, b, e1, e2, h, q⟩ => by cases e1; cases e2; exact ⟨h, q⟩, fun ⟨h, q⟩ => ⟨s, t, rfl, rfl, h, q⟩⟩
theorem w_ixStr {s : Str} {i : Int} : oIxS (.str s) (.int i) μ Φ = ((TL.tl s).length ≤ 100000 ∧ ∃ c, atI (TL.tl s) i = some c ∧ Φ (.str ⟨#[c]⟩) μ) := propext ⟨fun ⟨z, j, c, e1, e2, h, h2, q⟩ => by cases e1; cases e2; exact ⟨h, c, h2, q⟩, fun ⟨h, c, h2, q⟩ => ⟨s, i, c, rfl, rfl, h, h2, q⟩⟩
theorem w_inStr {c : Nat} {z : Str} : oInS false (.str ⟨#[c]⟩) (.str z) μ Φ = Φ (.bl (decide (c ∈ TL.tl z))) μ := propext ⟨fun ⟨c', z', e1, e2, q⟩ => by cases e1; cases e2; exact q, fun q => ⟨c, z, rfl, rfl, q⟩⟩
theorem w_strE {s : Str} {P : Str → Prop} : (∃ z, D.str s = D.str z ∧ P z) = P s := propext ⟨fun ⟨z, e, h⟩ => by cases e; exact h, fun h => ⟨s, rfl, h⟩⟩
theorem w_strI {i : Int} : cStr [.int i] μ Φ = (i.natAbs.log2 < 1920 ∧ Φ (.str (toString i)) μ) := propext ⟨(fun h => by
  rcases h with ⟨j, e, h1, q⟩ | ⟨a, e, q⟩
  · cases e; exact ⟨h1, q⟩
  · cases e), fun ⟨h1, q⟩ => .inl ⟨i, rfl, h1, q⟩⟩
theorem w_strS {s : Str} : cStr [.str s] μ Φ = Φ (.str s) μ := propext ⟨(fun h => by
  rcases h with ⟨j, e, h1, q⟩ | ⟨a, e, q⟩
  · cases e
  · cases e; exact q), fun q => .inr ⟨s, rfl, q⟩⟩
end
end DW
set_option Elab.async false
set_option linter.all false
set_option maxRecDepth 100000
namespace DW
open PySem PySem.Spec PyProof.Rows L2
section
variable {K : Fg} {μ : Sto} {Φ : DK} {Ψ : XP} {δ : DEnv}
theorem u_iEn {φ : DE} {c : Int} {Ls : List D → Sto → Prop} : iEnD φ c Ψ δ μ Ls = φ Ψ δ μ fun x μ1 => ∃ ds, x = .tup ds ∧ Ls ((List.range ds.length).map fun (i : Nat) => .pr [.int (c + (i : Int)), ds.getD i .non]) μ1 := rfl
theorem u_raise1 {C : Addr} {fld : Str} {okd : D → Prop} {φ : DE} {Δ : DEnds} : dRaise1 C fld okd φ Ψ Δ δ μ = φ Ψ δ μ fun x μ1 => okd x ∧ Ψ (.mk C (some ([fld], [x]))) δ μ1 := rfl
theorem u_slS {φ : DE} {ol oh : XP → DEnv → Sto → (Option Int → Sto → Prop) → Prop} : dSlS φ ol oh Ψ δ μ Φ = φ Ψ δ μ fun x μ1 => ol Ψ δ μ1 fun lo μ2 => oh Ψ δ μ2 fun hi μ3 => ∃ z, x = .str z ∧ z.length ≤ 100000 ∧ Φ (.str (cutS z lo hi)) μ3 := rfl
def cListStr : DC := fun xs μ Φ => ∃ z : Str, xs = [.str z] ∧ z.length ≤ 100000 ∧ Φ (.lst (z.cps.toList.map fun c => .str ⟨#[c]⟩)) μ
theorem w_listStr {s : Str} : cListStr [.str s] μ Φ = ((TL.tl s).length ≤ 100000 ∧ Φ (.lst ((TL.tl s).map fun c => .str ⟨#[c]⟩)) μ) := propext ⟨fun ⟨z, e, h1, q⟩ => by cases e; exact ⟨h1, q⟩, fun ⟨h1, q⟩ => ⟨s, rfl, h1, q⟩⟩
end
end DW
set_option Elab.async false
set_option linter.all false
set_option maxRecDepth 100000
namespace DW
open PySem PySem.Spec PyProof.Rows L2
structure Two (μ : Sto) (p st : Addr) (L c : List D) (μ' : Sto) : Prop where
  hp : μ p = none
  ne : st ≠ p
  pL : μ' p = some (.lst L)
  sc : μ' st = some (.lst c)
  ot : ∀ a, a ≠ p → a ≠ st → μ' a = μ a
theorem Two.start {μ : Sto} {p st : Addr} {L c : List D} (hp : μ p = none) (hs : μ st = some (.lst c)) : Two μ p st L c (sset μ p (.lst L)) := by
  have ne : st ≠ p := fun z => by rw [z, hp] at hs; cases hs
  exact ⟨hp, ne, sset_same, by rw [sset_ne ne]; exact hs, fun a h _ => sset_ne h⟩
theorem Two.setS {μ μ' : Sto} {p st : Addr} {L c c2 : List D} (T : Two μ p st L c μ') : Two μ p st L c2 (sset μ' st (.lst c2)) :=
  ⟨T.hp, T.ne, by rw [sset_ne (Ne.symm T.ne)]; exact T.pL, sset_same, fun a h1 h2 => by rw [sset_ne h2]; exact T.ot a h1 h2⟩
theorem Two.setP {μ μ' : Sto} {p st : Addr} {L L2 c : List D} (T : Two μ p st L c μ') : Two μ p st L2 c (sset μ' p (.lst L2)) :=
  ⟨T.hp, T.ne, sset_same, by rw [sset_ne T.ne]; exact T.sc, fun a h1 h2 => by rw [sset_ne h1]; exact T.ot a h1 h2⟩
theorem Two.sub {μ μ' : Sto} {p st : Addr} {L c : List D} (T : Two μ p st L c μ') : Sub (sset μ st (.lst c)) μ' := fun a x e => by
  by_cases h : a = st
  · subst h; rw [sset_same] at e; rw [T.sc]; exact e
  · rw [sset_ne h] at e
    have h1 : a ≠ p := fun z => by rw [z, T.hp] at e; cases e
    rw [T.ot a h1 h]; exact e
theorem Two.del {μ μ' : Sto} {p st : Addr} {L c : List D} (T : Two μ p st L c μ') : sdel μ' p = sset μ st (.lst c) := by
  funext a
  unfold sdel
  by_cases h : a = p
  · subst h; rw [if_pos rfl, sset_ne (Ne.symm T.ne), T.hp]
  · rw [if_neg h]
    by_cases h2 : a = st
    · subst h2; rw [sset_same, T.sc]
    · rw [sset_ne h2]; exact T.ot a h h2
/-- a comprehension whose items are drawn from the state at st -/
theorem lcG_drawN {Ψ : XP} {Φ : DK} {n : Nat} {φ : DE} {δw : DEnv} {μ1 : Sto} {xs : List D} {st : Addr} (Sc : List D → Prop) (Inv : Nat → List D → Prop) {c : List D} (hz : xs.length ≤ 100000)
    (hst : μ1 st = some (.lst c)) (h0 : Sc c) (hI : Inv 0 [])
    (hs : ∀ (i : Nat) (d : D) (μ2 : Sto) (X : DK) (acc c : List D), xs[i]? = some d → μ2 st = some (.lst c) → Sc c → Inv i acc → acc.length = i →
      (∀ y c', Sc c' → Inv (i + 1) (acc ++ [y]) → X y (sset μ2 st (.lst c'))) → φ Ψ (δw.set n (some d)) μ2 X)
    (hd : ∀ acc c, Inv xs.length acc → acc.length = xs.length → Sc c → Φ (.lst acc) (sset μ1 st (.lst c))) : LcG (eName n) dYes φ δw Ψ xs μ1 Φ := fun p hp => by
  refine ⟨fun i μ' => ∃ acc c, Two μ1 p st acc c μ' ∧ Sc c ∧ Inv i acc ∧ acc.length = i, ⟨[], c, .start hp hst, h0, hI, rfl⟩, ?_, ?_⟩
  · rintro i d μ2 hi ⟨acc, c, T, s, I, hl⟩
    have hlt : i < xs.length := (List.getElem?_eq_some_iff.mp hi).1
    refine ⟨fun _ => ?_, fun z => nomatch z⟩
    exact hs i d μ2 _ acc c hi T.sc s I hl fun y c' s' I' => ⟨acc, T.setS.pL, by omega, _, c', T.setS.setP, s', I', by simp [hl]⟩
  · rintro μ2 ⟨acc, c, T, s, I, hl⟩
    exact ⟨acc, T.pL, by rw [T.del]; exact hd acc c I hl s⟩
section
variable {K : Fg} {μ : Sto} {Φ : DK} {Ψ : XP} {δ : DEnv}
theorem u_isE {a : Addr} {x : XD} {ψ : DA} : dIsE K a x ψ Ψ δ μ Φ = ψ Ψ δ μ fun xs μ1 => ∃ c b, xs = [.hd (.ref a), .hd c] ∧ kitE K x c = some b ∧ excE K x ∧ Φ (.bl b) μ1 := rfl
theorem w_isE {a : Addr} {c : V} {P : V → Bool → Prop} : (∃ c' b, [D.hd (.ref a), D.hd c] = [.hd (.ref a), .hd c'] ∧ P c' b) = ∃ b, P c b := propext ⟨fun ⟨c', b, e, q⟩ => by cases e; exact ⟨b, q⟩, fun ⟨b, q⟩ => ⟨c, b, rfl, q⟩⟩
theorem u_kitER {C T : Addr} {f : Option (List Str × List D)} : kitE K (.mk C f) (.ref T) = PySem.W.kitOne K (.ref C) (.ref T) := rfl
theorem u_kitET {C : Addr} {T : String} {f : Option (List Str × List D)} : kitE K (.mk C f) (.ty T) = PySem.W.kitOne K (.ref C) (.type T) := rfl
theorem u_excE {C : Addr} {f : Option (List Str × List D)} : excE K (.mk C f) = L2.ExcC K C := rfl
theorem u_xf {a C : Addr} {x : XD} {f : Str} {φ : DE} : dXf a x C f φ Ψ δ μ Φ = φ Ψ δ μ fun y μ1 => y = .hd (.ref a) ∧ ∃ (ns : List Str) (ds : List D) (i : Nat) (d : D), x = .mk C (some (ns, ds)) ∧ ns[i]? = some f ∧ ns.Nodup ∧ ds[i]? = some d ∧ Φ d μ1 := rfl
theorem w_xf1 {C : Addr} {f : Str} {d : D} {P : D → Prop} : (∃ (ns : List Str) (ds : List D) (i : Nat) (d' : D), XD.mk C (some ([f], [d])) = .mk C (some (ns, ds)) ∧ ns[i]? = some f ∧ ns.Nodup ∧ ds[i]? = some d' ∧ P d') = P d := propext ⟨fun ⟨ns, ds, i, d', e, h1, _, h2, q⟩ => by
  cases e
  cases i with
  | zero => cases h2; exact q
  | succ i => simp at h1, fun q => ⟨[f], [d], 0, d, rfl, rfl, by simp, rfl, q⟩⟩
end
end DW
set_option Elab.async false
set_option linter.all false
set_option maxRecDepth 100000
set_option maxHeartbeats 4000000
namespace DW
open PySem PySem.Spec PyProof.Rows L2
section layer
variable {X : Cx} {CX : CXT} {k : Nat} {f C : Addr} {fd : FuncData} {ps : List Str} {sp : Sp} {E : L2.St → XK} {x m : Str} {p pos apos : Pos} {e o : Expr} {es : List Expr} {ta : TE} {t : TA}
theorem run_makeS {pins : List (Addr × Obj)} {σ : L2.St} {H : Hp} {s : Shared} {Q : VK} {us : List Value} {vs : List V} (M : Mk X.K C f) (F : FnOk X.prog X.w X.K X.mg X.base CX k f fd ps sp) (hr : Room (k + 1) X.A) (hb : Binds X.K fd ps [])
    (hx : ∀ σ, PassesAt CX X σ (E σ)) (I : Inv X pins σ H s) (r : Vals vs us)
    (h : ∀ x dx, H x = none → H dx = none → dx ≠ x → sp (.ref x :: vs) (upd (upd H dx (.own x)) x (.ins C dx [])) (fun v H2 => v = .non ∧ Q (.ref x) H2) (E σ)) :
    wpAny (model X.prog X.w) X.A (call (.ref C) us) (EP X pins σ Q) X.xe s := by
  have hq := h (s.heap.objs.size + 1) s.heap.objs.size (I.hok.fresh (Nat.le_succ _)) (I.hok.fresh (Nat.le_refl _)) (Nat.ne_of_lt (Nat.lt_succ_self _))
  have I2 := Inv.made (C := C) I
  have r2 : Vals (V.ref (s.heap.objs.size + 1) :: vs) (Value.ref (s.heap.objs.size + 1) :: us) := .cons rfl r
  have hl : (Value.ref (s.heap.objs.size + 1) :: us).length = ps.length := by
    have e := r2.length
    rw [F.len _ _ _ _ hq] at e
    exact e.symm
  have hb2 := hb _ (Value.ref (s.heap.objs.size + 1) :: us) I2.kIn (by rw [List.append_nil]; exact hl)
  rw [List.append_nil] at hb2
  refine wpAny_call (make_map (f := f) I.kIn M.makes M.init (beq_iff_eq.mp M.fn) (codeAny_mono (F.run _ X.stack _ _ ⟨Value.ref (s.heap.objs.size + 1) :: us, []⟩ (Value.ref (s.heap.objs.size + 1) :: us) _ _ (E σ) (hr.make C us [])
    (I2.env0.make C us []) hb2 r2 hq) fun r s' hq' => ?_))
  cases r with
  | error e => exact hx σ pins _ _ e s' I2 hq'
  | ok fl =>
    cases fl with
    | ret u =>
      obtain ⟨v, H', I3, rv, ev, q3⟩ := I2.after hq'
      subst ev
      exact ⟨rv, ⟨V.ref (s.heap.objs.size + 1), H', I3, rfl, q3⟩⟩
    | next => exact False.elim hq'
    | brk => exact False.elim hq'
    | cont => exact False.elim hq'
def tMakeS (C : Addr) (sp : Sp) (E : L2.St → XK) (t : TA) : TE := fun σ H Q => t σ H fun vs H1 => ∀ x dx, H1 x = none → H1 dx = none → dx ≠ x → sp (.ref x :: vs) (upd (upd H1 dx (.own x)) x (.ins C dx [])) (fun v H2 => v = .non ∧ Q (.ref x) H2) (E σ)
theorem pe_makeS (M : Mk X.K C f) (F : FnOk X.prog X.w X.K X.mg X.base CX k f fd ps sp) (hr : Room (k + 1) X.A) (hg : Gl X x) (hm : X.mg x = some (.ref C)) (hb : Binds X.K fd ps []) (hx : ∀ σ, PassesAt CX X σ (E σ))
    (ha : PA X (e :: es) t) (hdb : (x == ("__debug__" : Str)) = false := by decide) (he : starEach (e :: es) X.env = (false, eval e X.env) :: starEach es X.env := by rfl) (hpl : (backTo pos (starEach es X.env)).any (·.1) = false := by rfl) :
    PE X (.Call (.Name x p) (e :: es) [] pos) (tMakeS C sp E t) := by
  refine ⟨fun pins s σ H Q I h => ?_⟩
  refine wpAny_Call_Name_kw (ld_glob I hg hm ?_ hdb)
  refine PySem.W.callWith_K (h₀ := X.base) I.ok.mod.kin M.kp (thn (ha.run pos pins s σ H _ I h) fun us s1 ⟨vs, H1, I1, r, q⟩ => ⟨I1.kIn, ?_⟩) he hpl
  exact run_makeS M F hr hb hx I1 r q
def tMethX (C : Addr) (m : Str) (sp : Sp) (E : L2.St → XK) (ta : TE) (t : TA) : TE := fun σ H Q => ta σ H fun x H1 => ∃ a dx fs, x = .ref a ∧ H1 a = some (.ins C dx fs) ∧ fs.lookup m = none ∧ t σ H1 fun vs H2 => sp (x :: vs) H2 Q (E σ)
theorem pe_methX {pl : Sem Bool} (he : PE X o ta) (c : Cls X.K C) (hm : Meth X.K C m f) (F : FnOk X.prog X.w X.K X.mg X.base CX k f fd ps sp) (hr : Room k X.A) (hb : Binds X.K fd ps []) (hx : ∀ σ, PassesAt CX X σ (E σ)) (ha : PA X (e :: es) t)
    (hst : starEach (e :: es) X.env = (false, eval e X.env) :: starEach es X.env := by rfl) (hpl : (backTo pos (starEach es X.env)).any (·.1) = false := by rfl)
    (ht : eval (.Call (.Attribute o m apos) (e :: es) [] pos) X.env = (do
      let ov ← eval o X.env
      standAt apos.atName
      let (f, first) ← holding [ov] (getMethod ov m pl)
      callWith pos f first (backTo pos (starEach (e :: es) X.env)) (backToKw pos (keywordEach [] X.env))) := by rfl) :
    PE X (.Call (.Attribute o m apos) (e :: es) [] pos) (tMethX C m sp E ta t) := by
  refine ⟨fun pins s σ H Q I h => ?_⟩
  refine PySem.W.methodCall_KW (pl := pl) (thn (he.run pins s σ H _ I h) fun u s1 ⟨x, H1, I1, rx, a, dx, fs, ex, ea, l, q⟩ => ?_) ht
  subst ex
  obtain rfl : u = Value.ref a := rx
  refine getmeth_ok I1 ea c hm l ?_
  refine PySem.W.callWith_K (first := [.ref a]) (h₀ := X.base) I.ok.mod.kin hm.kp (thn (ha.run pos pins s1 σ H1 _ I1 q) fun us s2 ⟨vs, H2, I2, r, q2⟩ => ⟨I2.kIn, ?_⟩) hst hpl
  exact run_fnS (us := .ref a :: us) (vs := .ref a :: vs) F hr hb (hx σ) I2 (.cons rfl r) q2
end layer
section
variable {K : Fg} {B : Bx K} {ta tv : TE} {φ φa φv : DE} {tas : TA} {ψ : DA} {μ : Sto} {H : Hp}
theorem Rep.obj_inv {v : V} {C : Addr} {ns : List Str} {ds : List D} (h : Rep K μ H v (.obj C ns ds)) : ∃ a dx us, v = .ref a ∧ H a = some (.ins C dx (ns.zip us)) ∧ NM μ a ∧ us.length = ns.length ∧ Reps K μ H us ds := by
  cases h with
  | obj h1 h2 h3 h4 _ => exact ⟨_, _, _, rfl, h1, h2, h3, h4⟩
/-- C(..), C a class whose __init__ keeps c -/
def dMakeS (C : Addr) (c : Con) (ψ : DA) : DE := fun Ψ δ μ Φ => ψ Ψ δ μ fun ds μ1 => ∀ x, μ1 x = none → c (.hd (.ref x) :: ds) (sset μ1 x (.ins C [] [])) (fun d μ2 => d = .non ∧ ∃ ns es, μ2 x = some (.ins C ns es) ∧ Φ (.obj C ns es) (sdel μ2 x)) (fun y μ2 => Ψ y δ μ2)
theorem sMakeS {C : Addr} {c : Con} (a : SA B tas ψ) : SE B (tMakeS C (spOf K c) (WE B.W) tas) (dMakeS C c ψ) := fun σ H δ μ Φ Q S q k =>
  a σ H δ μ _ _ S q fun vs H1 xs μ1 S1 e1 r1 q1 x dx hx hdx hne => by
    have hx' : upd H1 dx (.own x) x = none := by rw [upd_ne (Ne.symm hne)]; exact hx
    have ev0 : Evo μ1 H1 μ1 (upd H1 dx (.own x)) := .new hdx
    have st0 : StoOk K μ1 (upd H1 dx (.own x)) := S1.sto.new hdx
    have ev1 : Evo μ1 (upd H1 dx (.own x)) (sset μ1 x (.ins C [] [])) (upd (upd H1 dx (.own x)) x (.ins C dx [])) := .newC st0 hx'
    have st1 : StoOk K (sset μ1 x (.ins C [] [])) (upd (upd H1 dx (.own x)) x (.ins C dx [])) := st0.cell ev1 ⟨dx, [], upd_same, rfl, .nil⟩
    have ev := ev0.trans ev1
    refine ⟨sset μ1 x (.ins C [] []), .hd (.ref x) :: xs, _, _, st1, .hd _ (r1.mono ev), q1 x (S1.sto.fresh hx), fun v H' d μ' e s r ⟨hd, ns, es, hc, hq⟩ => ?_, fun cls dd H' y μ' e s rx hΨ => ?_⟩
    · subst hd
      obtain rfl := Rep.non_inv r
      refine ⟨rfl, ?_⟩
      obtain ⟨dx', us, hH, hl, hr⟩ := s x _ hc
      have sb : Sub (sdel μ' x) μ' := sdel_sub
      have e2 : Evo μ' H' (sdel μ' x) H' := sb.evo
      exact k _ H' _ (sdel μ' x) (S1.step (ev.trans (e.trans e2)) (sb.sto s)) (e1.trans (ev.trans (e.trans e2))) (.obj hH (NM.of sdel_same) hl (hr.mono e2) .nil) hq
    · exact B.hW cls dd σ H' y δ μ' (S1.step (ev.trans e) s) rx hΨ
/-- x.f, x an instance at rest -/
def dFld (C : Addr) (NS : List Str) (i : Nat) (φ : DE) : DE := fun Ψ δ μ Φ => φ Ψ δ μ fun x μ1 => ∃ ds d, x = .obj C NS ds ∧ ds[i]? = some d ∧ Φ d μ1
theorem sFldO {C : Addr} {NS : List Str} {f : Str} {i : Nat} (c : Cls K C) (n : NoAttr K C f) (hi : NS[i]? = some f) (hn : NS.Nodup) (a : SE B ta φ) : SE B (tFld K ta f) (dFld C NS i φ) := fun σ H δ μ Φ Q S q k =>
  a σ H δ μ _ _ S q fun v H1 x μ1 S1 e1 r1 q1 => by
    obtain ⟨ds, d, rfl, hd, q⟩ := q1
    obtain ⟨p, dx, us, rfl, hH, hnm, hl, hr⟩ := Rep.obj_inv r1
    obtain ⟨u, hu, ru⟩ := hr.get hd
    exact ⟨p, C, dx, _, u, rfl, hH, c, n, zip_lookup hn hi hu, k u H1 d μ1 S1 e1 ru q⟩
theorem putF_new {f : Str} {v : V} : ∀ {ns : List Str} {us : List V}, f ∉ ns → us.length = ns.length → putF f v (ns.zip us) = (ns ++ [f]).zip (us ++ [v])
  | [], [], _, _ => rfl
  | [], _ :: _, _, h => by simp at h
  | _ :: _, [], _, h => by simp at h
  | n :: ns, u :: us, hf, hl => by
    show (if n = f then (n, v) :: ns.zip us else (n, u) :: putF f v (ns.zip us)) = _
    rw [if_neg (fun e => hf (by rw [e]; exact List.mem_cons_self)), putF_new (fun h => hf (List.mem_cons_of_mem _ h)) (by simpa using hl)]
    rfl
/-- self.f = value, a new field of an instance in the making -/
def dSetF (C : Addr) (f : Str) (φv φa : DE) : DSt := fun Ψ Δ δ μ => φv Ψ δ μ fun y μ1 => φa Ψ δ μ1 fun x μ2 => ∃ a ns ds, x = .hd (.ref a) ∧ μ2 a = some (.ins C ns ds) ∧ f ∉ ns ∧ ns.length < 1000 ∧ Δ.nx δ (sset μ2 a (.ins C (ns ++ [f]) (ds ++ [y])))
theorem sSetF {C : Addr} {f : Str} (c : Cls K C) (n : NoAttr K C f) (b : SE B tv φv) (a : SE B ta φa) : SS B (sFld K ta tv f) (dSetF C f φv φa) := fun D Δ σ H δ μ E S q =>
  b σ H δ μ _ _ S q fun w H1 y μ1 S1 e1 r1 q1 => a σ H1 δ μ1 _ _ S1 q1 fun v H2 x μ2 S2 e2 r2 q2 => by
    obtain ⟨p, ns, ds, rfl, hc, hf, hz, q⟩ := q2
    obtain rfl := Rep.hd_inv r2
    obtain ⟨dx, us, hH, hl, hr⟩ := S2.sto p _ hc
    refine ⟨p, C, dx, _, rfl, hH, c, n, by rw [List.length_zip, hl, Nat.min_self]; exact hz, ?_⟩
    rw [putF_new hf hl]
    have ev : Evo μ2 H2 (sset μ2 p (.ins C (ns ++ [f]) (ds ++ [y]))) (upd H2 p (.ins C dx ((ns ++ [f]).zip (us ++ [w])))) := .cell hc fun h => h.notI hc
    exact E.nx σ _ δ _ (S2.step ev (S2.sto.cell ev ⟨dx, us ++ [w], upd_same, by simp [hl], (hr.append (r1.mono e2)).mono ev⟩)) q
/-- x.m(..), x an instance at rest -/
def dMethX (C : Addr) (NS : List Str) (c : Con) (φ : DE) (ψ : DA) : DE := fun Ψ δ μ Φ => φ Ψ δ μ fun x μ1 => ∃ es, x = .obj C NS es ∧ ψ Ψ δ μ1 fun ds μ2 => c (x :: ds) μ2 Φ fun y μ3 => Ψ y δ μ3
theorem lookup_zip_none {m : Str} : ∀ {ns : List Str} {us : List V}, m ∉ ns → (ns.zip us).lookup m = none
  | [], _, _ => rfl
  | _ :: _, [], _ => rfl
  | n :: ns, u :: us, h => by
    show (match m == n with | true => some u | false => (ns.zip us).lookup m) = none
    have : (m == n) = false := beq_eq_false_iff_ne.mpr fun e => h (by rw [e]; exact List.mem_cons_self)
    rw [this]
    exact lookup_zip_none fun z => h (List.mem_cons_of_mem _ z)
theorem sMethX {C : Addr} {NS : List Str} {m : Str} {c : Con} (hm : m ∉ NS) (a : SE B ta φ) (b : SA B tas ψ) : SE B (tMethX C m (spOf K c) (WE B.W) ta tas) (dMethX C NS c φ ψ) := fun σ H δ μ Φ Q S q k =>
  a σ H δ μ _ _ S q fun v H1 x μ1 S1 e1 r1 q1 => by
    obtain ⟨es, rfl, q2⟩ := q1
    obtain ⟨p, dx, us, rfl, hH, hnm, hl, hr⟩ := Rep.obj_inv r1
    refine ⟨p, dx, _, rfl, hH, lookup_zip_none hm, b σ H1 δ μ1 _ _ S1 q2 fun vs H2 ds μ2 S2 e2 r2 q3 => ?_⟩
    exact ⟨μ2, _, Φ, fun y μ3 => B.Ψ y δ μ3, S2.sto, .cons (r1.mono e2) r2, q3, fun v H3 d μ3 e3 s3 r3 q4 => k v H3 d μ3 (S2.step e3 s3) ((e1.trans e2).trans e3) r3 q4, fun cls dd H3 y μ3 e3 s3 rx q4 => B.hW cls dd σ H3 y δ μ3 (S2.step e3 s3) rx q4⟩
end
end DW
set_option Elab.async false
set_option linter.all false
set_option maxRecDepth 100000
set_option maxHeartbeats 4000000
namespace DW
open PySem PySem.Spec PyProof.Rows L2
section
variable {P : Program} {w : World} {A : Around} {E : Value → Shared → Prop} {s : Shared}
abbrev noneIn (w : World) : Obj := { cls := .type "set", dict := none, data := .set #[] 0 (.fresh 0 0 (!w.params.followText "set-order")) }
/-- what set.__init__ leaves of a list of ints -/
def SetMade (w : World) (s : Shared) (zs : List Int) (s2 : Shared) : Prop := ∃ (hp : Heap) (tk c : Nat), s2 = { s with heap := hp, toks := tk } ∧ SetR w hp s.heap.objs.size (fun j => decide (j ∈ zs)) c ∧ c ≤ zs.length ∧ ∀ b o, s.heap.get? b = some o → hp.get? b = some o
theorem set_init_list {l : Addr} {arr : Array Value} (zs : List Int) (cold : A.handled = none) (isl : s.heap.IsList l arr) (zz : IntsAre arr.toList zs) (few : zs.length + 1 < scanBound) :
    codeAny (model P w) A (.call (.builtin "set.__init__") ⟨[.ref s.heap.objs.size, .ref l], []⟩) (wants (fun r s2 => r = .none ∧ SetMade w s zs s2) E) { s with heap := s.heap.push (noneIn w) } := by
  have many : arr.size = zs.length := by
    have q := IntsAre.length zz
    rw [Array.length_toList] at q
    exact q
  have S0 : (s.heap.push (noneIn w)).get? s.heap.objs.size = some (noneIn w) := Heap.get?_push_size _ rfl
  refine codeAny_call_builtin F.called_set.init.plain F.entry_set_init (check_set_init_1 (s := { s with heap := s.heap.push (noneIn w) }) ⟨_, S0, rfl⟩ ?_)
  have il : (s.heap.push (noneIn w)).IsList l arr := isl.push _
  have ll : l < s.heap.objs.size := by obtain ⟨o, ho, _⟩ := isl; exact Heap.lt_size ho
  obtain ⟨⟨c0, d0, x0, sl0⟩, ho, hc, n0, hd⟩ := id il
  simp only at hc hd
  subst hc hd
  have g1 := F.sub_list_set
  have g2 := F.sub_list_frozenset
  have g3 : (Value.type "list" == Value.type "dict") = false := by decide
  unfold Builtin.«set.__init__» noKeywords Builtin.Frozenset.updateFrom
  generalize hPI : pyIter = PI
  wp_walk
  subst hPI
  refine wpAny_pyIter_list il (wpAny_bind (wpAny_runValue ?_))
  have z1 : (s.heap.push (noneIn w)).objs.size = s.heap.objs.size + 1 := Heap.size_push ..
  have cold3 : A.in1.in1.handled = none := by simp [cold]
  have apart : l ≠ (s.heap.push (noneIn w)).objs.size := by rw [z1]; exact Nat.ne_of_lt (Nat.lt_succ_of_lt ll)
  have apart2 : s.heap.objs.size ∉ [(s.heap.push (noneIn w)).objs.size, l] := by
    rw [z1]
    intro q
    rcases List.mem_cons.1 q with q | q
    · exact absurd q (Nat.ne_of_lt (Nat.lt_succ_self _))
    · exact absurd (List.mem_singleton.1 q) (Nat.ne_of_gt ll)
  have vals : ∀ (i : Nat) (v : Value), arr[i]? = some v → ∃ k t, zs[i]? = some k ∧ v = .int k t := fun i v hv => by
    have lt : i < zs.length := by rw [← many]; exact (Array.getElem?_eq_some_iff.mp hv).1
    obtain ⟨t, e⟩ := zz.int_at i v (by rw [Array.getElem?_toList]; exact hv)
    exact ⟨zs[i], t, List.getElem?_eq_getElem lt, by rw [e, List.getD_eq_getElem?_getD, List.getElem?_eq_getElem lt] <;> rfl⟩
  have start : ((s.heap.push (noneIn w)).push { cls := .type "list_iterator", data := .fields #[.ref l, .int 0 0] }).get? s.heap.objs.size = some (noneIn w) := Heap.get?_push_of_some _ S0
  refine set_update_ints ((Walks.list cold3 _ l apart arr).toS) s.heap.objs.size apart2 zs many few vals (arr.size - 0) 0 { s with heap := (s.heap.push (noneIn w)).push { cls := .type "list_iterator", data := .fields #[.ref l, .int 0 0] } } (by omega) (Nat.zero_le _) ⟨⟨_, Heap.get?_push_size _ rfl, rfl, rfl⟩, il.push _⟩ ?h0 ?hf
  · exact ⟨0, Nat.le_refl 0, setR_new_at start⟩
  intro s2 c mv lc hr
  obtain ⟨hp2, gg, dd, tt, oo⟩ := s2
  obtain rfl : gg = s.gens := mv.gens
  obtain rfl : dd = s.drawn := mv.drawn
  obtain rfl : oo = s.os := mv.os
  rw [many] at lc
  refine wpAny_pure (wpAny_pure ⟨rfl, hp2, tt, c, rfl, hr, lc, fun b o e => ?_⟩)
  have lb : b < s.heap.objs.size := Heap.lt_size e
  refine mv.heap b o (fun q => ?_) (Heap.get?_push_of_some _ (Heap.get?_push_of_some _ e))
  rcases List.mem_cons.1 q with q | q
  · exact absurd q (Nat.ne_of_lt lb)
  · have := List.mem_singleton.1 q; rw [z1] at this; exact absurd this (Nat.ne_of_lt (Nat.lt_succ_of_lt lb))
theorem set_of_list {l : Addr} {arr : Array Value} (zs : List Int) {G : Value → Shared → Prop} (cold : A.handled = none) (isl : s.heap.IsList l arr) (zz : IntsAre arr.toList zs) (few : zs.length + 1 < scanBound)
    (fin : ∀ s2, SetMade w s zs s2 → G (.ref s.heap.objs.size) s2) : wpAny (model P w) A (call (.type "set") [.ref l]) G E s := by
  obtain ⟨c0, t0, m0⟩ := F.called_set.mro
  have a1 := F.called_set.made; have a2 := F.called_set.sub; have a3 := F.called_set.notType; have a4 := F.called_set.canCreate
  have a5 := F.typeCall_set_1 (.ref l)
  refine wpAny_call (codeAny_of_tree (show wpAny _ _ (callAny (.type "set") _) _ _ _ from wpAny_pure ⟨Code.quiet_builtin _ (by decide +kernel), codeAny_builtin F.entry_type_call ?_⟩))
  rw [Around.under_plain (weight_type_call_type "set" [.ref l] []) rfl]
  repeat (any_goals (first | assumption | wp_step))
  refine codeAny_mono (code_set_led1 (.ref l) (E := E) (Q₁ := fun u s1 => u = .ref s.heap.objs.size ∧ s1 = { s with heap := s.heap.push (noneIn w) }) ⟨rfl, rfl⟩) fun r s1 hr => ?_
  match r, hr with
  | .error e, hr => exact hr
  | .ok .next, hr => exact hr.elim
  | .ok .brk, hr => exact hr.elim
  | .ok .cont, hr => exact hr.elim
  | .ok (.ret u), hr =>
    obtain ⟨rfl, rfl⟩ := hr
    have T : Shared.TypeIs { s with heap := s.heap.push (noneIn w) } (.ref s.heap.objs.size) "set" := ⟨_, Heap.get?_push_size _ rfl, rfl⟩
    have a6 := F.called_set.init.lookup; have a7 := F.called_set.init.bind (.ref s.heap.objs.size)
    repeat (any_goals (first | assumption | wp_step))
    refine codeAny_mono (set_init_list zs (A := _) (E := E) (by simp [cold]) isl zz few) fun r2 s2 hr2 => ?_
    match r2, hr2 with
    | .error e, hr2 => exact hr2
    | .ok .next, hr2 => exact hr2.elim
    | .ok .brk, hr2 => exact hr2.elim
    | .ok .cont, hr2 => exact hr2.elim
    | .ok (.ret u), hr2 =>
      obtain ⟨rfl, hm⟩ := hr2
      repeat (any_goals (first | assumption | wp_step))
      exact fin _ hm
end
theorem nodup_le : ∀ {l m : List Int}, l.Nodup → (∀ x ∈ l, x ∈ m) → l.length ≤ m.length
  | [], _, _, _ => Nat.zero_le _
  | x :: l, m, nd, h => by
    have hx := h x List.mem_cons_self
    obtain ⟨n1, n2⟩ := List.nodup_cons.mp nd
    have := nodup_le (m := m.erase x) n2 fun y hy => (List.mem_erase_of_ne (fun (e : y = x) => n1 (by rw [← e]; exact hy))).mpr (h y (List.mem_cons_of_mem _ hy))
    rw [List.length_erase_of_mem hx] at this
    have := List.length_pos_of_mem hx
    rw [List.length_cons]
    omega
theorem SetR.few {w : World} {h : Heap} {a : Addr} {S : Int → Bool} {n : Nat} (R : SetR w h a S n) {m : List Int} (hm : ∀ k, S k = true → k ∈ m) : n ≤ m.length := by
  obtain ⟨o, es, ep, t, ho, hex, hd, g, nd, hs, hb, hf, hn, hr, hl⟩ := R
  have := nodup_le nd (m := m) fun x hx => hm x ((hs x).mpr hx)
  rw [List.length_map, Array.length_toList, hn] at this
  exact this
def tSortSet (K : Fg) (ta : TE) : TE := fun σ H Q => ta σ H fun x H1 => ∃ (l : Addr) (zs : List Int), x = .ref l ∧ (SqL K H1 l (zs.map V.int) ∨ SqT K H1 l (zs.map V.int)) ∧ (zs.length ≤ 1000 ∧ ∃ bd : List Int, bd.length < 64 ∧ ∀ z ∈ zs, z ∈ bd) ∧
  ∀ (ns : List Int) (p : Addr), ns.Pairwise (· < ·) → (∀ k : Int, k ∈ ns ↔ k ∈ zs) → H1 p = none → Q (.ref p) (upd H1 p (.lst (ns.map V.int)))
theorem pe_sortSet {X : Cx} {a : Expr} {ta : TE} {p p2 q pos : Pos} (hg : Gl X "sorted") (hm : X.mg "sorted" = none) (hg2 : Gl X "set") (hm2 : X.mg "set" = none) (ha : PE X a ta) (hc : X.calm = true := by rfl)
    (na : starEach [a] X.env = (false, eval a X.env) :: starEach [] X.env := by rfl) : PE X (.Call (.Name "sorted" p) [.Call (.Name "set" p2) [a] [] q] [] pos) (tSortSet X.K ta) := by
  refine ⟨fun pins s σ H Q I h => Call_ (ld_blt I hg hm boot_sorted (callWith_builtin1 (args_cons (Call_ (ld_blt I hg2 hm2 boot_set ?_)) rfl) rfl rfl))⟩
  refine callWith_type1 (args_cons (thn (ha.run pins s σ H _ I h) fun v s1 ⟨x, H1, I1, r1, l, zs, ex, hq, ⟨h1000, bd, h64, hbd⟩, k⟩ => args_nil ?_) na) na rfl
  subst ex
  cases r1
  have last : ∀ s2, SetMade X.w s1 zs s2 → wpAny (model X.prog X.w) X.A (spliced (backTo pos (starEach [] X.env))) (fun vs s3 => wpAny (model X.prog X.w) X.A (call (.builtin "sorted") (Value.ref s1.heap.objs.size :: vs)) (EP X pins σ Q) X.xe s3) X.xe s2 := by
    rintro s2 ⟨hp, tk, c, es, R0, hcz, kp⟩
    have I2 : Inv X pins σ H1 s2 := by rw [es]; exact I1.kept (t' := tk) kp
    have R : SetR X.w s2.heap s1.heap.objs.size (fun j => decide (j ∈ zs)) c := by rw [es]; exact R0
    refine args_nil (sorted_set (s := s2) R (I2.ok.hd hc) (Nat.lt_of_le_of_lt (SetR.few R fun k hk => hbd k (by simpa using hk)) h64) fun s4 r out c2 ns kk gg oo fresh at4 are asc mem len => ?_)
    have room : (ns.map V.int).length ≤ sizeLine := by rw [List.length_map, len, sizeLine_eq]; omega
    have none4 : H1 r = none := I2.hok.fresh fresh
    have J : Inv X pins σ (upd H1 r (.lst (ns.map V.int))) { s2 with heap := s4.heap, gens := s4.gens, drawn := s4.drawn, toks := s4.toks } :=
      I2.call (ch := []) (Un.laid kk fresh none4) (I2.hok.laid kk fresh ⟨room, out.toList, c2, vals_of_ints are, at4⟩) (by rw [gg]; exact I2.bare) (fun _ z => nomatch z)
    have same : s4 = { s2 with heap := s4.heap, gens := s4.gens, drawn := s4.drawn, toks := s4.toks } := by
      cases s4; cases s2; cases oo; rfl
    rw [same]
    exact ⟨.ref r, _, J, rfl, k ns r asc (fun z => (mem z).trans decide_eq_true_iff) none4⟩
  have small : zs.length + 1 < scanBound := by unfold scanBound; omega
  rcases hq with hq | hq
  · obtain ⟨its, r, pl, hz⟩ := I1.list hq
    exact set_of_list zs (I1.ok.hd hc) pl.isList (by simpa using r.ints) small last
  · obtain ⟨its, r, pl, hz⟩ := I1.tuple hq
    exact call_set_tupI zs (I1.ok.hd hc) pl (by simpa using r.ints) small fun hp tk c R hcz kp => last _ ⟨hp, tk, c, rfl, R, hcz, kp⟩
def dSortSet (φ : DE) : DE := fun Ψ δ μ Φ => φ Ψ δ μ fun x μ1 => ∃ zs : List Int, Items μ1 x (zs.map .int) ∧ (zs.length ≤ 1000 ∧ ∃ bd : List Int, bd.length < 64 ∧ ∀ z ∈ zs, z ∈ bd) ∧ ∀ ns : List Int, ns.Pairwise (· < ·) → (∀ k : Int, k ∈ ns ↔ k ∈ zs) → Φ (.lst (ns.map .int)) μ1
theorem reps_of_ints {K : Fg} {μ : Sto} {H : Hp} : ∀ ns : List Int, Reps K μ H (ns.map V.int) (ns.map D.int)
  | [] => .nil
  | n :: ns => .int n (reps_of_ints ns)
theorem sSortSet {K : Fg} {B : Bx K} {ta : TE} {φ : DE} (a : SE B ta φ) : SE B (tSortSet K ta) (dSortSet φ) := fun σ H δ μ Φ Q S q k =>
  a σ H δ μ _ _ S q fun v H1 x μ1 S1 e1 r1 q1 => by
    obtain ⟨zs, hi, hz, q2⟩ := q1
    obtain ⟨l, us, rfl, h1, h2⟩ := hi.ok S1.sto r1
    have e := reps_int_inv h2
    subst e
    exact ⟨l, zs, rfl, h1, hz, fun ns p asc mem hp => k _ _ _ μ1 (S1.step (.new hp) (S1.sto.new hp)) (e1.trans (.new hp)) (rep_lst S1.sto hp (reps_of_ints ns)) (q2 ns asc mem)⟩
end DW
set_option Elab.async false
set_option linter.all false
set_option maxRecDepth 100000
set_option maxHeartbeats 4000000
namespace DW
open PySem PySem.Spec PyProof.Rows L2
section
variable {K : Fg} {B : Bx K} {ta tb : TE} {φ φ' φa φb : DE} {tas : TA} {ψ : DA}
def cMaxL : DC := fun xs μ Φ => ∃ x ns, xs = [x] ∧ Items μ x (ns.map .int) ∧ isTup x = false ∧ ns ≠ [] ∧ ∀ m, m ∈ ns → (∀ y, y ∈ ns → y ≤ m) → Φ (.int m) μ
def cMinL : DC := fun xs μ Φ => ∃ x ns, xs = [x] ∧ Items μ x (ns.map .int) ∧ isTup x = false ∧ ns ≠ [] ∧ ∀ m, m ∈ ns → (∀ y, y ∈ ns → m ≤ y) → Φ (.int m) μ
def oRepL : DO := fun x y μ Φ => ∃ ds k, x = .lst ds ∧ y = .int k ∧ k ≤ 100000 ∧ -100000 ≤ k ∧ ds.length * k.toNat ≤ 100000 ∧ Φ (.lst (List.replicate k.toNat ds).flatten) μ
theorem Reps.rep {μ : Sto} {H : Hp} {vs : List V} {ds : List D} (h : Reps K μ H vs ds) : ∀ k : Nat, Reps K μ H (List.replicate k vs).flatten (List.replicate k ds).flatten
  | 0 => .nil
  | k + 1 => by rw [List.replicate_succ, List.replicate_succ, List.flatten_cons, List.flatten_cons]; exact h.append (h.rep k)
def dLstR1 (φ : DE) : DE := fun Ψ δ μ Φ => φ Ψ δ μ fun x μ1 => ∃ j, x = .int j ∧ 0 ≤ j ∧ j ≤ 100000 ∧ Φ (.lst (rngD 0 j.toNat)) μ1
def iZipL (φ φ' : DE) : DI := fun Ψ δ μ Φ => φ Ψ δ μ fun x μ1 => φ' Ψ δ μ1 fun y μ2 => ∃ xs ys, x = .lst xs ∧ y = .lst ys ∧ Φ ((xs.zip ys).map fun p => .pr [p.1, p.2]) μ2
def iEnL (φ : DE) : DI := fun Ψ δ μ Φ => φ Ψ δ μ fun x μ1 => ∃ ds, x = .lst ds ∧ Φ ((List.range ds.length).map fun (i : Nat) => .pr [.int (i : Int), ds.getD i .non]) μ1
/-- xs.index(y), flat -/
def dIdx (φa φb : DE) : DE := fun Ψ δ μ Φ => φa Ψ δ μ fun x μ1 => ∃ ds, x = .lst ds ∧ φb Ψ δ μ1 fun y μ2 => flatD y = true ∧ ds.all flatD = true ∧ ∃ (j : Nat) (z : D), ds[j]? = some z ∧ eqF z y = true ∧ (∀ (m : Nat) (z' : D), m < j → ds[m]? = some z' → eqF z' y = false) ∧ Φ (.int j) μ2
/-- o.pop(i), o a handle -/
def dPopAt (φa φb : DE) : DE := fun Ψ δ μ Φ => φa Ψ δ μ fun x μ1 => ∃ a ds, x = .hd (.ref a) ∧ μ1 a = some (.lst ds) ∧ φb Ψ δ μ1 fun y μ2 => ∃ es, μ2 a = some (.lst es) ∧ es.length ≤ 100000 ∧ ∃ (i : Nat) (d : D), y = .int i ∧ es[i]? = some d ∧ Φ d (sset μ2 a (.lst (es.eraseIdx i)))
theorem Reps.eraseIdx {μ : Sto} {H : Hp} {vs : List V} {ds : List D} (h : Reps K μ H vs ds) (i : Nat) : Reps K μ H (vs.eraseIdx i) (ds.eraseIdx i) := by
  rw [List.eraseIdx_eq_take_drop_succ, List.eraseIdx_eq_take_drop_succ]
  exact (h.take _).append (h.drop _)
end
section
variable {K : Fg} {B : Bx K} {ta tb : TE} {φ φ' φa φb : DE} {tas : TA} {ψ : DA}
theorem TupAt.bare {μ : Sto} {H : Hp} {a : Addr} {us : List V} (h : TupAt K μ H a us) : (∃ (o : Obj) (us : List V), H a = some (.frz o (.tup us)) ∧ o.dict = none ∧ o.cls = .type "tuple") ∨ ∃ o, K.lookup a = some o ∧ o.cls = .type "tuple" ∧ o.dict = none :=
  h.elim (fun ⟨o, h1, h2, h3, _⟩ => .inl ⟨o, us, h1, h2, h3⟩) fun ⟨o, _, _, h1, h2, h3, _⟩ => .inr ⟨o, h1, h2, h3⟩
def dCntT (φa φb : DE) : DE := fun Ψ δ μ Φ => φa Ψ δ μ fun x μ1 => ∃ ns : List Int, x = .tup (ns.map .int) ∧ φb Ψ δ μ1 fun y μ2 => ∃ k : Int, y = .int k ∧ Φ (.int (ns.count k : Nat)) μ2
def dIdxT (φa φb : DE) : DE := fun Ψ δ μ Φ => φa Ψ δ μ fun x μ1 => ∃ ns : List Int, x = .tup (ns.map .int) ∧ φb Ψ δ μ1 fun y μ2 => ∃ (k : Int) (j : Nat), y = .int k ∧ ns[j]? = some k ∧ (∀ m, m < j → ns[m]? ≠ some k) ∧ Φ (.int j) μ2
end
end DW
set_option Elab.async false
set_option linter.all false
set_option maxRecDepth 100000
set_option maxHeartbeats 4000000
namespace DW
open PySem PySem.Spec PyProof.Rows L2
section
variable {M : Model} {A : Around} {E : Value → Shared → Prop} {s : Shared}
theorem callWith_tyKw {pos : Pos} {T : String} {x : Sem Value} {rest : List (Bool × Sem Value)} {kws : List (Option Str × Sem Value)} {Q : Value → Shared → Prop} (plain : ((false, x) :: rest).any (·.1) = false) (named : kws.any (·.1.isNone) = false) (all : kws.all (·.1.isSome) = true)
    (h : wpAny M A (spliced ((false, x) :: rest)) (fun vs s1 => wpAny M A (evalAll (kws.map (·.2))) (fun ks s2 => wpAny M A (call (.type T) vs ((kws.filterMap (·.1)).zip ks)) Q E s2) E s1) E s) :
    wpAny M A (callWith pos (.type T) [] ((false, x) :: rest) kws) Q E s := by
  have h2 : wpAny M A (evalArgs (.type T) true ((false, x) :: rest) kws) (fun a s1 => wpAny M A (call (.type T) ([] ++ a.pos) a.kw) Q E s1) E s := evalArgs_kwB all h
  unfold callWith
  refine wpAny_bind (wpAny_holding (wpAny_mono h2 (fun a s1 h1 => wpAny_bind (wpAny_standAt ?_)) fun _ _ z => z))
  simp only [plain, named, Bool.or_false]
  exact wpAny_bind (wpAny_pure (wpAny_bind (wpAny_mono h1 (fun r s2 hr => wpAny_bind (wpAny_holding (wpAny_point (wpAny_pure hr)))) fun _ _ z => z)))
end
section
variable {K : Fg} {B : Bx K} {ta tb : TE} {φa φb : DE} {w : World} {d : Addr} {tbl : List (Str × D)}
/-- d[z] -/
def oIxD (d : Addr) (tbl : List (Str × D)) : DO := fun x y μ Φ => x = .hd (.ref d) ∧ ∃ z v, y = .str z ∧ tbl.lookup z = some v ∧ Φ v μ
def oInD (d : Addr) (tbl : List (Str × D)) (neg : Bool) : DO := fun x y μ Φ => y = .hd (.ref d) ∧ ∃ z, x = .str z ∧ Φ (.bl (if neg then !(tbl.lookup z).isSome else (tbl.lookup z).isSome)) μ
end
section
variable {K : Fg} {B : Bx K} {tas : TA} {ψ : DA}
def dCallF (i : Nat) (F : Addr → Con → Prop) (ψ : DA) : DE := fun Ψ δ μ Φ => ∃ f c, F f c ∧ δ[i]? = some (some (.hd (.ref f))) ∧ ψ Ψ δ μ fun ds μ1 => c ds μ1 Φ fun y μ2 => Ψ y δ μ2
end
end DW
set_option Elab.async false
set_option linter.all false
set_option maxRecDepth 100000
set_option maxHeartbeats 4000000
namespace DW
open PySem PySem.Spec PyProof.Rows L2
section
variable {K : Fg} {B : Bx K} {ta : TE} {tas : TA} {φ φ' φa φb φv : DE} {ψ : DA} {W : WX} {C : Addr} {NS : List Str} {m : Str} {c : Con}
theorem sMakeSW (hW : B.W = W) (a : SA B tas ψ) : SE B (tMakeS C (spOf K c) (WE W) tas) (dMakeS C c ψ) := by
  subst hW
  exact sMakeS a
theorem sMethXW (hm : m ∉ NS) (hW : B.W = W) (a : SE B ta φ) (b : SA B tas ψ) : SE B (tMethX C m (spOf K c) (WE W) ta tas) (dMethX C NS c φ ψ) := by
  subst hW
  exact sMethX hm a b
end
/-- a statement of a class's suite -/
def clsS : Stmt → Nat → Stmt
  | .ClassDef _ _ _ b _ _ _ _ _ _ _, j => b.getD j (.Pass ⟨0, 0, 0, 0⟩)
  | s, _ => s
section
variable {K : Fg} {φ φ' φa φb φv : DE} {ψ : DA} {Ψ : XP} {δ : DEnv} {μ : Sto} {Φ : DK} {Δ : DEnds} {C d : Addr} {NS : List Str} {i j : Nat} {c : Con} {f z : Str} {F : Addr → Con → Prop} {ds es : List D} {k : Int} {tbl : List (Str × D)} {n : Bool} {x : D}
theorem u_fld : dFld C NS i φ Ψ δ μ Φ = φ Ψ δ μ fun x μ1 => ∃ ds d, x = .obj C NS ds ∧ ds[i]? = some d ∧ Φ d μ1 := rfl
theorem w_fld {P : D → Prop} : (∃ es d, D.obj C NS ds = .obj C NS es ∧ es[i]? = some d ∧ P d) = ∃ d, ds[i]? = some d ∧ P d := propext ⟨fun ⟨es, d, e, h, q⟩ => by cases e; exact ⟨d, h, q⟩, fun ⟨d, h, q⟩ => ⟨_, d, rfl, h, q⟩⟩
theorem w_someE {y : D} {P : D → Prop} : (∃ d, some y = some d ∧ P d) = P y := propext ⟨fun ⟨_, e, q⟩ => by cases e; exact q, fun q => ⟨_, rfl, q⟩⟩
theorem u_setF : dSetF C f φv φa Ψ Δ δ μ = φv Ψ δ μ fun y μ1 => φa Ψ δ μ1 fun x μ2 => ∃ a ns ds, x = .hd (.ref a) ∧ μ2 a = some (.ins C ns ds) ∧ f ∉ ns ∧ ns.length < 1000 ∧ Δ.nx δ (sset μ2 a (.ins C (ns ++ [f]) (ds ++ [y]))) := rfl
theorem u_methX : dMethX C NS c φ ψ Ψ δ μ Φ = φ Ψ δ μ fun x μ1 => ∃ es, x = .obj C NS es ∧ ψ Ψ δ μ1 fun ds μ2 => c (x :: ds) μ2 Φ fun y μ3 => Ψ y δ μ3 := rfl
theorem w_objE {P : List D → Prop} : (∃ es, D.obj C NS ds = .obj C NS es ∧ P es) = P ds := propext ⟨fun ⟨_, e, q⟩ => by cases e; exact q, fun q => ⟨_, rfl, q⟩⟩
theorem u_makeS : dMakeS C c ψ Ψ δ μ Φ = ψ Ψ δ μ fun ds μ1 => ∀ x, μ1 x = none → c (.hd (.ref x) :: ds) (sset μ1 x (.ins C [] [])) (fun d μ2 => d = .non ∧ ∃ ns es, μ2 x = some (.ins C ns es) ∧ Φ (.obj C ns es) (sdel μ2 x)) (fun y μ2 => Ψ y δ μ2) := rfl
theorem u_sortSet : dSortSet φ Ψ δ μ Φ = φ Ψ δ μ fun x μ1 => ∃ zs : List Int, Items μ1 x (zs.map .int) ∧ (zs.length ≤ 1000 ∧ ∃ bd : List Int, bd.length < 64 ∧ ∀ z ∈ zs, z ∈ bd) ∧ ∀ ns : List Int, ns.Pairwise (· < ·) → (∀ k : Int, k ∈ ns ↔ k ∈ zs) → Φ (.lst (ns.map .int)) μ1 := rfl
theorem u_lstR1 : dLstR1 φ Ψ δ μ Φ = φ Ψ δ μ fun x μ1 => ∃ j, x = .int j ∧ 0 ≤ j ∧ j ≤ 100000 ∧ Φ (.lst (rngD 0 j.toNat)) μ1 := rfl
theorem u_iZipL {Φ : List D → Sto → Prop} : iZipL φ φ' Ψ δ μ Φ = φ Ψ δ μ fun x μ1 => φ' Ψ δ μ1 fun y μ2 => ∃ xs ys, x = .lst xs ∧ y = .lst ys ∧ Φ ((xs.zip ys).map fun p => D.pr [p.1, p.2]) μ2 := rfl
theorem u_iEnL {Φ : List D → Sto → Prop} : iEnL φ Ψ δ μ Φ = φ Ψ δ μ fun x μ1 => ∃ ds, x = .lst ds ∧ Φ ((List.range ds.length).map fun (i : Nat) => D.pr [.int (i : Int), ds.getD i .non]) μ1 := rfl
theorem u_idx : dIdx φa φb Ψ δ μ Φ = φa Ψ δ μ fun x μ1 => ∃ ds, x = .lst ds ∧ φb Ψ δ μ1 fun y μ2 => flatD y = true ∧ ds.all flatD = true ∧ ∃ (j : Nat) (z : D), ds[j]? = some z ∧ eqF z y = true ∧ (∀ (m : Nat) (z' : D), m < j → ds[m]? = some z' → eqF z' y = false) ∧ Φ (.int j) μ2 := rfl
theorem u_popAt : dPopAt φa φb Ψ δ μ Φ = φa Ψ δ μ fun x μ1 => ∃ a ds, x = .hd (.ref a) ∧ μ1 a = some (.lst ds) ∧ φb Ψ δ μ1 fun y μ2 => ∃ es, μ2 a = some (.lst es) ∧ es.length ≤ 100000 ∧ ∃ (i : Nat) (d : D), y = .int i ∧ es[i]? = some d ∧ Φ d (sset μ2 a (.lst (es.eraseIdx i))) := rfl
theorem u_cntT : dCntT φa φb Ψ δ μ Φ = φa Ψ δ μ fun x μ1 => ∃ ns : List Int, x = .tup (ns.map .int) ∧ φb Ψ δ μ1 fun y μ2 => ∃ k : Int, y = .int k ∧ Φ (.int (ns.count k : Nat)) μ2 := rfl
theorem u_idxT : dIdxT φa φb Ψ δ μ Φ = φa Ψ δ μ fun x μ1 => ∃ ns : List Int, x = .tup (ns.map .int) ∧ φb Ψ δ μ1 fun y μ2 => ∃ (k : Int) (j : Nat), y = .int k ∧ ns[j]? = some k ∧ (∀ m, m < j → ns[m]? ≠ some k) ∧ Φ (.int j) μ2 := rfl
theorem u_callF : dCallF i F ψ Ψ δ μ Φ = ∃ f c, F f c ∧ δ[i]? = some (some (.hd (.ref f))) ∧ ψ Ψ δ μ fun ds μ1 => c ds μ1 Φ fun y μ2 => Ψ y δ μ2 := rfl
theorem w_maxL : cMaxL [x] μ Φ = ∃ ns, Items μ x (ns.map .int) ∧ isTup x = false ∧ ns ≠ [] ∧ ∀ m, m ∈ ns → (∀ y, y ∈ ns → y ≤ m) → Φ (.int m) μ := propext ⟨fun ⟨_, ns, e, q⟩ => by cases e; exact ⟨ns, q⟩, fun ⟨ns, q⟩ => ⟨_, ns, rfl, q⟩⟩
theorem w_minL : cMinL [x] μ Φ = ∃ ns, Items μ x (ns.map .int) ∧ isTup x = false ∧ ns ≠ [] ∧ ∀ m, m ∈ ns → (∀ y, y ∈ ns → m ≤ y) → Φ (.int m) μ := propext ⟨fun ⟨_, ns, e, q⟩ => by cases e; exact ⟨ns, q⟩, fun ⟨ns, q⟩ => ⟨_, ns, rfl, q⟩⟩
theorem w_ixDc : oIxD d tbl (.hd (.ref d)) (.str z) μ Φ = ∃ v, tbl.lookup z = some v ∧ Φ v μ := propext ⟨fun ⟨_, _, v, e, h, q⟩ => by cases e; exact ⟨v, h, q⟩, fun ⟨v, h, q⟩ => ⟨rfl, _, v, rfl, h, q⟩⟩
theorem w_inDc : oInD d tbl n (.str z) (.hd (.ref d)) μ Φ = Φ (.bl (if n then !(tbl.lookup z).isSome else (tbl.lookup z).isSome)) μ := propext ⟨fun ⟨_, _, e, q⟩ => by cases e; exact q, fun q => ⟨rfl, _, rfl, q⟩⟩
theorem w_repL : oRepL (.lst ds) (.int k) μ Φ = (k ≤ 100000 ∧ -100000 ≤ k ∧ ds.length * k.toNat ≤ 100000 ∧ Φ (.lst (List.replicate k.toNat ds).flatten) μ) := propext ⟨fun ⟨_, _, e1, e2, q⟩ => by cases e1; cases e2; exact q, fun q => ⟨_, _, rfl, rfl, q⟩⟩
theorem w_listLs {P : List D → List D → Prop} : (∃ xs ys, D.lst ds = .lst xs ∧ D.lst es = .lst ys ∧ P xs ys) = P ds es := propext ⟨fun ⟨_, _, e1, e2, q⟩ => by cases e1; cases e2; exact q, fun q => ⟨_, _, rfl, rfl, q⟩⟩
end
end DW
set_option Elab.async false
set_option linter.all false
set_option maxRecDepth 100000
namespace DW
open PySem PySem.Spec PyProof.Rows L2
/-- list(range(n)), a list that will change -/
def dLstR1O (φ : DE) : DE := fun Ψ δ μ Φ => φ Ψ δ μ fun x μ1 => ∃ j, x = .int j ∧ 0 ≤ j ∧ j ≤ 100000 ∧ ∀ p, μ1 p = none → Φ (.hd (.ref p)) (sset μ1 p (.lst (rngD 0 j.toNat)))
theorem u_lstR1O {φ : DE} {Ψ : XP} {δ : DEnv} {μ : Sto} {Φ : DK} : dLstR1O φ Ψ δ μ Φ = φ Ψ δ μ fun x μ1 => ∃ j, x = .int j ∧ 0 ≤ j ∧ j ≤ 100000 ∧ ∀ p, μ1 p = none → Φ (.hd (.ref p)) (sset μ1 p (.lst (rngD 0 j.toNat))) := rfl
end DW
set_option Elab.async false
set_option linter.all false
set_option maxRecDepth 100000
namespace DW
open PySem PySem.Spec PyProof.Rows L2
/-- xs.count(k), xs a list of ints -/
def dCntL (φa φb : DE) : DE := fun Ψ δ μ Φ => φa Ψ δ μ fun x μ1 => ∃ ns : List Int, x = .lst (ns.map .int) ∧ φb Ψ δ μ1 fun y μ2 => ∃ k : Int, y = .int k ∧ Φ (.int (ns.count k : Nat)) μ2
theorem u_cntL {φa φb : DE} {Ψ : XP} {δ : DEnv} {μ : Sto} {Φ : DK} : dCntL φa φb Ψ δ μ Φ = φa Ψ δ μ fun x μ1 => ∃ ns : List Int, x = .lst (ns.map .int) ∧ φb Ψ δ μ1 fun y μ2 => ∃ k : Int, y = .int k ∧ Φ (.int (ns.count k : Nat)) μ2 := rfl
end DW
set_option Elab.async false
set_option linter.all false
set_option maxRecDepth 100000
namespace LW
open PySem PySem.Spec L2 DW
inductive Am where
  | any | best (r : List Int) | second (r : List Int) | most | fewest | fixed | like (i : Nat) | unlike (i : Nat) | among (l : List Int) | only (l : List Int) | table (rows : List (List Int))
  | either (a b : Am) | both (a b : Am) | els (a b : Am) | not (a : Am) | first (a : Am) | recode (m : List Int) (a : Am) | reorder (p : List Int) (a : Am)
namespace Am
def iT (l : List Int) : D := .tup (l.map .int)
def d : Am → D
  | any => .tup [.str "any"]
  | best r => .tup [.str "best", iT r]
  | second r => .tup [.str "second", iT r]
  | most => .tup [.str "most"]
  | fewest => .tup [.str "fewest"]
  | fixed => .tup [.str "fixed"]
  | like i => .tup [.str "like", .int i]
  | unlike i => .tup [.str "unlike", .int i]
  | among l => .tup [.str "among", iT l]
  | only l => .tup [.str "only", iT l]
  | table rows => .tup [.str "table", .tup (rows.map iT)]
  | either a b => .tup [.str "either", a.d, b.d]
  | both a b => .tup [.str "both", a.d, b.d]
  | els a b => .tup [.str "else", a.d, b.d]
  | not a => .tup [.str "not", a.d]
  | first a => .tup [.str "first", a.d]
  | recode m a => .tup [.str "recode", iT m, a.d]
  | reorder p a => .tup [.str "reorder", iT p, a.d]
def dep : Am → Nat
  | either a b => max a.dep b.dep + 1
  | both a b => max a.dep b.dep + 1
  | els a b => max a.dep b.dep + 1
  | not a => a.dep + 1
  | first a => a.dep + 1
  | recode _ a => a.dep + 1
  | reorder _ a => a.dep + 1
  | _ => 1
end Am
/-- ascending numbers from lo on, below hi -/
def Asc (hi : Int) : Int → List Int → Prop
  | _, [] => True
  | lo, x :: r => lo ≤ x ∧ x < hi ∧ Asc hi (x + 1) r
structure CtxOk (n k : Nat) (c : List Int) : Prop where
  len : c.length = n
  lo : ∀ r ∈ c, 0 ≤ r
  hi : ∀ r ∈ c, r < k
  n1 : 1 ≤ n
  n64 : n ≤ 64
  k1 : 1 ≤ k
  k4 : k ≤ 4
def NumOk (len lim : Nat) (r : List Int) : Prop := r.length = len ∧ ∀ x ∈ r, 0 ≤ x ∧ x < (lim : Int)
def AmOk (n k : Nat) : Am → Prop
  | .any => True
  | .best r => NumOk k 10 r
  | .second r => NumOk k 10 r
  | .most => True
  | .fewest => True
  | .fixed => True
  | .like i => i < n
  | .unlike i => i < n
  | .among l => Asc k 0 l
  | .only l => Asc n 0 l
  | .table rows => n ≤ 8 ∧ k ^ n ≤ 256 ∧ rows.length = k ^ n ∧ ∀ l ∈ rows, Asc n 0 l
  | .either a b => AmOk n k a ∧ AmOk n k b
  | .both a b => AmOk n k a ∧ AmOk n k b
  | .els a b => AmOk n k a ∧ AmOk n k b
  | .not a => AmOk n k a
  | .first a => AmOk n k a
  | .recode m a => NumOk k k m ∧ AmOk n k a
  | .reorder p a => NumOk n n p ∧ p.Nodup ∧ AmOk n k a
def at' (l : List Int) (i : Int) : Int := l.getD i.toNat 0
/-- the number of a context -/
def ctxIx (k : Nat) (c : List Int) : Int := c.foldl (fun s r => s * k + r) 0
def someI (n : Nat) (p : Nat → Bool) : Bool := (List.range n).any p
def isG (k : Nat) : Am → List Int → Nat → Bool
  | .any, _, _ => true
  | .best r, c, x => c.all fun s => decide (at' r s ≤ at' r (c.getD x 0))
  | .second r, c, x => let m := at' r (c.getD x 0); c.all (fun s => m == at' r s) || (let ab := (c.map (at' r)).filter (fun s => decide (m < s)); decide (0 < ab.length) && ab.all (· == ab.getD 0 0))
  | .most, c, x => c.all fun s => decide (c.count s ≤ c.count (c.getD x 0))
  | .fewest, c, x => c.all fun s => decide (c.count (c.getD x 0) ≤ c.count s)
  | .fixed, c, x => c.getD x 0 == (x : Int)
  | .like i, c, x => c.getD x 0 == c.getD i 0
  | .unlike i, c, x => c.getD x 0 != c.getD i 0
  | .among l, c, x => l.contains (c.getD x 0)
  | .only l, _, x => l.contains (x : Int)
  | .table rows, c, x => (rows.getD (ctxIx k c).toNat []).contains (x : Int)
  | .either a b, c, x => isG k a c x || isG k b c x
  | .both a b, c, x => isG k a c x && isG k b c x
  | .els a b, c, x => if someI c.length (isG k a c) then isG k a c x else isG k b c x
  | .not a, c, x => !isG k a c x
  | .first a, c, x => isG k a c x && !someI x (isG k a c)
  | .recode m a, c, x => isG k a (c.map (at' m)) x
  | .reorder p a, c, x => isG k a ((List.range c.length).map fun (y : Nat) => c.getD (p.idxOf (y : Int)) (0 : Int)) (at' p x).toNat
def flagL (k : Nat) (a : Am) (c : List Int) : List D := (List.range c.length).map fun x => .bl (isG k a c x)
def FlC (P : Am → Prop) : Con := fun ds μ Φ _ => ∃ (n k : Nat) (a : Am) (c : List Int), P a ∧ AmOk n k a ∧ CtxOk n k c ∧ ds = [a.d, .tup (c.map .int), .int k] ∧ Φ (.lst (flagL k a c)) μ
section
variable {Ψ : XP} {Φ : DK} {n : Nat} {φ : DE} {δw : DEnv} {μ1 : Sto}
/-- over numbers, by the place -/
theorem lcI {ws : List Int} (v : Nat → D) (hz : ws.length ≤ 100000)
    (hs : ∀ (i : Nat) (z : Int) (μ2 : Sto) (X : DK), ws[i]? = some z → Sub μ1 μ2 → X (v i) μ2 → φ Ψ (δw.set n (some (.int z))) μ2 X)
    (hd : Φ (.lst ((List.range ws.length).map v)) μ1) : LcG (eName n) dYes φ δw Ψ (ws.map .int) μ1 Φ := by
  have hl : (ws.map D.int).length = ws.length := List.length_map ..
  refine lcG_mapN v (by rw [hl]; exact hz) (fun i d μ2 X hi hsub hx => ?_) (by rw [hl]; exact hd)
  obtain ⟨z, e, rfl⟩ := mapI_get hi
  exact hs i z μ2 X e hsub hx
/-- over numbers, by the number -/
theorem lcZ {ws : List Int} (f : Int → D) (hz : ws.length ≤ 100000)
    (hs : ∀ (z : Int) (μ2 : Sto) (X : DK), z ∈ ws → Sub μ1 μ2 → X (f z) μ2 → φ Ψ (δw.set n (some (.int z))) μ2 X)
    (hd : Φ (.lst (ws.map f)) μ1) : LcG (eName n) dYes φ δw Ψ (ws.map .int) μ1 Φ := by
  refine lcI (fun i => f (ws.getD i 0)) hz (fun i z μ2 X hi hsub hx => ?_) ?_
  · rw [List.getD_eq_getElem?_getD, hi] at hx
    exact hs z μ2 X (List.mem_of_getElem? hi) hsub hx
  · have : (List.range ws.length).map (fun i => f (ws.getD i 0)) = ws.map f := by
      apply List.ext_getElem
      · simp
      · intro i h1 h2
        simp at h1
        simp [List.getD_eq_getElem?_getD, List.getElem?_eq_getElem h1]
    rw [this]; exact hd
theorem inD_I (z : Int) : ∀ l : List Int, inD (.int z) (l.map .int) = l.contains z
  | [] => rfl
  | x :: l => by
    have ih := inD_I z l
    unfold inD at ih ⊢
    rw [List.map_cons, List.any_cons, ih, List.contains_cons]
    show (x == z || l.contains z) = _
    by_cases hh : x = z
    · rw [hh]
    · rw [beq_eq_false_iff_ne.mpr hh, beq_eq_false_iff_ne.mpr (Ne.symm hh)]
theorem flat_I (l : List Int) : (l.map D.int).all flatD = true := by rw [List.all_map]; exact List.all_eq_true.mpr fun _ _ => rfl
end
theorem en_get {l : List Int} {i : Nat} {d : D} (h : ((List.range l.length).map fun (i : Nat) => D.pr [D.int (i : Int), (l.map D.int).getD i D.non])[i]? = some d) : ∃ z, l[i]? = some z ∧ d = .pr [.int i, .int z] := by
  rw [List.getElem?_map, Option.map_eq_some_iff] at h
  obtain ⟨j, hj, rfl⟩ := h
  obtain ⟨hj1, hj2⟩ := List.getElem?_eq_some_iff.mp hj
  simp at hj2
  subst hj2
  have hlt : i < l.length := by simpa using hj1
  have e : (l.map D.int).getD i D.non = .int l[i] := by simp [List.getD_eq_getElem?_getD, hlt]
  rw [e]
  exact ⟨l[i], List.getElem?_eq_getElem hlt, rfl⟩
theorem FlC.len {P : Am → Prop} {ds μ Φ Ψ} (h : FlC P ds μ Φ Ψ) : ds.length = 3 := by obtain ⟨_, _, _, _, _, _, _, rfl, _⟩ := h; rfl
end LW
set_option Elab.async false
set_option linter.all false
set_option maxRecDepth 100000
namespace DW
open PySem PySem.Spec PyProof.Rows L2
end DW
set_option Elab.async false
set_option linter.all false
set_option maxRecDepth 100000
namespace DW
open PySem PySem.Spec PyProof.Rows L2
section
variable {K : Fg} {B : Bx K}
def dLc2 (ι : DI) (γ : DG) (θ : DT) (ι1 : DI) (γ1 : DG) (θ1 : DT) (φ : DE) (vs vs1 : List Nat) : DE := fun Ψ δ μ Φ => ι Ψ δ μ fun xs μ1 => ∀ p, μ1 p = none → ∃ W : Nat → Sto → Prop, W 0 (sset μ1 p (.lst [])) ∧
  (∀ i d μ2, xs[i]? = some d → W i μ2 → γ d (dwipe δ vs) μ2 fun δ3 μ3 => θ Ψ δ3 μ3 fun b μ4 =>
    (b = true → ι1 Ψ δ3 μ4 fun xs1 μ5 => ∃ W1 : Nat → Sto → Prop, W1 0 μ5 ∧
      (∀ j d1 μ6, xs1[j]? = some d1 → W1 j μ6 → γ1 d1 (dwipe δ3 vs1) μ6 fun δ7 μ7 => θ1 Ψ δ7 μ7 fun b1 μ8 =>
        (b1 = true → φ Ψ δ7 μ8 fun y μ9 => ∃ acc, μ9 p = some (.lst acc) ∧ acc.length ≤ 100000 ∧ W1 (j + 1) (sset μ9 p (.lst (acc ++ [y])))) ∧ (b1 = false → W1 (j + 1) μ8)) ∧
      ∀ μ6, W1 xs1.length μ6 → W (i + 1) μ6) ∧ (b = false → W (i + 1) μ4)) ∧
  ∀ μ2, W xs.length μ2 → ∃ acc, μ2 p = some (.lst acc) ∧ Φ (.lst acc) (sdel μ2 p)
theorem sLc2 {wi wi1 : TI} {g g1 : TG} {tt tt1 : TT} {te : TE} {vs vs1 : List Nat} {ι ι1 : DI} {γ γ1 : DG} {θ θ1 : DT} {φ : DE} (a : SI B wi ι) (w : GW vs g) (w1 : GW vs1 g1) (b : ∀ H1 μ1 e, SG (B.re H1 μ1 e) g γ) (c : ∀ H1 μ1 e, ST (B.re H1 μ1 e) tt θ)
    (a1 : ∀ H1 μ1 e, SI (B.re H1 μ1 e) wi1 ι1) (b1 : ∀ H1 μ1 e, SG (B.re H1 μ1 e) g1 γ1) (c1 : ∀ H1 μ1 e, ST (B.re H1 μ1 e) tt1 θ1) (d : ∀ H1 μ1 e, SE (B.re H1 μ1 e) te φ) :
    SE B (tLc2 wi g tt wi1 g1 tt1 te vs vs1) (dLc2 ι γ θ ι1 γ1 θ1 φ vs vs1) := fun σ H δ μ Φ Q S q k =>
  a σ H δ μ _ _ S q fun xs J H1 μ1 S1 e1 it q1 => fun p hp => by
    have hμp : μ1 p = none := S1.sto.fresh hp
    obtain ⟨W, w0, ws, wd⟩ := q1 p hμp
    refine ⟨fun i m H' => m = xs.length - i ∧ i ≤ xs.length ∧ ∃ μ', Evo μ1 H1 μ' H' ∧ StoOk K μ' H' ∧ W i μ', ⟨xs.length, by simp, Nat.zero_le _, _, .newC S1.sto hp, sto_own S1.sto hp .nil, w0⟩, ?_⟩
    rintro i m H' ⟨rfl, hi, μ', e', s', wi'⟩
    by_cases hlt : i < xs.length
    · obtain ⟨hgo, hy⟩ := (it i H' μ' s' e').1 hlt
      refine .inr ⟨hgo, fun H2 => ∃ μ2, Evo μ1 H1 μ2 H2 ∧ StoOk K μ2 H2 ∧ W (i + 1) μ2, fun H2 ⟨μ2, e2, s2, w2⟩ => ⟨xs.length - (i + 1), by omega, rfl, by omega, μ2, e2, s2, w2⟩, fun x H2 y => ?_⟩
      obtain ⟨dd, hd, s2, e2, r2⟩ := hy x H2 y
      have S2 : (B.re H1 μ1 S1.evo).S (L2.wipe σ vs) H2 (dwipe δ vs) μ' := ⟨e'.trans e2, s2, ((S1.env.mono e').mono e2).wipe vs⟩
      refine w x (L2.wipe σ vs) (L2.wipe σ vs) H2 _ wipe_wipe ?_
      refine b H1 μ1 S1.evo x dd (L2.wipe σ vs) H2 (dwipe δ vs) μ' _ _ S2 r2 (ws i dd μ' hd wi') fun σ3 H3 δ3 μ3 S3 e3 q3 => ?_
      refine c H1 μ1 S1.evo σ3 H3 δ3 μ3 _ _ S3 q3 fun b4 H4 μ4 S4 e4 q4 => ?_
      cases b4 with
      | true =>
        rw [if_pos rfl]
        refine a1 H1 μ1 S1.evo σ3 H4 δ3 μ4 _ _ S4 (q4.1 rfl) fun xs1 J1 H5 μ5 S5 e5 it1 q5 => ?_
        obtain ⟨W1, w10, ws1, wd1⟩ := q5
        refine ⟨fun j m H' => m = xs1.length - j ∧ j ≤ xs1.length ∧ ∃ μ', Evo μ5 H5 μ' H' ∧ StoOk K μ' H' ∧ W1 j μ', ⟨xs1.length, by simp, Nat.zero_le _, μ5, .refl, S5.sto, w10⟩, ?_⟩
        rintro j m H6 ⟨rfl, hj, μ6, e6, s6, w16⟩
        by_cases hlt1 : j < xs1.length
        · obtain ⟨hgo1, hy1⟩ := (it1 j H6 μ6 s6 e6).1 hlt1
          refine .inr ⟨hgo1, fun H7 => ∃ μ7, Evo μ5 H5 μ7 H7 ∧ StoOk K μ7 H7 ∧ W1 (j + 1) μ7, fun H7 ⟨μ7, e7, s7, w7⟩ => ⟨xs1.length - (j + 1), by omega, rfl, by omega, μ7, e7, s7, w7⟩, fun x1 H7 y1 => ?_⟩
          obtain ⟨d1, hd1, s7, e7, r7⟩ := hy1 x1 H7 y1
          have S7 : (B.re H1 μ1 S1.evo).S (L2.wipe σ3 vs1) H7 (dwipe δ3 vs1) μ6 := ⟨(S5.evo.trans e6).trans e7, s7, ((S5.env.mono e6).mono e7).wipe vs1⟩
          refine w1 x1 (L2.wipe σ3 vs1) (L2.wipe σ3 vs1) H7 _ wipe_wipe ?_
          refine b1 H1 μ1 S1.evo x1 d1 (L2.wipe σ3 vs1) H7 (dwipe δ3 vs1) μ6 _ _ S7 r7 (ws1 j d1 μ6 hd1 w16) fun σ8 H8 δ8 μ8 S8 e8 q8 => ?_
          have E8 : Evo μ5 H5 μ8 H8 := (e6.trans e7).trans e8
          refine c1 H1 μ1 S1.evo σ8 H8 δ8 μ8 _ _ S8 q8 fun b9 H9 μ9 S9 e9 q9 => ?_
          have E9 : Evo μ5 H5 μ9 H9 := E8.trans e9
          cases b9 with
          | true =>
            rw [if_pos rfl]
            refine d H1 μ1 S1.evo σ8 H9 δ8 μ9 _ _ S9 (q9.1 rfl) fun v10 H10 y10 μ10 S10 e10 r10 q10 => ?_
            obtain ⟨acc, hacc, hz, w11⟩ := q10
            obtain ⟨us, h10, hr10⟩ := S10.sto _ _ hacc
            have e11 : Evo μ10 H10 (sset μ10 p (.lst (acc ++ [y10]))) (upd H10 p (.lst (us ++ [v10]))) := own_evo hacc
            obtain ⟨e12, s12⟩ := own_upd S10.sto hacc ((hr10.append r10).mono e11)
            exact ⟨us, h10, Nat.lt_of_le_of_lt (by rw [hr10.length]; exact hz) (by decide), _, (E9.trans e10).trans e12, s12, w11⟩
          | false =>
            rw [if_neg Bool.false_ne_true]
            exact ⟨μ9, E9, S9.sto, q9.2 rfl⟩
        · have e : j = xs1.length := by omega
          subst e
          exact .inl ⟨(it1 _ H6 μ6 s6 e6).2 (Nat.le_refl _), μ6, S5.evo.trans e6, s6, wd1 μ6 w16⟩
      | false =>
        rw [if_neg Bool.false_ne_true]
        exact ⟨μ4, S4.evo, S4.sto, q4.2 rfl⟩
    · have e : i = xs.length := by omega
      subst e
      obtain ⟨acc, hacc, q2⟩ := wd μ' wi'
      obtain ⟨us, h5, hr5⟩ := s' _ _ hacc
      refine .inl ⟨(it _ H' μ' s' e').2 (Nat.le_refl _), ?_⟩
      have e8 : Evo μ1 H1 (sdel μ' p) H' := e'.trans sdel_sub.evo
      exact k (.ref p) H' (.lst acc) (sdel μ' p) (S1.step e8 (sdel_sub.sto s')) (e1.trans e8) (.lst ⟨h5, .of sdel_same⟩ (hr5.mono sdel_sub.evo) .nil) q2
end
def LcG2 (γ : DG) (θ : DT) (ι1 : DI) (γ1 : DG) (θ1 : DT) (φ : DE) (δw : DEnv) (vs1 : List Nat) (Ψ : XP) (xs : List D) (μ1 : Sto) (Φ : DK) : Prop := ∀ p, μ1 p = none → ∃ W : Nat → Sto → Prop, W 0 (sset μ1 p (.lst [])) ∧
  (∀ i d μ2, xs[i]? = some d → W i μ2 → γ d δw μ2 fun δ3 μ3 => θ Ψ δ3 μ3 fun b μ4 =>
    (b = true → ι1 Ψ δ3 μ4 fun xs1 μ5 => ∃ W1 : Nat → Sto → Prop, W1 0 μ5 ∧
      (∀ j d1 μ6, xs1[j]? = some d1 → W1 j μ6 → γ1 d1 (dwipe δ3 vs1) μ6 fun δ7 μ7 => θ1 Ψ δ7 μ7 fun b1 μ8 =>
        (b1 = true → φ Ψ δ7 μ8 fun y μ9 => ∃ acc, μ9 p = some (.lst acc) ∧ acc.length ≤ 100000 ∧ W1 (j + 1) (sset μ9 p (.lst (acc ++ [y])))) ∧ (b1 = false → W1 (j + 1) μ8)) ∧
      ∀ μ6, W1 xs1.length μ6 → W (i + 1) μ6) ∧ (b = false → W (i + 1) μ4)) ∧
  ∀ μ2, W xs.length μ2 → ∃ acc, μ2 p = some (.lst acc) ∧ Φ (.lst acc) (sdel μ2 p)
section
variable {Ψ : XP} {Φ : DK} {δ : DEnv} {μ : Sto}
theorem u_lc2 {ι : DI} {γ : DG} {θ : DT} {ι1 : DI} {γ1 : DG} {θ1 : DT} {φ : DE} {vs vs1 : List Nat} : dLc2 ι γ θ ι1 γ1 θ1 φ vs vs1 Ψ δ μ Φ = ι Ψ δ μ fun xs μ1 => LcG2 γ θ ι1 γ1 θ1 φ (dwipe δ vs) vs1 Ψ xs μ1 Φ := rfl
/-- plain names, no tests, nothing changes -/
theorem lcG2_pure {n n1 : Nat} {ι1 : DI} {φ : DE} {δw : DEnv} {μ1 : Sto} {xs : List D} (cols : Nat → List D) (v : Nat → Nat → D) (hz : ∀ i, i ≤ xs.length → ((List.range i).flatMap fun i => (List.range (cols i).length).map (v i)).length ≤ 50000)
    (hc : ∀ i, (cols i).length ≤ 50000)
    (hi : ∀ (i : Nat) (d : D) (μ2 : Sto) (X : List D → Sto → Prop), xs[i]? = some d → Sub μ1 μ2 → X (cols i) μ2 → ι1 Ψ (δw.set n (some d)) μ2 X)
    (hs : ∀ (i : Nat) (d : D) (j : Nat) (d1 : D) (μ2 : Sto) (X : DK), xs[i]? = some d → (cols i)[j]? = some d1 → Sub μ1 μ2 → X (v i j) μ2 → φ Ψ (((δw.set n (some d)).set n1 none).set n1 (some d1)) μ2 X)
    (hd : Φ (.lst ((List.range xs.length).flatMap fun i => (List.range (cols i).length).map (v i))) μ1) : LcG2 (eName n) dYes ι1 (eName n1) dYes φ δw [n1] Ψ xs μ1 Φ := fun p hp => by
  refine ⟨fun i μ' => μ' = sset μ1 p (.lst ((List.range i).flatMap fun i => (List.range (cols i).length).map (v i))), rfl, fun i d μ2 hi2 e => ?_, fun μ2 e => ?_⟩
  · subst e
    refine ⟨fun _ => hi i d _ _ hi2 (.set Sub.refl hp) ⟨fun j μ' => j ≤ (cols i).length ∧ μ' = sset μ1 p (.lst (((List.range i).flatMap fun i => (List.range (cols i).length).map (v i)) ++ (List.range j).map (v i))), ⟨Nat.zero_le _, by rw [List.range_zero, List.map_nil, List.append_nil]⟩, fun j d1 μ6 hj hw => ?_, fun μ6 hw => ?_⟩, fun z => by cases z⟩
    · obtain ⟨hjl, rfl⟩ := hw
      have hj2 := (List.getElem?_eq_some_iff.mp hj).1
      refine ⟨fun _ => hs i d j d1 _ _ hi2 hj (.set Sub.refl hp) ⟨_, sset_same, ?_, ?_⟩, fun z => by cases z⟩
      · have h1 := hz i (Nat.le_of_lt (List.getElem?_eq_some_iff.mp hi2).1)
        have h2 := hc i
        rw [List.length_append, List.length_map, List.length_range]
        omega
      · refine ⟨hj2, ?_⟩
        rw [sset_sset, List.range_succ, List.map_append, List.append_assoc]
        rfl
    · obtain ⟨_, rfl⟩ := hw
      rw [List.range_succ, List.flatMap_append]
      simp
  · subst e
    refine ⟨_, sset_same, ?_⟩
    rw [sdel_sset hp]
    exact hd
end
end DW
set_option Elab.async false
set_option linter.all false
set_option maxRecDepth 100000
set_option maxHeartbeats 4000000
namespace DW
open PySem PySem.Spec PyProof.Rows L2
def wrap : Bool → List D → D
  | true => .tup
  | false => .lst
def iZM (b1 b2 : Bool) (φ φ' : DE) : DI := fun Ψ δ μ Φ => φ Ψ δ μ fun x μ1 => φ' Ψ δ μ1 fun y μ2 => ∃ xs ys, x = wrap b1 xs ∧ y = wrap b2 ys ∧ Φ ((xs.zip ys).map fun p => .pr [p.1, p.2]) μ2
theorem u_iZM {b1 b2 : Bool} {φ φ' : DE} {Ψ : XP} {δ : DEnv} {μ : Sto} {Φ : List D → Sto → Prop} : iZM b1 b2 φ φ' Ψ δ μ Φ = φ Ψ δ μ fun x μ1 => φ' Ψ δ μ1 fun y μ2 => ∃ xs ys, x = wrap b1 xs ∧ y = wrap b2 ys ∧ Φ ((xs.zip ys).map fun p => .pr [p.1, p.2]) μ2 := rfl
theorem w_zipLT {l t : List D} {P : List D → List D → Prop} : (∃ xs ys, D.lst l = wrap false xs ∧ D.tup t = wrap true ys ∧ P xs ys) = P l t := propext ⟨fun ⟨_, _, e1, e2, q⟩ => by cases e1; cases e2; exact q, fun q => ⟨_, _, rfl, rfl, q⟩⟩
theorem w_zipTL {l t : List D} {P : List D → List D → Prop} : (∃ xs ys, D.tup l = wrap true xs ∧ D.lst t = wrap false ys ∧ P xs ys) = P l t := propext ⟨fun ⟨_, _, e1, e2, q⟩ => by cases e1; cases e2; exact q, fun q => ⟨_, _, rfl, rfl, q⟩⟩
end DW
set_option Elab.async false
set_option linter.all false
set_option maxRecDepth 100000
set_option maxHeartbeats 4000000
namespace DW
open PySem PySem.Spec PyProof.Rows L2
section
variable {K : Fg} {B : Bx K} {ta : TE} {φ : DE} {Ψ : XP} {δ : DEnv} {μ : Sto} {Φ : DK}
def dTupR1 (φ : DE) : DE := fun Ψ δ μ Φ => φ Ψ δ μ fun x μ1 => ∃ j, x = .int j ∧ 0 ≤ j ∧ j ≤ 100000 ∧ Φ (.tup (rngD 0 j.toNat)) μ1
theorem u_tupR1 : dTupR1 φ Ψ δ μ Φ = φ Ψ δ μ fun x μ1 => ∃ j, x = .int j ∧ 0 ≤ j ∧ j ≤ 100000 ∧ Φ (.tup (rngD 0 j.toNat)) μ1 := rfl
end
end DW
set_option Elab.async false
set_option linter.all false
set_option maxRecDepth 100000
set_option maxHeartbeats 4000000
namespace DW
open PySem PySem.Spec PyProof.Rows L2
mutual
def toPy : D → PyData
  | .bl b => .bool b
  | .int i => .int i
  | .str s => .str s
  | .tup ds => .tuple (toPys ds)
  | .lst ds => .list (toPys ds)
  | _ => .none
def toPys : List D → List PyData
  | [] => []
  | d :: ds => toPy d :: toPys ds
end
mutual
/-- what can be compared -/
def eqOk : D → Bool
  | .non => true
  | .bl _ => true
  | .int _ => true
  | .str s => PyData.strOk s
  | .tup ds => eqOks ds
  | .lst ds => eqOks ds
  | _ => false
def eqOks : List D → Bool
  | [] => true
  | d :: ds => eqOk d && eqOks ds
end
mutual
def dpt : D → Nat
  | .tup ds => dpts ds + 1
  | .lst ds => dpts ds + 1
  | _ => 0
def dpts : List D → Nat
  | [] => 0
  | d :: ds => max (dpt d) (dpts ds)
end
mutual
theorem eqOk_lay : ∀ d : D, eqOk d = true → (toPy d).canLay0 = true
  | .non, _ => rfl
  | .bl _, _ => rfl
  | .int _, _ => rfl
  | .str s, h => by simpa [eqOk, toPy, PyData.canLay0] using h
  | .tup ds, h => by simp only [toPy, PyData.canLay0]; exact eqOks_lay ds (by simpa [eqOk] using h)
  | .lst ds, h => by simp only [toPy, PyData.canLay0]; exact eqOks_lay ds (by simpa [eqOk] using h)
  | .pr _, h => by simp [eqOk] at h
  | .obj _ _ _, h => by simp [eqOk] at h
  | .hd _, h => by simp [eqOk] at h
  | .scr _, h => by simp [eqOk] at h
theorem eqOks_lay : ∀ ds : List D, eqOks ds = true → PyData.canLayAll0 (toPys ds) = true
  | [], _ => rfl
  | d :: ds, h => by
    simp only [eqOks, Bool.and_eq_true] at h
    simp only [toPys, PyData.canLayAll0, eqOk_lay d h.1, eqOks_lay ds h.2, Bool.and_self]
end
mutual
theorem dpt_py : ∀ d : D, (toPy d).depth ≤ dpt d + 1
  | .non => by simp [toPy, PyData.depth]
  | .bl _ => by simp [toPy, PyData.depth]
  | .int _ => by simp [toPy, PyData.depth]
  | .str s => by simp [toPy, PyData.depth]
  | .tup ds => by simp only [toPy, PyData.depth, dpt]; have := dpts_py ds; omega
  | .lst ds => by simp only [toPy, PyData.depth, dpt]; have := dpts_py ds; omega
  | .pr _ => by simp [toPy, PyData.depth]
  | .obj _ _ _ => by simp [toPy, PyData.depth]
  | .hd _ => by simp [toPy, PyData.depth]
  | .scr _ => by simp [toPy, PyData.depth]
theorem dpts_py : ∀ ds : List D, PyData.depthAll (toPys ds) ≤ dpts ds + 1
  | [] => by simp [toPys, PyData.depthAll]
  | d :: ds => by
    simp only [toPys, PyData.depthAll, dpts]
    have h1 := dpt_py d
    have h2 := dpts_py ds
    omega
end
theorem shaped_of {d : D} (h : eqOk d = true) (hd : dpt d ≤ 60) : SeqAt.shaped (toPy d) = true := by
  unfold SeqAt.shaped
  rw [eqOk_lay d h, Bool.true_and]
  exact decide_eq_true (by have := dpt_py d; omega)
theorem dp_all {K : Fg} {μ : Sto} {H : Hp} {vs : List V} {ds : List D} (r : Reps K μ H vs ds) : eqOks ds = true → DpAll K H vs (toPys ds) := by
  induction r with
  | nil => intro _; exact .nil
  | non _ ih => intro h; simp only [eqOks, eqOk, Bool.true_and] at h; exact .cons .non (ih h)
  | bl b _ ih => intro h; simp only [eqOks, eqOk, Bool.true_and] at h; exact .cons (.bl b) (ih h)
  | int b _ ih => intro h; simp only [eqOks, eqOk, Bool.true_and] at h; exact .cons (.int b) (ih h)
  | str b _ ih => intro h; simp only [eqOks, Bool.and_eq_true] at h; exact .cons (.str b) (ih h.2)
  | hd v _ ih => intro h; simp [eqOks, eqOk] at h
  | tup h1 _ _ i1 i2 => intro h; simp only [eqOks, eqOk, Bool.and_eq_true] at h; exact .cons (.tup h1.sq (i1 h.1)) (i2 h.2)
  | pr _ _ _ _ _ => intro h; simp [eqOks, eqOk] at h
  | scr _ _ _ => intro h; simp [eqOks, eqOk] at h
  | lst h1 _ _ i1 i2 => intro h; simp only [eqOks, eqOk, Bool.and_eq_true] at h; exact .cons (.lst h1.sq (i1 h.1)) (i2 h.2)
  | obj _ _ _ _ _ _ _ => intro h; simp [eqOks, eqOk] at h
theorem dp_one {K : Fg} {μ : Sto} {H : Hp} {v : V} {d : D} (r : Rep K μ H v d) (h : eqOk d = true) : Dp K H v (toPy d) := by
  have q := dp_all r (by simp only [eqOks, h, Bool.and_self])
  cases q with
  | cons a b => exact a
def eqD (a b : D) : Bool := PyData.eqv (toPy a) (toPy b)
def EqSide (d : D) : Prop := eqOk d = true ∧ dpt d ≤ 60
def oEqD : DO := fun x y μ Φ => EqSide x ∧ EqSide y ∧ Φ (.bl (eqD x y)) μ
def oNeD : DO := fun x y μ Φ => EqSide x ∧ EqSide y ∧ Φ (.bl (!eqD x y)) μ
theorem roEqD {K : Fg} : RO K (rEqD K) oEqD := fun H μ v w x y Φ Q s r1 r2 q k => by
  obtain ⟨h1, h2, q⟩ := q
  exact ⟨_, _, dp_one r1 h1.1, dp_one r2 h2.1, shaped_of h1.1 h1.2, shaped_of h2.1 h2.2, k _ H _ μ .refl s (.bl _ .nil) q⟩
theorem roNeD {K : Fg} : RO K (rNeD K) oNeD := fun H μ v w x y Φ Q s r1 r2 q k => by
  obtain ⟨h1, h2, q⟩ := q
  exact ⟨_, _, dp_one r1 h1.1, dp_one r2 h2.1, shaped_of h1.1 h1.2, shaped_of h2.1 h2.2, k _ H _ μ .refl s (.bl _ .nil) q⟩
theorem eqD_refl {d : D} (h : eqOk d = true) : eqD d d = true := SeqAt.eqv_refl _ (eqOk_lay d h)
theorem eqOks_all : ∀ {ds : List D}, (∀ d ∈ ds, eqOk d = true) → eqOks ds = true
  | [], _ => rfl
  | d :: ds, h => by
    simp only [eqOks, Bool.and_eq_true]
    exact ⟨h d List.mem_cons_self, eqOks_all fun x hx => h x (List.mem_cons_of_mem _ hx)⟩
theorem dpts_all {m : Nat} : ∀ {ds : List D}, (∀ d ∈ ds, dpt d ≤ m) → dpts ds ≤ m
  | [], _ => Nat.zero_le _
  | d :: ds, h => by
    simp only [dpts]
    have h1 := h d List.mem_cons_self
    have h2 := dpts_all fun x hx => h x (List.mem_cons_of_mem _ hx)
    omega
theorem eqvAll_map {α : Type} {f : α → D} (hf : ∀ a b, PyData.eqv (toPy (f a)) (toPy (f b)) = true ↔ a = b) : ∀ l m : List α, PyData.eqvAll (toPys (l.map f)) (toPys (m.map f)) = true ↔ l = m
  | [], [] => by simp [toPys, PyData.eqvAll]
  | [], _ :: _ => by simp [toPys, PyData.eqvAll]
  | _ :: _, [] => by simp [toPys, PyData.eqvAll]
  | a :: l, b :: m => by
    simp only [List.map_cons, toPys, PyData.eqvAll, Bool.and_eq_true, hf a b, eqvAll_map hf l m, List.cons.injEq]
theorem eqv_int (a b : Int) : PyData.eqv (toPy (.int a)) (toPy (.int b)) = true ↔ a = b := by simp [toPy, PyData.eqv]
theorem eqv_ints (l m : List Int) : PyData.eqv (toPy (.tup (l.map .int))) (toPy (.tup (m.map .int))) = true ↔ l = m := by
  simp only [toPy, PyData.eqv]
  exact eqvAll_map eqv_int l m
theorem eqD_ints (l m : List Int) : eqD (.tup (l.map .int)) (.tup (m.map .int)) = decide (l = m) := by
  rw [Bool.eq_iff_iff, decide_eq_true_eq]
  exact eqv_ints l m
theorem side_ints (l : List Int) : EqSide (.tup (l.map .int)) := ⟨by
  simp only [eqOk]
  exact eqOks_all fun d hd => by obtain ⟨z, _, rfl⟩ := List.mem_map.mp hd; rfl, by
  simp only [dpt]
  have := dpts_all (m := 0) (ds := l.map D.int) fun d hd => by obtain ⟨z, _, rfl⟩ := List.mem_map.mp hd; exact Nat.le_refl _
  omega⟩
end DW
set_option Elab.async false
set_option linter.all false
set_option maxRecDepth 100000
set_option maxHeartbeats 4000000
namespace DW
open PySem PySem.Spec PyProof.Rows L2
section
variable {K : Fg} {B : Bx K} {ta : TE} {φ : DE} {tas : TA} {ψ : DA} {Ψ : XP} {δ : DEnv} {μ : Sto} {Φ : DK}
def dMethXN (C : Addr) (NS : List Str) (c : Con) (φ : DE) (ψ : DA) : DE := fun Ψ δ μ Φ => φ Ψ δ μ fun x μ1 => ∃ es, x = .obj C NS es ∧ ψ Ψ δ μ1 fun ds μ2 => c (x :: ds) μ2 Φ fun _ _ => False
def dMakeSN (C : Addr) (c : Con) (ψ : DA) : DE := fun Ψ δ μ Φ => ψ Ψ δ μ fun ds μ1 => ∀ x, μ1 x = none → c (.hd (.ref x) :: ds) (sset μ1 x (.ins C [] [])) (fun d μ2 => d = .non ∧ ∃ ns es, μ2 x = some (.ins C ns es) ∧ Φ (.obj C ns es) (sdel μ2 x)) (fun _ _ => False)
theorem u_methXN {C : Addr} {NS : List Str} {c : Con} : dMethXN C NS c φ ψ Ψ δ μ Φ = φ Ψ δ μ fun x μ1 => ∃ es, x = .obj C NS es ∧ ψ Ψ δ μ1 fun ds μ2 => c (x :: ds) μ2 Φ fun _ _ => False := rfl
theorem u_makeSN {C : Addr} {c : Con} : dMakeSN C c ψ Ψ δ μ Φ = ψ Ψ δ μ fun ds μ1 => ∀ x, μ1 x = none → c (.hd (.ref x) :: ds) (sset μ1 x (.ins C [] [])) (fun d μ2 => d = .non ∧ ∃ ns es, μ2 x = some (.ins C ns es) ∧ Φ (.obj C ns es) (sdel μ2 x)) (fun _ _ => False) := rfl
end
theorem w_neB {b c : Bool} {μ : Sto} {Φ : DK} : oNe (.bl b) (.bl c) μ Φ = Φ (.bl (!decide (b = c))) μ := w_someb
end DW
set_option Elab.async false
set_option linter.all false
set_option maxRecDepth 100000
set_option maxHeartbeats 4000000
namespace DW
open PySem PySem.Spec PyProof.Rows L2
section
variable {X : Cx} {CX : CXT} {k : Nat} {f C a b dx dy : Addr} {fd : FuncData} {ps : List Str} {sp : Sp} {E : L2.St → XK} {σ : L2.St} {H : Hp} {s : Shared} {Q : VK} {pins : List (Addr × Obj)} {fs gs : List (Str × V)} {ta tb : TE} {ea eb : Expr}
theorem ep_back {u : Value} {s' : Shared} (h : EP X pins σ (fun v H' => (∃ r, v = .ref r) ∧ Q v H') u s') : PySem.W.CmpBack (EP X pins σ Q) u s' := by
  obtain ⟨v, H', I, r, ⟨z, rfl⟩, q⟩ := h
  obtain rfl : u = Value.ref z := r
  show EP X pins σ Q (.ref z) s'
  exact ⟨.ref z, H', I, rfl, q⟩
/-- x op y, both of the class -/
def tBinX (C : Addr) (sp : Sp) (E : L2.St → XK) (ta tb : TE) : TE := fun σ H Q => ta σ H fun x H1 => tb σ H1 fun y H2 => ∃ a dx fs b dy gs, x = .ref a ∧ y = .ref b ∧ H2 a = some (.ins C dx fs) ∧ H2 b = some (.ins C dy gs) ∧ sp [x, y] H2 (fun v H' => (∃ r, v = .ref r) ∧ Q v H') (E σ)
theorem pe_binX {op : Operator} (hc : PySem.W.selfFirst X.K C = true) (hm : Meth X.K C (PySem.dunder op.info.2) f) (F : FnOk X.prog X.w X.K X.mg X.base CX k f fd ps sp) (hr : Room k X.A) (hb : Binds X.K fd ps []) (hx : ∀ σ, PassesAt CX X σ (E σ)) (ha : PE X ea ta) (hbb : PE X eb tb) :
    PE X (.BinOp ea op eb pos) (tBinX C sp E ta tb) := by
  refine ⟨fun pins s σ H Q I h => ?_⟩
  refine wpAny_BinOp (binT ha hbb I h fun v u s2 x y H2 I2 rx ry q => ?_)
  obtain ⟨a, dx, fs, b, dy, gs, rfl, rfl, h1, h2, q⟩ := q
  obtain rfl : v = Value.ref a := rx
  obtain rfl : u = Value.ref b := ry
  obtain ⟨mA, J, _⟩ := ins_get I2.hok h1
  obtain ⟨mB, J', _⟩ := ins_get I2.hok h2
  obtain ⟨od, J, _⟩ := J.look
  obtain ⟨od', J', _⟩ := J'.look
  obtain ⟨m, hF⟩ := I2.fr
  refine PySem.W.binop_K hF I2.ok.mod.kin J J'.type hc hm.at_ hm.fn ?_
  exact wpAny_mono (run_fnS (us := [.ref a, .ref b]) (vs := [.ref a, .ref b]) F hr hb (hx σ) I2 (.cons rfl (.cons rfl .nil)) q) (fun u s' h => ep_back h) fun _ _ z => z
/-- ~x -/
def tInvX (C : Addr) (sp : Sp) (E : L2.St → XK) (ta : TE) : TE := fun σ H Q => ta σ H fun x H1 => ∃ a dx fs, x = .ref a ∧ H1 a = some (.ins C dx fs) ∧ sp [x] H1 Q (E σ)
theorem pe_invX (hm : Meth X.K C "__invert__" f) (F : FnOk X.prog X.w X.K X.mg X.base CX k f fd ps sp) (hr : Room k X.A) (hb : Binds X.K fd ps []) (hx : ∀ σ, PassesAt CX X σ (E σ)) (ha : PE X ea ta) :
    PE X (.UnaryOp .Invert ea pos) (tInvX C sp E ta) := by
  refine ⟨fun pins s σ H Q I h => ?_⟩
  refine UnaryOp_ (thn (ha.run pins s σ H _ I h) fun v s1 ⟨x, H1, I1, r1, a, dx, fs, e, h1, q⟩ => ?_)
  subst e
  obtain rfl : v = Value.ref a := r1
  obtain ⟨mA, J, _⟩ := ins_get I1.hok h1
  obtain ⟨od, J, _⟩ := J.look
  obtain ⟨m, hF⟩ := I1.fr
  refine PySem.W.ksp_inv hF I1.ok.mod.kin J hm.at_ hm.fn ?_
  exact run_fnS (us := [.ref a]) (vs := [.ref a]) F hr hb (hx σ) I1 (.cons rfl .nil) q
end
section
variable {K : Fg} {B : Bx K} {ta tb : TE} {φ φ2 : DE} {Ψ : XP} {δ : DEnv} {μ : Sto} {Φ : DK} {W : WX}
def dBinX (C : Addr) (NS : List Str) (c : Con) (φ φ2 : DE) : DE := fun Ψ δ μ Φ => φ Ψ δ μ fun x μ1 => φ2 Ψ δ μ1 fun y μ2 => ∃ es fs, x = .obj C NS es ∧ y = .obj C NS fs ∧ c [x, y] μ2 (fun d μ3 => (∃ C' NS' es', d = .obj C' NS' es') ∧ Φ d μ3) fun z μ3 => Ψ z δ μ3
theorem sBinX {C : Addr} {NS : List Str} {c : Con} (hW : B.W = W) (a : SE B ta φ) (b : SE B tb φ2) : SE B (tBinX C (spOf K c) (WE W) ta tb) (dBinX C NS c φ φ2) := by
  subst hW
  exact fun σ H δ μ Φ Q S q k => a σ H δ μ _ _ S q fun v H1 x μ1 S1 e1 r1 q1 => b σ H1 δ μ1 _ _ S1 q1 fun u H2 y μ2 S2 e2 r2 q2 => by
    obtain ⟨es, fs, rfl, rfl, q3⟩ := q2
    obtain ⟨p, dx, us, rfl, hH, hnm, hl, hr⟩ := Rep.obj_inv (r1.mono e2)
    obtain ⟨p', dx', us', rfl, hH', hnm', hl', hr'⟩ := Rep.obj_inv r2
    refine ⟨p, dx, _, p', dx', _, rfl, rfl, hH, hH', ?_⟩
    refine ⟨μ2, _, _, fun y μ3 => B.Ψ y δ μ3, S2.sto, .cons (r1.mono e2) (.cons r2 .nil), q3, fun v H3 d μ3 e3 s3 r3 q4 => ?_, fun cls dd H3 y μ3 e3 s3 rx q4 => B.hW cls dd σ H3 y δ μ3 (S2.step e3 s3) rx q4⟩
    obtain ⟨⟨C', NS', es', rfl⟩, q5⟩ := q4
    obtain ⟨p3, _, _, e3', _⟩ := Rep.obj_inv r3
    exact ⟨⟨p3, e3'⟩, k v H3 _ μ3 (S2.step e3 s3) ((e1.trans e2).trans e3) r3 q5⟩
def dInvX (C : Addr) (NS : List Str) (c : Con) (φ : DE) : DE := fun Ψ δ μ Φ => φ Ψ δ μ fun x μ1 => ∃ es, x = .obj C NS es ∧ c [x] μ1 Φ fun z μ3 => Ψ z δ μ3
theorem sInvX {C : Addr} {NS : List Str} {c : Con} (hW : B.W = W) (a : SE B ta φ) : SE B (tInvX C (spOf K c) (WE W) ta) (dInvX C NS c φ) := by
  subst hW
  exact fun σ H δ μ Φ Q S q k => a σ H δ μ _ _ S q fun v H1 x μ1 S1 e1 r1 q1 => by
    obtain ⟨es, rfl, q3⟩ := q1
    obtain ⟨p, dx, us, rfl, hH, hnm, hl, hr⟩ := Rep.obj_inv r1
    exact ⟨p, dx, _, rfl, hH, ⟨μ1, _, Φ, fun y μ3 => B.Ψ y δ μ3, S1.sto, .cons r1 .nil, q3, fun v H3 d μ3 e3 s3 r3 q4 => k v H3 d μ3 (S1.step e3 s3) (e1.trans e3) r3 q4, fun cls dd H3 y μ3 e3 s3 rx q4 => B.hW cls dd σ H3 y δ μ3 (S1.step e3 s3) rx q4⟩⟩
theorem u_binX {C : Addr} {NS : List Str} {c : Con} : dBinX C NS c φ φ2 Ψ δ μ Φ = φ Ψ δ μ fun x μ1 => φ2 Ψ δ μ1 fun y μ2 => ∃ es fs, x = .obj C NS es ∧ y = .obj C NS fs ∧ c [x, y] μ2 (fun d μ3 => (∃ C' NS' es', d = .obj C' NS' es') ∧ Φ d μ3) fun z μ3 => Ψ z δ μ3 := rfl
theorem u_invX {C : Addr} {NS : List Str} {c : Con} : dInvX C NS c φ Ψ δ μ Φ = φ Ψ δ μ fun x μ1 => ∃ es, x = .obj C NS es ∧ c [x] μ1 Φ fun z μ3 => Ψ z δ μ3 := rfl
end
end DW
set_option Elab.async false
set_option linter.all false
set_option maxRecDepth 100000
set_option Elab.async false
set_option linter.all false
set_option maxRecDepth 100000
set_option maxHeartbeats 4000000
namespace DW
open PySem PySem.Spec PyProof.Rows L2
section
variable {X : Cx} {CX : CXT} {k : Nat} {f C : Addr} {fd : FuncData} {ps : List Str} {sp : Sp} {E : L2.St → XK} {ta tb : TE} {ea eb : Expr} {pos : Pos}
theorem run_fnS1 {pins : List (Addr × Obj)} {σ : L2.St} {H : Hp} {s : Shared} {Q : VK} {us : List Value} {vs : List V} (F : FnOk X.prog X.w X.K X.mg X.base CX k f fd ps sp) (hr : Room (k + 1) X.A) (hb : Binds X.K fd ps []) (hx : PassesAt CX X σ (E σ))
    (I : Inv X pins σ H s) (r : Vals vs us) (h : sp vs H Q (E σ)) : wpAny (model X.prog X.w) X.A.in1 (call (.ref f) us) (EP X pins σ Q) X.xe s := by
  have hl : us.length = ps.length := by rw [← r.length]; exact F.len _ _ _ _ h
  have b := hb s us I.kIn (by rw [List.append_nil]; exact hl)
  rw [List.append_nil] at b
  have e0 : Env0 X.prog X.w X.K X.mg X.base X.A.in1 X.stack s H := by
    have e := I.env0
    exact ⟨e.frames, e.mod, e.bs, e.bsz, e.funs, e.frf, e.hok, e.bare⟩
  refine wpAny_call (codeAny_mono (F.run X.A.in1 X.stack s H ⟨us, []⟩ us vs Q (E σ) hr.in1 e0 b r h) fun r s' hq => ?_)
  cases r with
  | error e => exact hx pins H s e s' I hq
  | ok fl =>
    cases fl with
    | ret u => exact I.after hq
    | next => exact False.elim hq
    | brk => exact False.elim hq
    | cont => exact False.elim hq
def PlainOwn (b : Expr) : Prop := ∀ o i, subscripted b true o i = runValue (.builtin "lifetime.subscript" ⟨[o, i], []⟩)
def tGetX (C : Addr) (sp : Sp) (E : L2.St → XK) (ta tb : TE) : TE := fun σ H Q => ta σ H fun x H1 => tb σ H1 fun y H2 => ∃ a dx fs, x = .ref a ∧ H2 a = some (.ins C dx fs) ∧ sp [x, y] H2 Q (E σ)
theorem pe_getX (hm : Meth X.K C "__getitem__" f) (hfn : PySem.W.fnIn X.K f = true) (F : FnOk X.prog X.w X.K X.mg X.base CX k f fd ps sp) (hr : Room (k + 1) X.A) (hb : Binds X.K fd ps []) (hx : ∀ σ, PassesAt CX X σ (E σ)) (ha : PE X ea ta) (hbb : PE X eb tb) (hs : PlainOwn eb) :
    PE X (.Subscript ea eb pos) (tGetX C sp E ta tb) := by
  refine ⟨fun pins s σ H Q I h => ?_⟩
  refine Subscript_ (binT ha hbb I h fun v u s2 x y H2 I2 rx ry q => ?_)
  obtain ⟨a, dx, fs, rfl, h1, q⟩ := q
  obtain rfl : v = Value.ref a := rx
  obtain ⟨mA, J, _⟩ := ins_get I2.hok h1
  obtain ⟨od, J, _⟩ := J.look
  obtain ⟨m, hF⟩ := I2.fr
  exact PySem.W.sub_K hF I2.ok.mod.kin J hm.at_ hfn hm.fn (run_fnS1 (us := [.ref a, u]) (vs := [.ref a, y]) F hr hb (hx σ) I2 (.cons rfl (.cons ry .nil)) q) (hs _ _)
end
section
variable {K : Fg} {B : Bx K} {ta tb : TE} {φ φ2 : DE} {Ψ : XP} {δ : DEnv} {μ : Sto} {Φ : DK} {W : WX}
def dGetX (C : Addr) (NS : List Str) (c : Con) (φ φ2 : DE) : DE := fun Ψ δ μ Φ => φ Ψ δ μ fun x μ1 => φ2 Ψ δ μ1 fun y μ2 => ∃ es, x = .obj C NS es ∧ c [x, y] μ2 Φ fun z μ3 => Ψ z δ μ3
theorem sGetX {C : Addr} {NS : List Str} {c : Con} (hW : B.W = W) (a : SE B ta φ) (b : SE B tb φ2) : SE B (tGetX C (spOf K c) (WE W) ta tb) (dGetX C NS c φ φ2) := by
  subst hW
  exact fun σ H δ μ Φ Q S q k => a σ H δ μ _ _ S q fun v H1 x μ1 S1 e1 r1 q1 => b σ H1 δ μ1 _ _ S1 q1 fun u H2 y μ2 S2 e2 r2 q2 => by
    obtain ⟨es, rfl, q3⟩ := q2
    obtain ⟨p, dx, us, rfl, hH, hnm, hl, hr⟩ := Rep.obj_inv (r1.mono e2)
    exact ⟨p, dx, _, rfl, hH, ⟨μ2, _, Φ, fun y μ3 => B.Ψ y δ μ3, S2.sto, .cons (r1.mono e2) (.cons r2 .nil), q3, fun v H3 d μ3 e3 s3 r3 q4 => k v H3 d μ3 (S2.step e3 s3) ((e1.trans e2).trans e3) r3 q4, fun cls dd H3 y μ3 e3 s3 rx q4 => B.hW cls dd σ H3 y δ μ3 (S2.step e3 s3) rx q4⟩⟩
theorem u_getX {C : Addr} {NS : List Str} {c : Con} : dGetX C NS c φ φ2 Ψ δ μ Φ = φ Ψ δ μ fun x μ1 => φ2 Ψ δ μ1 fun y μ2 => ∃ es, x = .obj C NS es ∧ c [x, y] μ2 Φ fun z μ3 => Ψ z δ μ3 := rfl
end
end DW
set_option Elab.async false
set_option linter.all false
set_option maxRecDepth 100000
set_option maxHeartbeats 4000000
namespace DW
open PySem PySem.Spec PyProof.Rows PySem.Calls L2
section
variable {X : Cx} {CX : CXT} {k i : Nat} {f C : Addr} {fd : FuncData} {ps : List Str} {sp : Sp} {E : L2.St → XK} {t : TA} {e : Expr} {es : List Expr} {x : Str} {p pos : Pos}
/-- a call of an instance, its place known after the arguments -/
theorem callWith_ins {M : Model} {A : Around} {R : Value → Shared → Prop} {Er : Value → Shared → Prop} {s : Shared} {env : Env} {a C : Addr} {fst : List Value}
    (h : wpAny M A (spliced (backTo pos (starEach (e :: es) env))) (fun vs s₁ => (∃ ox od, ox.data = .plain ∧ PySem.W.InstAt s₁.heap a ox C od) ∧ wpAny M A (call (.ref a) (fst ++ vs)) R Er s₁) Er s)
    (he : starEach (e :: es) env = (false, eval e env) :: starEach es env) (hp : (backTo pos (starEach es env)).any (·.1) = false) :
    wpAny M A (callWith pos (.ref a) fst (backTo pos (starEach (e :: es) env)) []) R Er s := by
  rw [he] at h ⊢
  have hplain : ((backTo pos ((false, eval e env) :: starEach es env)).any (·.1) || ([] : List (Option Str × Sem Value)).any (·.1.isNone)) = false := by
    show ((false || (backTo pos (starEach es env)).any (·.1)) || false) = false
    rw [hp]; rfl
  generalize ha : (backTo pos ((false, eval e env) :: starEach es env)) = args at h hplain
  have h2 : wpAny M A (evalArgs (.ref a) true args []) (fun b s₁ => (∃ ox od, ox.data = .plain ∧ PySem.W.InstAt s₁.heap a ox C od) ∧ wpAny M A (call (.ref a) (fst ++ b.pos) b.kw) R Er s₁) Er s := by
    subst ha
    exact evalArgs_plain h
  unfold callWith
  refine wpAny_bind (wpAny_holding (wpAny_mono h2 (fun b s₁ h₁ => wpAny_bind (wpAny_standAt ?_)) fun _ _ y => y))
  obtain ⟨⟨ox, od, hpl, J⟩, h3⟩ := h₁
  have L := PySem.W.kco_keeper (M := M) J hpl
  simp only [hplain]
  refine wpAny_bind (L.here ?_)
  have tail : ∀ {u : Sem Value}, wpAny M A u R Er s₁ → wpAny M A (u >>= fun r => holding [r] point >>= fun _ => pure r) R Er s₁ :=
    fun hu => wpAny_bind (wpAny_mono hu (fun r s₂ hr => wpAny_bind (wpAny_holding (wpAny_point (wpAny_pure hr)))) fun _ _ y => y)
  exact tail (wpAny_operateT h3)
theorem run_ins {pins : List (Addr × Obj)} {σ : L2.St} {H : Hp} {s : Shared} {Q : VK} {us : List Value} {vs : List V} {a dx : Addr} {fs : List (Str × V)} (hm : Meth X.K C "__call__" f) (hfn : PySem.W.fnIn X.K f = true) (F : FnOk X.prog X.w X.K X.mg X.base CX k f fd ps sp) (hr : Room k X.A) (hb : Binds X.K fd ps []) (hx : PassesAt CX X σ (E σ))
    (I : Inv X pins σ H s) (h1 : H a = some (.ins C dx fs)) (r0 : Vals vs us) (h : sp (.ref a :: vs) H Q (E σ)) : wpAny (model X.prog X.w) X.A (call (.ref a) us) (EP X pins σ Q) X.xe s := by
  obtain ⟨mA, J, _⟩ := ins_get I.hok h1
  obtain ⟨od, J, _⟩ := J.look
  have r : Vals (V.ref a :: vs) (Value.ref a :: us) := .cons rfl r0
  have hl : (Value.ref a :: us).length = ps.length := by rw [← r.length]; exact F.len _ _ _ _ h
  have b := hb s (Value.ref a :: us) I.kIn (by rw [List.append_nil]; exact hl)
  rw [List.append_nil] at b
  refine wpAny_call (PySem.W.kco_code (a := ⟨us, []⟩) I.kIn J rfl hm.at_ hm.fn hfn (codeAny_mono (F.run X.A X.stack s H ⟨Value.ref a :: us, []⟩ (Value.ref a :: us) (V.ref a :: vs) Q (E σ) hr I.env0 b r h) fun r s' hq => ?_))
  cases r with
  | error e => exact hx pins H s e s' I hq
  | ok fl =>
    cases fl with
    | ret u => exact I.after hq
    | next => exact False.elim hq
    | brk => exact False.elim hq
    | cont => exact False.elim hq
def tCallX (C : Addr) (i : Nat) (sp : Sp) (E : L2.St → XK) (t : TA) : TE := fun σ H Q => ∃ a, σ[i]? = some (some (.ref a)) ∧ t σ H fun vs H1 => (∃ dx fs, H1 a = some (.ins C dx fs)) ∧ sp (.ref a :: vs) H1 Q (E σ)
theorem pe_callX (hm : Meth X.K C "__call__" f) (hfn : PySem.W.fnIn X.K f = true) (F : FnOk X.prog X.w X.K X.mg X.base CX k f fd ps sp) (hr : Room k X.A) (hb : Binds X.K fd ps []) (hx : ∀ σ, PassesAt CX X σ (E σ)) (hN : X.N[i]? = some x) (hv : Vis X.env.scope x) (ha : PA X (e :: es) t)
    (hd : (x == ("__debug__" : Str)) = false := by decide) (hcd : (x == ("__classdict__" : Str)) = false := by decide)
    (he : starEach (e :: es) X.env = (false, eval e X.env) :: starEach es X.env := by rfl) (hpl : (backTo pos (starEach es X.env)).any (·.1) = false := by rfl) : PE X (.Call (.Name x p) (e :: es) [] pos) (tCallX C i sp E t) := by
  refine ⟨fun pins s σ H Q I ⟨a, hs, h⟩ => ?_⟩
  refine wpAny_Call_Name_kw (thn ((pe_var (pos := p) (i := i) hN hv hd hcd).run pins s σ H (fun v H1 => v = .ref a ∧ H1 = H) I ⟨.ref a, hs, rfl, rfl⟩) fun u s1 ⟨v, H1, I1, r1, ev, eH⟩ => ?_)
  subst ev
  rw [eH] at I1
  cases r1
  refine callWith_ins (C := C) (fst := []) (thn (ha.run pos pins s1 σ H _ I1 h) fun us s2 ⟨vs, H2, I2, r, ⟨dx, fs, h1⟩, q⟩ => ⟨?_, run_ins hm hfn F hr hb (hx σ) I2 h1 r q⟩) he hpl
  obtain ⟨mA, J, _⟩ := ins_get I2.hok h1
  obtain ⟨od, J, _⟩ := J.look
  exact ⟨_, some od, rfl, J⟩
end
section
variable {K : Fg} {B : Bx K} {tas : TA} {ψ : DA} {Ψ : XP} {δ : DEnv} {μ : Sto} {Φ : DK} {W : WX}
def dCallX (C : Addr) (NS : List Str) (i : Nat) (c : Con) (ψ : DA) : DE := fun Ψ δ μ Φ => ∃ es, δ[i]? = some (some (.obj C NS es)) ∧ ψ Ψ δ μ fun ds μ1 => c (.obj C NS es :: ds) μ1 Φ fun y μ2 => Ψ y δ μ2
theorem sCallX {C : Addr} {NS : List Str} {i : Nat} {c : Con} (hW : B.W = W) (a : SA B tas ψ) : SE B (tCallX C i (spOf K c) (WE W) tas) (dCallX C NS i c ψ) := by
  subst hW
  exact fun σ H δ μ Φ Q S q k => by
    obtain ⟨es, hi, q⟩ := q
    obtain ⟨v, ev, r⟩ := S.env.at_ i _ hi
    obtain ⟨p, _, _, rfl, _⟩ := Rep.obj_inv r
    refine ⟨p, ev, a σ H δ μ _ _ S q fun vs H1 ds μ1 S1 e1 r1 q1 => ?_⟩
    obtain ⟨p', dx, us, ep, hH, _⟩ := Rep.obj_inv (r.mono e1)
    cases ep
    exact ⟨⟨dx, _, hH⟩, μ1, _, Φ, fun y μ2 => B.Ψ y δ μ2, S1.sto, .cons (r.mono e1) r1, q1, fun v H2 d μ2 e2 s2 r2 q2 => k v H2 d μ2 (S1.step e2 s2) (e1.trans e2) r2 q2, fun cls dd H2 y μ2 e2 s2 rx q2 => B.hW cls dd σ H2 y δ μ2 (S1.step e2 s2) rx q2⟩
theorem u_callX {C : Addr} {NS : List Str} {i : Nat} {c : Con} : dCallX C NS i c ψ Ψ δ μ Φ = ∃ es, δ[i]? = some (some (.obj C NS es)) ∧ ψ Ψ δ μ fun ds μ1 => c (.obj C NS es :: ds) μ1 Φ fun y μ2 => Ψ y δ μ2 := rfl
end
end DW
set_option Elab.async false
set_option linter.all false
set_option maxRecDepth 100000
set_option maxHeartbeats 4000000
namespace DW
open PySem PySem.Spec PyProof.Rows L2
section
variable {K : Fg} {B : Bx K} {ta tb : TE} {φ φ2 : DE} {Ψ : XP} {δ : DEnv} {μ : Sto} {Φ : DK} {W : WX}
def dBinXI (C : Addr) (NS : List Str) (c : Con) (φ φ2 : DE) : DE := fun Ψ δ μ Φ => φ Ψ δ μ fun x μ1 => φ2 Ψ δ μ1 fun y μ2 => ∃ es j, x = .obj C NS es ∧ y = .int j ∧ c [x, y] μ2 (fun d μ3 => (∃ C' NS' es', d = .obj C' NS' es') ∧ Φ d μ3) fun z μ3 => Ψ z δ μ3
theorem u_binXI {C : Addr} {NS : List Str} {c : Con} : dBinXI C NS c φ φ2 Ψ δ μ Φ = φ Ψ δ μ fun x μ1 => φ2 Ψ δ μ1 fun y μ2 => ∃ es j, x = .obj C NS es ∧ y = .int j ∧ c [x, y] μ2 (fun d μ3 => (∃ C' NS' es', d = .obj C' NS' es') ∧ Φ d μ3) fun z μ3 => Ψ z δ μ3 := rfl
def cSum : DC := fun xs μ Φ => ∃ (x : D) (ns : List Int), xs = [x] ∧ Items μ x (ns.map .int) ∧ isTup x = false ∧ Φ (.int ns.sum) μ
theorem rcSum : RC K (rSum K) cSum := fun H μ vs ds Φ Q s r q k => by
  obtain ⟨x, ns, rfl, hi, ht, q⟩ := q
  obtain ⟨v, rfl, r1⟩ := reps1 r
  obtain ⟨a, us, rfl, h1, h2⟩ := hi.okL s r1 ht
  have e := reps_intsV h2
  subst e
  exact ⟨a, ns, rfl, h1, k _ H _ μ .refl s (.int _ .nil) q⟩
theorem w_sumL {ns : List Int} (h : Φ (.int ns.sum) μ) : cSum [.lst (ns.map .int)] μ Φ := ⟨_, ns, rfl, .lst _, rfl, h⟩
def dRestF (i : Nat) : DE := fun _ δ μ Φ => ∃ a ds, δ[i]? = some (some (.hd (.ref a))) ∧ ((μ a = some (.lst ds) ∧ Φ (.lst ds) (sset μ a (.frz ds))) ∨ (μ a = some (.frz ds) ∧ Φ (.lst ds) μ))
theorem u_restF {i : Nat} : dRestF i Ψ δ μ Φ = ∃ a ds, δ[i]? = some (some (.hd (.ref a))) ∧ ((μ a = some (.lst ds) ∧ Φ (.lst ds) (sset μ a (.frz ds))) ∨ (μ a = some (.frz ds) ∧ Φ (.lst ds) μ)) := rfl
end
end DW
set_option Elab.async false
set_option linter.all false
set_option maxRecDepth 100000
set_option maxHeartbeats 4000000
namespace DW
open PySem PySem.Spec PyProof.Rows L2
end DW
set_option Elab.async false
set_option linter.all false
set_option maxRecDepth 100000
set_option maxHeartbeats 4000000
namespace DW
open PySem PySem.Spec PyProof.Rows L2
end DW
set_option Elab.async false
set_option linter.all false
set_option maxRecDepth 100000
namespace DW
open PySem PySem.Spec PyProof.Rows L2
section
variable {K : Fg} {B : Bx K}
def dStar (φ : DE) (ψ : DA) : DA := fun Ψ δ μ Φ => φ Ψ δ μ fun x μ1 => ∃ ds, x = .tup ds ∧ ψ Ψ δ μ1 fun xs μ2 => Φ (ds ++ xs) μ2
theorem u_star {φ : DE} {ψ : DA} {Ψ : XP} {δ : DEnv} {μ : Sto} {Φ : List D → Sto → Prop} : dStar φ ψ Ψ δ μ Φ = φ Ψ δ μ fun x μ1 => ∃ ds, x = .tup ds ∧ ψ Ψ δ μ1 fun xs μ2 => Φ (ds ++ xs) μ2 := rfl
def dRev2L (φ : DE) : DE := fun Ψ δ μ Φ => φ Ψ δ μ fun x μ1 => ∃ ds, Items μ1 x ds ∧ isTup x = false ∧ ds ≠ [] ∧ Φ (.lst ds.dropLast.reverse) μ1
theorem u_rev2L {φ : DE} {Ψ : XP} {δ : DEnv} {μ : Sto} {Φ : DK} : dRev2L φ Ψ δ μ Φ = φ Ψ δ μ fun x μ1 => ∃ ds, Items μ1 x ds ∧ isTup x = false ∧ ds ≠ [] ∧ Φ (.lst ds.dropLast.reverse) μ1 := rfl
end
section
variable {K : Fg} {B : Bx K}
def dCallR (n : Nat) (c : Con) (ψ : DA) : DE := fun Ψ δ μ Φ => ψ Ψ δ μ fun xs μ1 => n ≤ xs.length ∧ xs.length ≤ 100000 ∧ c (xs.take n ++ [.tup (xs.drop n)]) μ1 Φ fun x μ2 => Ψ x δ μ2
theorem u_callR {n : Nat} {c : Con} {ψ : DA} {Ψ : XP} {δ : DEnv} {μ : Sto} {Φ : DK} : dCallR n c ψ Ψ δ μ Φ = ψ Ψ δ μ fun xs μ1 => n ≤ xs.length ∧ xs.length ≤ 100000 ∧ c (xs.take n ++ [.tup (xs.drop n)]) μ1 Φ fun x μ2 => Ψ x δ μ2 := rfl
end
end DW
set_option Elab.async false
set_option linter.all false
set_option maxRecDepth 100000
namespace LW
open PySem PySem.Spec L2 DW
theorem seq_cut {ω ζ : DSt} {Ψ : XP} {Δ : DEnds} {δ : DEnv} {μ : Sto} (h : ∀ M, M = ζ Ψ Δ → ω Ψ { Δ with nx := M } δ μ) : dSeq ω ζ Ψ Δ δ μ := h _ rfl
structure Rw where
  h : List Int
  c : List Int
def NSA : List Str := ["head", "cycle"]
def rwO (C : Addr) (r : Rw) : D := .obj C NSA [.tup (r.h.map .int), .tup (r.c.map .int)]
def cyc (c : List Int) (i : Nat) : Int := c.getD (i % c.length) 0
/-- what stands at a place -/
def ent (r : Rw) (i : Nat) : Int := if i < r.h.length then r.h.getD i 0 else cyc r.c (i - r.h.length)
structure RwOk (r : Rw) : Prop where
  c0 : r.c ≠ []
  hl : r.h.length ≤ 1000
  cl : r.c.length ≤ 1000
  hp : ∀ x ∈ r.h, 0 ≤ x
  cp : ∀ x ∈ r.c, 0 ≤ x
def Per (c : List Int) (d : Nat) : Prop := ∀ i, cyc c (i + d) = cyc c i
theorem cyc_mod (c : List Int) (i : Nat) : cyc c (i % c.length) = cyc c i := by unfold cyc; rw [Nat.mod_mod]
theorem cyc_lt {c : List Int} {i : Nat} (h : i < c.length) : cyc c i = c[i] := by
  unfold cyc
  rw [Nat.mod_eq_of_lt h, List.getD_eq_getElem?_getD, List.getElem?_eq_getElem h]; rfl
theorem cyc_add (c : List Int) (i : Nat) : cyc c (i + c.length) = cyc c i := by unfold cyc; rw [Nat.add_mod_right]
theorem per_len (c : List Int) : Per c c.length := cyc_add c
theorem per_of {c : List Int} {d : Nat} (h : ∀ i, i < c.length → cyc c (i + d) = cyc c i) (hc : 0 < c.length) : Per c d := fun i => by
  have := h (i % c.length) (Nat.mod_lt _ hc)
  rw [cyc_mod] at this
  rw [← this]
  unfold cyc
  rw [Nat.mod_add_mod]
theorem per_mul {c : List Int} {d : Nat} (h : Per c d) : ∀ k i, cyc c (i + k * d) = cyc c i
  | 0, i => by rw [Nat.zero_mul, Nat.add_zero]
  | k + 1, i => by rw [show i + (k + 1) * d = i + k * d + d by rw [Nat.add_mul]; omega, h, per_mul h k i]
theorem least {P : Nat → Prop} {n : Nat} (h : P n) : ∃ m, m ≤ n ∧ P m ∧ ∀ j, j < m → ¬ P j := by
  induction n using Nat.strongRecOn with
  | ind n ih =>
    by_cases hx : ∃ j, j < n ∧ P j
    · obtain ⟨j, hj, hp⟩ := hx
      obtain ⟨m, h1, h2, h3⟩ := ih j hj hp
      exact ⟨m, by omega, h2, h3⟩
    · exact ⟨n, Nat.le_refl _, h, fun j hj hp => hx ⟨j, hj, hp⟩⟩
structure MinPer (c : List Int) (d : Nat) : Prop where
  d1 : 1 ≤ d
  per : Per c d
  min : ∀ e, 1 ≤ e → e < d → ¬ Per c e
theorem minper_ex {c : List Int} (hc : c ≠ []) : ∃ d, MinPer c d := by
  obtain ⟨m, _, ⟨h1, h2⟩, h3⟩ := least (P := fun d => 1 ≤ d ∧ Per c d) (n := c.length) ⟨List.length_pos_iff.mpr hc, per_len c⟩
  exact ⟨m, h1, h2, fun e e1 e2 hp => h3 e e2 ⟨e1, hp⟩⟩
theorem MinPer.le {c : List Int} {d : Nat} (h : MinPer c d) (hc : c ≠ []) : d ≤ c.length := Classical.byContradiction fun z => h.min c.length (List.length_pos_iff.mpr hc) (by omega) (per_len c)
theorem MinPer.dvd {c : List Int} {d e : Nat} (h : MinPer c d) (he : Per c e) : e % d = 0 := by
  refine Classical.byContradiction fun z => h.min (e % d) (by omega) (Nat.mod_lt _ h.d1) fun i => ?_
  have e1 := per_mul h.per (e / d) (i + e % d)
  have e2 : i + e % d + e / d * d = i + e := by have := Nat.div_add_mod e d; rw [Nat.mul_comm] at this; omega
  rw [e2, he] at e1
  exact e1.symm
/-- turned by d -/
def rot (c : List Int) (d : Nat) : List Int := c.drop d ++ c.take d
theorem rot_len {c : List Int} {d : Nat} (h : d ≤ c.length) : (rot c d).length = c.length := by unfold rot; rw [List.length_append, List.length_drop, List.length_take]; omega
theorem rot_at {c : List Int} {d i : Nat} (h : d ≤ c.length) (hi : i < c.length) : (rot c d)[i]? = some (cyc c (i + d)) := by
  unfold rot
  by_cases q : i + d < c.length
  · rw [List.getElem?_append_left (by rw [List.length_drop]; omega), List.getElem?_drop, Nat.add_comm d i, List.getElem?_eq_getElem q, cyc_lt q]
  · rw [List.getElem?_append_right (by rw [List.length_drop]; omega), List.length_drop, List.getElem?_take, if_pos (by omega), List.getElem?_eq_getElem (by omega)]
    have e : (i + d) % c.length = i - (c.length - d) := by
      rw [Nat.mod_eq_sub_mod (by omega), Nat.mod_eq_of_lt (by omega)]; omega
    unfold cyc
    rw [e, List.getD_eq_getElem?_getD, List.getElem?_eq_getElem (by omega)]; rfl
theorem self_at {c : List Int} {i : Nat} (hi : i < c.length) : c[i]? = some (cyc c i) := by rw [List.getElem?_eq_getElem hi, cyc_lt hi]
theorem rep_at {α : Type} {l : List α} : ∀ {k i : Nat}, i < k * l.length → (List.replicate k l).flatten[i]? = l[i % l.length]?
  | 0, i, h => by simp at h
  | k + 1, i, h => by
    rw [List.replicate_succ, List.flatten_cons]
    by_cases q : i < l.length
    · rw [List.getElem?_append_left q, Nat.mod_eq_of_lt q]
    · rw [List.getElem?_append_right (by omega), rep_at (by rw [Nat.add_mul] at h; omega), ← Nat.mod_eq_sub_mod (by omega)]
theorem rep_per {c : List Int} {d : Nat} (d1 : 1 ≤ d) (h : d ≤ c.length) : (List.replicate (c.length / d) (c.take d)).flatten = c ↔ (c.length % d = 0 ∧ Per c d) := by
  have hl : (c.take d).length = d := by rw [List.length_take]; omega
  have hn : (List.replicate (c.length / d) (c.take d)).flatten.length = c.length / d * d := by simp [hl]
  have hc : 0 < c.length := by omega
  refine ⟨fun e => ?_, fun ⟨z, p⟩ => ?_⟩
  · have el : c.length / d * d = c.length := by rw [← hn, e]
    have z : c.length % d = 0 := by have := Nat.div_add_mod c.length d; rw [Nat.mul_comm] at this; omega
    have key : ∀ i, i < c.length → cyc c (i % d) = cyc c i := fun i hi => by
      have := rep_at (l := c.take d) (k := c.length / d) (i := i) (by rw [hl, el]; exact hi)
      rw [e, hl, List.getElem?_take, if_pos (Nat.mod_lt _ d1), self_at hi, self_at (by have := Nat.mod_lt i d1; omega)] at this
      exact (Option.some.inj this).symm
    refine ⟨z, per_of (fun i hi => ?_) hc⟩
    have a := key ((i + d) % c.length) (Nat.mod_lt _ hc)
    rw [Nat.mod_mod_of_dvd _ (Nat.dvd_of_mod_eq_zero z), Nat.add_mod_right, key i hi, cyc_mod] at a
    exact a.symm
  · have el : c.length / d * d = c.length := by have := Nat.div_add_mod c.length d; rw [Nat.mul_comm] at this; omega
    apply List.ext_getElem?
    intro i
    by_cases hi : i < c.length
    · rw [rep_at (by rw [hl, el]; exact hi), hl, List.getElem?_take, if_pos (Nat.mod_lt _ d1), self_at hi, self_at (by have := Nat.mod_lt i d1; omega)]
      have := per_mul p (i / d) (i % d)
      rw [show i % d + i / d * d = i by have := Nat.div_add_mod i d; rw [Nat.mul_comm] at this; omega] at this
      rw [this]
    · rw [List.getElem?_eq_none (by rw [hn, el]; omega), List.getElem?_eq_none (by omega)]
structure LeastOf (s : Nat → Int) (p d : Nat) : Prop where
  d1 : 1 ≤ d
  dmin : ∀ e, 1 ≤ e → e < d → ¬ ∃ N, ∀ m, N ≤ m → s (m + e) = s m
  pp : ∀ m, p ≤ m → s (m + d) = s m
  pmin : ∀ q, q < p → ¬ ∀ m, q ≤ m → s (m + d) = s m
def mkR (s : Nat → Int) (p d : Nat) : Rw := ⟨(List.range p).map s, (List.range d).map fun i => s (p + i)⟩
/-- the least form of r -/
def IsLeast (r r' : Rw) : Prop := ∃ p d, LeastOf (ent r) p d ∧ r' = mkR (ent r) p d
theorem ent_mk {s : Nat → Int} {p d : Nat} (d1 : 1 ≤ d) (hp : ∀ m, p ≤ m → s (m + d) = s m) (i : Nat) : ent (mkR s p d) i = s i := by
  unfold ent mkR
  simp only [List.length_map, List.length_range]
  by_cases h : i < p
  · rw [if_pos h, List.getD_eq_getElem?_getD, List.getElem?_map, List.getElem?_range h]; rfl
  · rw [if_neg h]
    unfold cyc
    rw [List.length_map, List.length_range, List.getD_eq_getElem?_getD, List.getElem?_map, List.getElem?_range (Nat.mod_lt _ d1)]
    show s (p + (i - p) % d) = s i
    have : ∀ k j, p ≤ j → s (j + k * d) = s j := fun k => by
      induction k with
      | zero => intro j hj; rw [Nat.zero_mul, Nat.add_zero]
      | succ k ih => intro j hj; rw [show j + (k + 1) * d = j + k * d + d by rw [Nat.add_mul]; omega, hp _ (by omega), ih j hj]
    have e := this ((i - p) / d) (p + (i - p) % d) (by omega)
    rw [← e]
    congr 1
    have := Nat.div_add_mod (i - p) d
    rw [Nat.mul_comm] at this
    omega
theorem IsLeast.ent_eq {r a : Rw} (h : IsLeast r a) (i : Nat) : ent a i = ent r i := by
  obtain ⟨p, d, h1, rfl⟩ := h
  exact ent_mk h1.d1 h1.pp i
theorem ent_eper {r : Rw} (hc : r.c ≠ []) {e : Nat} (h : ∃ N, ∀ m, N ≤ m → ent r (m + e) = ent r m) : Per r.c e := fun i => by
  obtain ⟨N, h⟩ := h
  have hl : 0 < r.c.length := List.length_pos_iff.mpr hc
  have hN : N ≤ N * r.c.length := Nat.le_mul_of_pos_right _ hl
  have := h (r.h.length + (i + N * r.c.length)) (by omega)
  unfold ent at this
  rw [if_neg (by omega), if_neg (by omega), show r.h.length + (i + N * r.c.length) + e - r.h.length = i + e + N * r.c.length by omega, Nat.add_sub_cancel_left, per_mul (per_len r.c), per_mul (per_len r.c)] at this
  exact this
/-- how many last entries of the head the cycle could say, d the shortest cycle's length -/
structure Spare (h c : List Int) (d sp : Nat) : Prop where
  le : sp ≤ h.length
  yes : ∀ s, s < sp → h.getD (h.length - 1 - s) 0 = cyc c (d - 1 - s % d)
  no : sp < h.length → h.getD (h.length - 1 - sp) 0 ≠ cyc c (d - 1 - sp % d)
theorem back_mod {d s : Nat} (h : d ≤ s) : (s - d) % d = s % d := (Nat.mod_eq_sub_mod h).symm
theorem spare_per {r : Rw} {d sp : Nat} (hc : r.c ≠ []) (hd : MinPer r.c d) (hs : Spare r.h r.c d sp) {s : Nat} (hsl : s < r.h.length) (hss : s ≤ sp) : ent r (r.h.length - 1 - s + d) = cyc r.c (d - 1 - s % d) := by
  have d1 := hd.d1
  unfold ent
  by_cases q : s < d
  · rw [if_neg (by omega), Nat.mod_eq_of_lt q]
    congr 1
    omega
  · rw [if_pos (by omega), show r.h.length - 1 - s + d = r.h.length - 1 - (s - d) by omega, hs.yes (s - d) (by omega), back_mod (by omega)]
theorem leastOf_spare {r : Rw} {d sp : Nat} (hc : r.c ≠ []) (hd : MinPer r.c d) (hs : Spare r.h r.c d sp) : LeastOf (ent r) (r.h.length - sp) d := by
  have d1 := hd.d1
  refine ⟨d1, fun e e1 e2 z => hd.min e e1 e2 (ent_eper hc z), fun m hm => ?_, fun q hq z => ?_⟩
  · by_cases h : r.h.length ≤ m
    · unfold ent
      rw [if_neg (by omega), if_neg (by omega), show m + d - r.h.length = m - r.h.length + d by omega]
      exact hd.per _
    · obtain ⟨s, rfl⟩ : ∃ s, m = r.h.length - 1 - s := ⟨r.h.length - 1 - m, by omega⟩
      by_cases hs0 : s < r.h.length
      · have hss : s < sp := by omega
        rw [spare_per hc hd hs hs0 (by omega), ← hs.yes s hss]
        unfold ent
        rw [if_pos (by omega)]
      · have e0 : r.h.length - 1 - s = r.h.length - 1 - (r.h.length - 1) := by omega
        rw [e0]
        rw [spare_per hc hd hs (by omega) (by omega), ← hs.yes _ (by omega)]
        unfold ent
        rw [if_pos (by omega)]
  · have hlt : sp < r.h.length := by omega
    have e := z (r.h.length - 1 - sp) (by omega)
    rw [spare_per hc hd hs hlt (Nat.le_refl _)] at e
    refine hs.no hlt ?_
    rw [e]
    unfold ent
    rw [if_pos (by omega)]
theorem cyc_cong {c : List Int} {d x y k : Nat} (p : Per c d) (h : x = y + k * d) : cyc c x = cyc c y := by rw [h, per_mul p]
theorem take_cyc {c : List Int} {d : Nat} (hc : c ≠ []) (hd : MinPer c d) (j : Nat) : cyc (c.take d) j = cyc c j := by
  have d1 := hd.d1
  have hl : (c.take d).length = d := by rw [List.length_take]; have := hd.le hc; omega
  have e : cyc (c.take d) j = cyc c (j % d) := by
    have hlt : j % d < d := Nat.mod_lt _ d1
    have hle := hd.le hc
    rw [← cyc_mod, hl, cyc_lt (by rw [hl]; exact hlt), List.getElem_take, cyc_lt (by omega)]
  rw [e]
  refine (cyc_cong (k := j / d) hd.per ?_).symm
  have := Nat.div_add_mod j d
  rw [Nat.mul_comm] at this
  omega
/-- what the program makes is the least form -/
theorem isleast_prog {r : Rw} {d sp st : Nat} (hc : r.c ≠ []) (hd : MinPer r.c d) (hs : Spare r.h r.c d sp) (hst : st < d) (hz : (st + sp) % d = 0) : IsLeast r ⟨r.h.take (r.h.length - sp), rot (r.c.take d) st⟩ := by
  have d1 := hd.d1
  have hl : (r.c.take d).length = d := by rw [List.length_take]; have := hd.le hc; omega
  have hle := hs.le
  refine ⟨r.h.length - sp, d, leastOf_spare hc hd hs, ?_⟩
  unfold mkR
  rw [Rw.mk.injEq]
  constructor
  · apply List.ext_getElem?
    intro i
    by_cases h : i < r.h.length - sp
    · rw [List.getElem?_take, if_pos h, List.getElem?_map, List.getElem?_range h, Option.map_some, List.getElem?_eq_getElem (by omega)]
      unfold ent
      rw [if_pos (by omega), List.getD_eq_getElem?_getD, List.getElem?_eq_getElem (by omega)]; rfl
    · rw [List.getElem?_eq_none (by rw [List.length_take]; omega), List.getElem?_eq_none (by rw [List.length_map, List.length_range]; omega)]
  · apply List.ext_getElem?
    intro i
    by_cases h : i < d
    · rw [rot_at (by rw [hl]; omega) (by rw [hl]; exact h), List.getElem?_map, List.getElem?_range h, Option.map_some, take_cyc hc hd]
      congr 1
      obtain ⟨q, hq⟩ : ∃ q, st + sp = d * q := ⟨(st + sp) / d, by have := Nat.div_add_mod (st + sp) d; omega⟩
      by_cases hi : i < sp
      · obtain ⟨s, hs2⟩ : ∃ s, s = sp - 1 - i := ⟨_, rfl⟩
        have e1 : r.h.length - sp + i = r.h.length - 1 - s := by omega
        rw [e1]
        have e2 : ent r (r.h.length - 1 - s) = cyc r.c (d - 1 - s % d) := by
          rw [← hs.yes s (by omega)]
          unfold ent
          rw [if_pos (by omega)]
        rw [e2]
        have m1 := Nat.div_add_mod s d
        have m2 := Nat.mod_lt s d1
        have hqs : s / d + 1 ≤ q := by
          have : d * (s / d) < d * q := by omega
          exact Nat.lt_of_mul_lt_mul_left this
        obtain ⟨k, rfl⟩ : ∃ k, q = s / d + 1 + k := ⟨q - (s / d + 1), by omega⟩
        refine cyc_cong (k := k) hd.per ?_
        have e3 : d * (s / d + 1 + k) = d * (s / d) + d + k * d := by rw [Nat.mul_add, Nat.mul_add, Nat.mul_one, Nat.mul_comm d k]
        omega
      · unfold ent
        rw [if_neg (by omega)]
        refine cyc_cong (k := q) hd.per ?_
        rw [Nat.mul_comm q d]
        omega
    · rw [List.getElem?_eq_none (by rw [rot_len (by rw [hl]; omega), hl]; omega), List.getElem?_eq_none (by rw [List.length_map, List.length_range]; omega)]
theorem RwOk.least {r a : Rw} (h : RwOk r) (g : IsLeast r a) : RwOk a ∧ a.h.length ≤ r.h.length ∧ a.c.length ≤ r.c.length := by
  have hl : 0 < r.c.length := List.length_pos_iff.mpr h.c0
  have he : ∀ i, 0 ≤ ent r i := fun i => by
    unfold ent cyc
    split
    · rename_i q
      rw [List.getD_eq_getElem?_getD, List.getElem?_eq_getElem q]
      exact h.hp _ (List.getElem_mem q)
    · have q := Nat.mod_lt (i - r.h.length) hl
      rw [List.getD_eq_getElem?_getD, List.getElem?_eq_getElem q]
      exact h.cp _ (List.getElem_mem q)
  obtain ⟨p, d, h1, rfl⟩ := g
  have d1 := h1.d1
  have hp : p ≤ r.h.length := Classical.byContradiction fun z => h1.pmin r.h.length (by omega) fun m hm => by
    have := ent_eper h.c0 ⟨p, h1.pp⟩
    unfold ent
    rw [if_neg (by omega), if_neg (by omega), show m + d - r.h.length = m - r.h.length + d by omega]
    exact this _
  have hd : d ≤ r.c.length := Classical.byContradiction fun z => h1.dmin r.c.length hl (by omega) ⟨r.h.length, fun m hm => by
    unfold ent
    rw [if_neg (by omega), if_neg (by omega), show m + r.c.length - r.h.length = m - r.h.length + r.c.length by omega]
    exact cyc_add _ _⟩
  have e1 : (mkR (ent r) p d).h.length = p := by unfold mkR; simp
  have e2 : (mkR (ent r) p d).c.length = d := by unfold mkR; simp
  refine ⟨⟨fun z => ?_, by rw [e1]; have := h.hl; omega, by rw [e2]; have := h.cl; omega, fun x hx => ?_, fun x hx => ?_⟩, by rw [e1]; exact hp, by rw [e2]; exact hd⟩
  · rw [z] at e2; simp at e2; omega
  · obtain ⟨i, _, rfl⟩ := List.mem_map.mp hx
    exact he i
  · obtain ⟨i, _, rfl⟩ := List.mem_map.mp hx
    exact he _
def aft (r : Rw) (k : Nat) : Rw := if k ≤ r.h.length then ⟨r.h.drop k, r.c⟩ else ⟨[], rot r.c ((k - r.h.length) % r.c.length)⟩
theorem rot_cyc {c : List Int} {d : Nat} (h : d ≤ c.length) (hc : c ≠ []) (i : Nat) : cyc (rot c d) i = cyc c (i + d) := by
  have hl : 0 < c.length := List.length_pos_iff.mpr hc
  have hlt : i % c.length < c.length := Nat.mod_lt _ hl
  rw [← cyc_mod, rot_len h]
  have := rot_at h hlt
  rw [self_at (by rw [rot_len h]; exact hlt)] at this
  rw [Option.some.inj this]
  unfold cyc
  rw [Nat.mod_add_mod]
theorem ent_aft {r : Rw} (hc : r.c ≠ []) (k i : Nat) : ent (aft r k) i = ent r (k + i) := by
  have hl : 0 < r.c.length := List.length_pos_iff.mpr hc
  unfold aft
  by_cases h : k ≤ r.h.length
  · rw [if_pos h]
    unfold ent
    simp only [List.length_drop]
    by_cases q : i < r.h.length - k
    · rw [if_pos q, if_pos (by omega), List.getD_eq_getElem?_getD, List.getD_eq_getElem?_getD, List.getElem?_drop]
    · rw [if_neg q, if_neg (by omega)]
      congr 1
      omega
  · rw [if_neg h]
    unfold ent
    simp only [List.length_nil]
    rw [if_neg (by omega), if_neg (by omega), rot_cyc (Nat.le_of_lt (Nat.mod_lt _ hl)) hc]
    have := Nat.div_add_mod (k - r.h.length) r.c.length
    refine (cyc_cong (k := (k - r.h.length) / r.c.length) (per_len _) ?_).symm
    rw [Nat.mul_comm] at this
    omega
theorem RwOk.aft {r : Rw} (h : RwOk r) (k : Nat) : RwOk (aft r k) ∧ (aft r k).h.length ≤ r.h.length ∧ (aft r k).c.length = r.c.length := by
  have hl : 0 < r.c.length := List.length_pos_iff.mpr h.c0
  have h1 := h.hl
  have h2 := h.cl
  unfold LW.aft
  split
  · exact ⟨⟨h.c0, by simp only [List.length_drop]; omega, h.cl, fun x hx => h.hp x (List.mem_of_mem_drop hx), h.cp⟩, by simp only [List.length_drop]; omega, rfl⟩
  · have e := rot_len (c := r.c) (Nat.le_of_lt (Nat.mod_lt (k - r.h.length) hl))
    exact ⟨⟨fun z => by simp only at z; rw [z] at e; simp at e; omega, by simp, by rw [e]; exact h.cl, fun x hx => by simp at hx, fun x hx => by
      unfold rot at hx
      rcases List.mem_append.mp hx with q | q
      · exact h.cp x (List.mem_of_mem_drop q)
      · exact h.cp x (List.mem_of_mem_take q)⟩, by simp, e⟩
end LW
set_option Elab.async false
set_option linter.all false
set_option maxRecDepth 100000
namespace LW
open PySem PySem.Spec L2 DW
inductive QT where
  | tell (o : Nat)
  | look (p : Nat) (ts : List QT)
abbrev NS_Row : List Str := NSA
def NS_Query : List Str := ["term", "widths", "outcomes"]
mutual
def qD : QT → D
  | .tell o => .tup [.str "tell", .int (o : Int)]
  | .look p ts => .tup (.str "look" :: .int (p : Int) :: qDs ts)
def qDs : List QT → List D
  | [] => []
  | t :: ts => qD t :: qDs ts
end
theorem qDs_map : ∀ ts : List QT, qDs ts = ts.map qD
  | [] => rfl
  | t :: ts => by rw [qDs, qDs_map ts]; rfl
theorem qDs_len (ts : List QT) : (qDs ts).length = ts.length := by rw [qDs_map, List.length_map]
/-- the width of a place -/
def wd (ws : List Int) (p : Nat) : Nat := (ws.getD (p % ws.length) 0).toNat
structure WsOk (ws : List Int) : Prop where
  l0 : 1 ≤ ws.length
  l1 : ws.length ≤ 6
  w : ∀ x ∈ ws, 1 ≤ x ∧ x ≤ 4
theorem WsOk.at_ {ws : List Int} (h : WsOk ws) (p : Nat) : ∃ x, ws[p % ws.length]? = some x ∧ x = (wd ws p : Int) ∧ 1 ≤ x ∧ x ≤ 4 := by
  have hp : p % ws.length < ws.length := Nat.mod_lt _ (by have := h.l0; omega)
  have hx := h.w _ (List.getElem_mem hp)
  refine ⟨ws[p % ws.length], List.getElem?_eq_getElem hp, ?_, hx⟩
  unfold wd
  rw [List.getD_eq_getElem?_getD, List.getElem?_eq_getElem hp]
  simp only [Option.getD_some]
  omega
theorem WsOk.wd1 {ws : List Int} (h : WsOk ws) (p : Nat) : 1 ≤ wd ws p ∧ wd ws p ≤ 4 := by
  obtain ⟨x, _, e, h1, h2⟩ := h.at_ p
  omega
mutual
def QOk (ws : List Int) (oc : Nat) : QT → Prop
  | .tell o => o < oc
  | .look p ts => p < 100 ∧ ts.length = wd ws p ∧ QOks ws oc ts
def QOks (ws : List Int) (oc : Nat) : List QT → Prop
  | [] => True
  | t :: ts => QOk ws oc t ∧ QOks ws oc ts
end
theorem qoks_iff {ws : List Int} {oc : Nat} : ∀ {ts : List QT}, QOks ws oc ts ↔ ∀ t ∈ ts, QOk ws oc t
  | [] => by simp [QOks]
  | t :: ts => by rw [QOks, qoks_iff (ts := ts)]; simp
/-- how many looks inside of one another -/
def qDep : QT → Nat
  | .tell _ => 0
  | .look _ ts => qDeps ts + 1
where qDeps : List QT → Nat
  | [] => 0
  | t :: ts => max (qDep t) (qDeps ts)
theorem qdeps_le {t : QT} : ∀ {ts : List QT}, t ∈ ts → qDep t ≤ qDep.qDeps ts
  | s :: ts, h => by
    rw [qDep.qDeps]
    rcases List.mem_cons.mp h with e | e
    · subst e; omega
    · have := qdeps_le e; omega
/-- the places, look by look -/
def qPl : QT → List Nat
  | .tell _ => []
  | .look p ts => p :: qPls ts
where qPls : List QT → List Nat
  | [] => []
  | t :: ts => qPl t ++ qPls ts
theorem qpls_flat : ∀ ts : List QT, qPl.qPls ts = ts.flatMap qPl
  | [] => rfl
  | t :: ts => by rw [qPl.qPls, qpls_flat ts, List.flatMap_cons]
theorem qpls_mem {ts : List QT} {q : Nat} : q ∈ qPl.qPls ts ↔ ∃ t ∈ ts, q ∈ qPl t := by rw [qpls_flat, List.mem_flatMap]
theorem qpls_len {t : QT} : ∀ {ts : List QT}, t ∈ ts → (qPl t).length ≤ (qPl.qPls ts).length
  | s :: ts, h => by
    rw [qPl.qPls, List.length_append]
    rcases List.mem_cons.mp h with e | e
    · subst e; omega
    · have := qpls_len e; omega
/-- what is told on a way -/
def qA (f : Nat → Nat) : QT → Nat
  | .tell o => o
  | .look p ts => (qAs f ts).getD (f p) 0
where qAs (f : Nat → Nat) : List QT → List Nat
  | [] => []
  | t :: ts => qA f t :: qAs f ts
theorem qas_map {f : Nat → Nat} : ∀ ts : List QT, qA.qAs f ts = ts.map (qA f)
  | [] => rfl
  | t :: ts => by rw [qA.qAs, qas_map ts]; rfl
theorem qA_look {f : Nat → Nat} {p : Nat} {ts : List QT} {t : QT} (h : ts[f p]? = some t) : qA f (.look p ts) = qA f t := by
  rw [qA, qas_map, List.getD_eq_getElem?_getD, List.getElem?_map, h]; rfl
/-- a place fixed -/
def qFx (m o : Nat) : QT → QT
  | .tell x => .tell x
  | .look p ts => if p = m then (qFxs m o ts).getD o (.tell 0) else .look p (qFxs m o ts)
where qFxs (m o : Nat) : List QT → List QT
  | [] => []
  | t :: ts => qFx m o t :: qFxs m o ts
theorem qfxs_map {m o : Nat} : ∀ ts : List QT, qFx.qFxs m o ts = ts.map (qFx m o)
  | [] => rfl
  | t :: ts => by rw [qFx.qFxs, qfxs_map ts]; rfl
theorem qFx_at {m o : Nat} {ts : List QT} {t : QT} (h : ts[o]? = some t) : qFx m o (.look m ts) = qFx m o t := by
  rw [qFx, if_pos rfl, qfxs_map, List.getD_eq_getElem?_getD, List.getElem?_map, h]; rfl
theorem qFx_ne {m o p : Nat} {ts : List QT} (h : p ≠ m) : qFx m o (.look p ts) = .look p (ts.map (qFx m o)) := by rw [qFx, if_neg h, qfxs_map]
/-- a way of proving for all terms -/
theorem QT.ind {P : QT → Prop} (h1 : ∀ o, P (.tell o)) (h2 : ∀ p ts, (∀ t ∈ ts, P t) → P (.look p ts)) (t : QT) : P t :=
  QT.rec (motive_1 := P) (motive_2 := fun ts => ∀ t ∈ ts, P t) h1 h2 (by simp) (fun t ts a b => by simpa using ⟨a, b⟩) t
section
variable {ws : List Int} {oc m o : Nat}
theorem qFx_ok (hm : o < wd ws m) : ∀ t, QOk ws oc t → QOk ws oc (qFx m o t) := fun t => by
  induction t using QT.ind with
  | h1 x => intro h; exact h
  | h2 p ts ih =>
    intro h
    obtain ⟨hp, hl, ht⟩ := h
    rw [qoks_iff] at ht
    by_cases e : p = m
    · subst e
      have ho : o < ts.length := by omega
      rw [qFx_at (List.getElem?_eq_getElem ho)]
      exact ih _ (List.getElem_mem ho) (ht _ (List.getElem_mem ho))
    · rw [qFx_ne e]
      refine ⟨hp, by rw [List.length_map]; exact hl, qoks_iff.mpr fun t h => ?_⟩
      obtain ⟨s, hs, rfl⟩ := List.mem_map.mp h
      exact ih s hs (ht s hs)
theorem qFx_ans {f : Nat → Nat} (hm : o < wd ws m) (hf : ∀ p, f p < wd ws p) : ∀ t, QOk ws oc t → qA f (qFx m o t) = qA (fun p => if p = m then o else f p) t := fun t => by
  induction t using QT.ind with
  | h1 x => intro h; rfl
  | h2 p ts ih =>
    intro h
    obtain ⟨hp, hl, ht⟩ := h
    rw [qoks_iff] at ht
    by_cases e : p = m
    · subst e
      have ho : o < ts.length := by omega
      rw [qFx_at (List.getElem?_eq_getElem ho), ih _ (List.getElem_mem ho) (ht _ (List.getElem_mem ho))]
      refine (qA_look ?_).symm
      rw [if_pos rfl]
      exact List.getElem?_eq_getElem ho
    · rw [qFx_ne e]
      have ho : f p < ts.length := by have := hf p; omega
      rw [qA_look (t := qFx m o ts[f p]) (by rw [List.getElem?_map, List.getElem?_eq_getElem ho]; rfl), ih _ (List.getElem_mem ho) (ht _ (List.getElem_mem ho))]
      refine (qA_look ?_).symm
      rw [if_neg e]
      exact List.getElem?_eq_getElem ho
theorem qFx_pl (hm : o < wd ws m) : ∀ t, QOk ws oc t → ∀ q ∈ qPl (qFx m o t), q ∈ qPl t ∧ q ≠ m := fun t => by
  induction t using QT.ind with
  | h1 x => intro h q hq; simp [qFx, qPl] at hq
  | h2 p ts ih =>
    intro h q hq
    obtain ⟨hp, hl, ht⟩ := h
    rw [qoks_iff] at ht
    rw [qPl]
    by_cases e : p = m
    · subst e
      have ho : o < ts.length := by omega
      rw [qFx_at (List.getElem?_eq_getElem ho)] at hq
      obtain ⟨h1, h2⟩ := ih _ (List.getElem_mem ho) (ht _ (List.getElem_mem ho)) q hq
      exact ⟨List.mem_cons_of_mem _ (qpls_mem.mpr ⟨_, List.getElem_mem ho, h1⟩), h2⟩
    · rw [qFx_ne e, qPl] at hq
      rcases List.mem_cons.mp hq with e2 | e2
      · subst e2; exact ⟨List.mem_cons_self, e⟩
      · obtain ⟨s, hs, hq2⟩ := qpls_mem.mp e2
        obtain ⟨t, ht2, rfl⟩ := List.mem_map.mp hs
        obtain ⟨h1, h2⟩ := ih t ht2 (ht t ht2) q hq2
        exact ⟨List.mem_cons_of_mem _ (qpls_mem.mpr ⟨t, ht2, h1⟩), h2⟩
theorem qpls_map_le {g : QT → QT} : ∀ ts : List QT, (∀ t ∈ ts, (qPl (g t)).length ≤ (qPl t).length) → (qPl.qPls (ts.map g)).length ≤ (qPl.qPls ts).length
  | [], _ => Nat.le_refl _
  | t :: ts, h => by
    rw [List.map_cons, qPl.qPls, qPl.qPls, List.length_append, List.length_append]
    have h1 := h t List.mem_cons_self
    have h2 := qpls_map_le ts fun s hs => h s (List.mem_cons_of_mem _ hs)
    omega
theorem qFx_len (hm : o < wd ws m) : ∀ t, QOk ws oc t → (qPl (qFx m o t)).length ≤ (qPl t).length := fun t => by
  induction t using QT.ind with
  | h1 x => intro h; exact Nat.le_refl _
  | h2 p ts ih =>
    intro h
    obtain ⟨hp, hl, ht⟩ := h
    rw [qoks_iff] at ht
    by_cases e : p = m
    · subst e
      have ho : o < ts.length := by omega
      rw [qFx_at (List.getElem?_eq_getElem ho), qPl, List.length_cons]
      have h1 := ih _ (List.getElem_mem ho) (ht _ (List.getElem_mem ho))
      have h2 := qpls_len (List.getElem_mem ho)
      omega
    · rw [qFx_ne e, qPl, qPl, List.length_cons, List.length_cons]
      have := qpls_map_le (g := qFx m o) ts fun t h => ih t h (ht t h)
      omega
theorem qFx_same : ∀ t, m ∉ qPl t → qFx m o t = t := fun t => by
  induction t using QT.ind with
  | h1 x => intro h; rfl
  | h2 p ts ih =>
    intro h
    rw [qPl] at h
    rw [qFx_ne (fun e => h (by rw [e]; exact List.mem_cons_self))]
    congr 1
    refine (List.map_congr_left fun t ht => ih t ht fun q => h (List.mem_cons_of_mem _ (qpls_mem.mpr ⟨t, ht, q⟩))).trans (List.map_id' _)
theorem qFx_dep : ∀ t, QOk ws oc t → o < wd ws m → qDep (qFx m o t) ≤ qDep t := fun t => by
  induction t using QT.ind with
  | h1 x => intro h _; exact Nat.le_refl _
  | h2 p ts ih =>
    intro h hm
    obtain ⟨hp, hl, ht⟩ := h
    rw [qoks_iff] at ht
    by_cases e : p = m
    · subst e
      have ho : o < ts.length := by omega
      rw [qFx_at (List.getElem?_eq_getElem ho), qDep]
      have h1 := ih _ (List.getElem_mem ho) (ht _ (List.getElem_mem ho)) hm
      have h2 := qdeps_le (List.getElem_mem ho)
      omega
    · rw [qFx_ne e, qDep, qDep]
      have : ∀ us : List QT, (∀ t ∈ us, qDep (qFx m o t) ≤ qDep t) → qDep.qDeps (us.map (qFx m o)) ≤ qDep.qDeps us := fun us => by
        induction us with
        | nil => intro _; exact Nat.le_refl _
        | cons u us ih2 =>
          intro h
          rw [List.map_cons, qDep.qDeps, qDep.qDeps]
          have h1 := h u List.mem_cons_self
          have h2 := ih2 fun t ht => h t (List.mem_cons_of_mem _ ht)
          omega
      have := this ts fun t h => ih t h (ht t h) hm
      omega
end
section
variable {ws : List Int} {oc m o : Nat}
mutual
def IsS (ws : List Int) (oc : Nat) : Nat → QT → Prop
  | _, .tell o => o < oc
  | lo, .look p ts => lo ≤ p ∧ p < 100 ∧ ts.length = wd ws p ∧ (¬ ∀ q ∈ ts, q = ts.headD (.tell 0)) ∧ IsSs ws oc (p + 1) ts
def IsSs (ws : List Int) (oc : Nat) : Nat → List QT → Prop
  | _, [] => True
  | lo, t :: ts => IsS ws oc lo t ∧ IsSs ws oc lo ts
end
theorem iss_iff {lo : Nat} : ∀ {ts : List QT}, IsSs ws oc lo ts ↔ ∀ t ∈ ts, IsS ws oc lo t
  | [] => by simp [IsSs]
  | t :: ts => by rw [IsSs, iss_iff (ts := ts)]; simp
theorem IsS.mono {lo lo' : Nat} (h : lo' ≤ lo) : ∀ {t : QT}, IsS ws oc lo t → IsS ws oc lo' t
  | .tell o, q => by rw [IsS] at q ⊢; exact q
  | .look p ts, q => by rw [IsS] at q ⊢; exact ⟨by omega, q.2⟩
theorem IsS.ok : ∀ (t : QT) {lo : Nat}, IsS ws oc lo t → QOk ws oc t := fun t => by
  induction t using QT.ind with
  | h1 x => intro lo h; rw [IsS] at h; exact h
  | h2 p ts ih =>
    intro lo h
    rw [IsS] at h
    obtain ⟨_, h1, h2, _, h3⟩ := h
    exact ⟨h1, h2, qoks_iff.mpr fun t ht => ih t ht (iss_iff.mp h3 t ht)⟩
theorem IsS.pl : ∀ (t : QT) {lo : Nat}, IsS ws oc lo t → ∀ q ∈ qPl t, lo ≤ q := fun t => by
  induction t using QT.ind with
  | h1 x => intro lo h q hq; simp [qPl] at hq
  | h2 p ts ih =>
    intro lo h q hq
    rw [IsS] at h
    obtain ⟨h0, h1, h2, _, h3⟩ := h
    rw [qPl] at hq
    rcases List.mem_cons.mp hq with e | e
    · subst e; exact h0
    · obtain ⟨t, ht, hq2⟩ := qpls_mem.mp e
      have := ih t ht (iss_iff.mp h3 t ht) q hq2
      omega
/-- the product of the widths of places -/
def wpr (ws : List Int) : List Nat → Nat
  | [] => 1
  | p :: ps => wd ws p * wpr ws ps
theorem wpr_pos (hw : WsOk ws) : ∀ ps, 1 ≤ wpr ws ps
  | [] => Nat.le_refl _
  | p :: ps => by rw [wpr]; exact Nat.mul_le_mul (hw.wd1 p).1 (wpr_pos hw ps)
theorem wpr_split (hw : WsOk ws) {p : Nat} : ∀ {ps : List Nat}, ps.Pairwise (· < ·) → p ∈ ps → ∃ b : List Nat, b.Pairwise (· < ·) ∧ (∀ q ∈ ps, p < q → q ∈ b) ∧ wd ws p * wpr ws b ≤ wpr ws ps ∧ b.length + 1 ≤ ps.length
  | x :: ps, hs, hp => by
    rw [List.pairwise_cons] at hs
    rcases List.mem_cons.mp hp with e | e
    · subst e
      refine ⟨ps, hs.2, fun q hq hl => ?_, by rw [wpr]; exact Nat.le_refl _, by rw [List.length_cons]; omega⟩
      rcases List.mem_cons.mp hq with e2 | e2
      · omega
      · exact e2
    · obtain ⟨b, h1, h2, h3, h4⟩ := wpr_split hw hs.2 e
      refine ⟨b, h1, fun q hq hl => ?_, ?_, by rw [List.length_cons]; omega⟩
      · rcases List.mem_cons.mp hq with e2 | e2
        · have := hs.1 p e; omega
        · exact h2 q e2 hl
      · rw [wpr]
        have := (hw.wd1 x).1
        exact Nat.le_trans h3 (Nat.le_mul_of_pos_left _ (by omega))
theorem qpls_bound {k : Nat} : ∀ ts : List QT, (∀ t ∈ ts, (qPl t).length + 1 ≤ k) → (qPl.qPls ts).length + ts.length ≤ ts.length * k
  | [], _ => by simp [qPl.qPls]
  | t :: ts, h => by
    rw [qPl.qPls, List.length_append, List.length_cons, Nat.add_mul, Nat.one_mul]
    have h1 := h t List.mem_cons_self
    have h2 := qpls_bound ts fun s hs => h s (List.mem_cons_of_mem _ hs)
    omega
theorem qdeps_bound {k : Nat} : ∀ ts : List QT, (∀ t ∈ ts, qDep t ≤ k) → qDep.qDeps ts ≤ k
  | [], _ => by rw [qDep.qDeps]; omega
  | t :: ts, h => by
    rw [qDep.qDeps]
    have h1 := h t List.mem_cons_self
    have h2 := qdeps_bound ts fun s hs => h s (List.mem_cons_of_mem _ hs)
    omega
end
theorem qpls_take : ∀ (ts : List QT) (k : Nat), (qPl.qPls (ts.take k)).length ≤ (qPl.qPls ts).length
  | [], k => by rw [List.take_nil]; exact Nat.le_refl _
  | t :: ts, 0 => by rw [List.take_zero]; exact Nat.zero_le _
  | t :: ts, k + 1 => by
    rw [List.take_succ_cons, qPl.qPls, qPl.qPls, List.length_append, List.length_append]
    have := qpls_take ts k
    omega
def nI (l : List Nat) : List D := l.map fun (n : Nat) => D.int (n : Int)
theorem nI_len (l : List Nat) : (nI l).length = l.length := by unfold nI; rw [List.length_map]
theorem nI_get {l : List Nat} {i : Nat} {d : D} (h : (nI l)[i]? = some d) : ∃ hi : i < l.length, d = .int ((l[i] : Nat) : Int) := by
  unfold nI at h
  rw [List.getElem?_map] at h
  have hi : i < l.length := by
    refine Classical.byContradiction fun z => ?_
    rw [List.getElem?_eq_none (by omega)] at h
    cases h
  rw [List.getElem?_eq_getElem hi] at h
  cases h
  exact ⟨hi, rfl⟩
theorem nI_ints (l : List Nat) : nI l = (l.map fun (n : Nat) => (n : Int)).map D.int := by unfold nI; rw [List.map_map]; rfl
theorem nI_range (l : List Nat) : ((List.range (nI l).length).map fun j => D.int ((l.getD j 0 : Nat) : Int)) = nI l := by
  refine List.ext_getElem (by rw [List.length_map, List.length_range]) fun i h1 h2 => ?_
  have hi : i < l.length := by rw [nI_len] at h2; exact h2
  have e : (nI l)[i]? = some (D.int ((l[i] : Nat) : Int)) := by unfold nI; rw [List.getElem?_map, List.getElem?_eq_getElem hi]; rfl
  rw [List.getElem_map, List.getElem_range, List.getD_eq_getElem?_getD, List.getElem?_eq_getElem hi]
  rw [List.getElem?_eq_getElem h2] at e
  exact (Option.some.inj e).symm
theorem nI_flat (ts : List QT) : ∀ k, k ≤ ts.length → ((List.range k).flatMap fun i => (List.range (nI (qPl (ts.getD i (.tell 0)))).length).map fun j => D.int (((qPl (ts.getD i (.tell 0))).getD j 0 : Nat) : Int)) = nI (qPl.qPls (ts.take k))
  | 0, _ => by rw [List.range_zero, List.take_zero]; rfl
  | k + 1, h => by
    rw [List.range_succ, List.flatMap_append, nI_flat ts k (by omega), List.take_succ, List.getElem?_eq_getElem (by omega), List.flatMap_cons, List.flatMap_nil, nI_range, qpls_flat, qpls_flat]
    unfold nI
    rw [Option.toList_some, List.flatMap_append, List.flatMap_cons, List.flatMap_nil, List.append_nil, List.append_nil, List.map_append, List.getD_eq_getElem?_getD, List.getElem?_eq_getElem (show k < ts.length by omega)]
    rfl
theorem qDs_at {ts : List QT} {i : Nat} (h : i < ts.length) : (qDs ts).getD i .non = qD ts[i] := by rw [qDs_map, List.getD_eq_getElem?_getD, List.getElem?_map, List.getElem?_eq_getElem h]; rfl
theorem qDs_get {ts : List QT} {i : Nat} {d : D} (h : (qDs ts)[i]? = some d) : ∃ hi : i < ts.length, d = qD ts[i] := by
  rw [qDs_map, List.getElem?_map] at h
  have hi : i < ts.length := by
    refine Classical.byContradiction fun z => ?_
    rw [List.getElem?_eq_none (by omega)] at h
    cases h
  rw [List.getElem?_eq_getElem hi] at h
  cases h
  exact ⟨hi, rfl⟩
section
variable {ws : List Int}
theorem wpr_mono (hw : WsOk ws) : ∀ {ns ps : List Nat}, ns.Pairwise (· < ·) → ps.Pairwise (· < ·) → (∀ q ∈ ns, q ∈ ps) → wpr ws ns ≤ wpr ws ps ∧ ns.length ≤ ps.length
  | [], ps, _, _, _ => ⟨wpr_pos hw ps, Nat.zero_le _⟩
  | n :: ns, ps, h1, h2, h3 => by
    rw [List.pairwise_cons] at h1
    obtain ⟨b, b1, b2, b3, b4⟩ := wpr_split hw h2 (h3 n List.mem_cons_self)
    obtain ⟨c1, c2⟩ := wpr_mono hw h1.2 b1 fun q hq => b2 q (h3 q (List.mem_cons_of_mem _ hq)) (h1.1 q hq)
    rw [wpr, List.length_cons]
    exact ⟨Nat.le_trans (Nat.mul_le_mul_left _ c1) b3, by omega⟩
theorem fold_wpr : ∀ (l : List Nat) (a : Int), (l.map fun (p : Nat) => (wd ws p : Int)).foldl (· * ·) a = a * (wpr ws l : Int)
  | [], a => by rw [wpr]; simp
  | p :: l, a => by
    rw [List.map_cons, List.foldl_cons, fold_wpr l, wpr, Int.natCast_mul, Int.mul_assoc]
theorem prod_wpr (l : List Nat) : prodI (l.map fun (p : Nat) => (wd ws p : Int)) = (wpr ws l : Int) := by
  unfold prodI
  rw [fold_wpr, Int.one_mul]
/-- what of a query keeps it within the limits -/
structure QFit (ws : List Int) (oc : Nat) (ps : List Nat) (t : QT) : Prop where
  w : WsOk ws
  o1 : 1 ≤ oc
  o4 : oc ≤ 4
  ok : QOk ws oc t
  sorted : ps.Pairwise (· < ·)
  most : ps.length ≤ 8
  few : wpr ws ps ≤ 256
  pl : ∀ q ∈ qPl t, q ∈ ps
  looks : (qPl t).length ≤ 300
  dep : qDep t ≤ 20
end
def qO (C : Addr) (t : QT) (ws : List Int) (oc : Nat) : D := .obj C NS_Query [qD t, .tup (ws.map .int), .int (oc : Int)]
/-- the row has options of all places -/
def RFit (ws : List Int) (r : Rw) : Prop := ∀ p, ent r p < (wd ws p : Int)
/-- the options of a row -/
def rF (r : Rw) (p : Nat) : Nat := (ent r p).toNat
theorem rangeQ {α : Type} (f : QT → α) (ts : List QT) : (List.range ts.length).map (fun i => f (ts.getD i (.tell 0))) = ts.map f := by
  refine List.ext_getElem (by rw [List.length_map, List.length_range, List.length_map]) fun i h1 h2 => ?_
  have hi : i < ts.length := by rw [List.length_map] at h2; exact h2
  rw [List.getElem_map, List.getElem_range, List.getElem_map, List.getD_eq_getElem?_getD, List.getElem?_eq_getElem hi]
  rfl
end LW
set_option Elab.async false
set_option linter.all false
set_option maxRecDepth 100000
namespace LW
open PySem PySem.Spec L2 DW
/-- too many looks inside of one another: the path of the first look too many -/
def qTD : QT → Nat → Option (List Nat)
  | .tell _ => fun _ => none
  | .look _ ts => fun n => match n with
    | 0 => some []
    | n + 1 => qTDs ts n 2
where qTDs : List QT → Nat → Nat → Option (List Nat)
  | [] => fun _ _ => none
  | t :: ts => fun n i => match qTD t n with
    | some p => some (i :: p)
    | none => qTDs ts n (i + 1)
theorem qTD_tell (o n : Nat) : qTD (.tell o) n = none := by rw [qTD]
theorem qTD_zero (p : Nat) (ts : List QT) : qTD (.look p ts) 0 = some [] := by rw [qTD]
theorem qTD_succ (p : Nat) (ts : List QT) (n : Nat) : qTD (.look p ts) (n + 1) = qTD.qTDs ts n 2 := by rw [qTD]
theorem qTDs_nil (n i : Nat) : qTD.qTDs [] n i = none := by rw [qTD.qTDs]
theorem qTDs_cons (t : QT) (ts : List QT) (n i : Nat) : qTD.qTDs (t :: ts) n i = match qTD t n with | some p => some (i :: p) | none => qTD.qTDs ts n (i + 1) := by rw [qTD.qTDs]
theorem qTDs_at : ∀ (ts : List QT) (n k i : Nat) (hi : i < ts.length), (∀ j, j < i → ∀ h : j < ts.length, qTD ts[j] n = none) →
    qTD.qTDs ts n k = match qTD ts[i] n with | some p => some ((k + i) :: p) | none => qTD.qTDs (ts.drop (i + 1)) n (k + i + 1)
  | t :: ts, n, k, 0, _, _ => by rw [qTDs_cons]; rfl
  | t :: ts, n, k, i + 1, hi, h => by
    have h0 : qTD t n = none := h 0 (by omega) (by simp)
    rw [qTDs_cons, h0]
    simp only
    have hi' : i < ts.length := by simpa using hi
    rw [qTDs_at ts n (k + 1) i hi' fun j hj hjl => by have := h (j + 1) (by omega) (by simpa using hjl); simpa using this]
    rw [List.getElem_cons_succ, List.drop_succ_cons, show k + 1 + i = k + (i + 1) by omega]
theorem qTDs_none : ∀ (ts : List QT) (n k : Nat), (∀ t ∈ ts, qTD t n = none) → qTD.qTDs ts n k = none
  | [], n, k, _ => qTDs_nil n k
  | t :: ts, n, k, h => by rw [qTDs_cons, h t List.mem_cons_self]; exact qTDs_none ts n (k + 1) fun s hs => h s (List.mem_cons_of_mem _ hs)
theorem qTDs_inv : ∀ (ts : List QT) (n k : Nat), qTD.qTDs ts n k = none → ∀ t ∈ ts, qTD t n = none
  | t :: ts, n, k, h, s, hs => by
    rw [qTDs_cons] at h
    cases e : qTD t n with
    | some p => rw [e] at h; cases h
    | none =>
      rw [e] at h
      rcases List.mem_cons.mp hs with z | z
      · rw [z]; exact e
      · exact qTDs_inv ts n (k + 1) h s z
theorem qTD_dep : ∀ (t : QT) (n : Nat), qTD t n = none ↔ qDep t ≤ n := fun t => by
  induction t using QT.ind with
  | h1 o => intro n; rw [qTD_tell, qDep]; simp
  | h2 p ts ih =>
    intro n
    rw [qDep]
    cases n with
    | zero => rw [qTD_zero]; simp
    | succ n =>
      rw [qTD_succ]
      refine ⟨fun h => ?_, fun h => qTDs_none ts n 2 fun t ht => (ih t ht n).mpr ?_⟩
      · have := qdeps_bound (k := n) ts fun t ht => (ih t ht n).mp (qTDs_inv ts n 2 h t ht)
        omega
      · have := qdeps_le ht; omega
theorem qTD_len : ∀ (t : QT) (n : Nat) (p : List Nat), qTD t n = some p → p.length ≤ n := fun t => by
  induction t using QT.ind with
  | h1 o => intro n p h; rw [qTD_tell] at h; cases h
  | h2 q ts ih =>
    intro n p h
    cases n with
    | zero => rw [qTD_zero] at h; cases h; exact Nat.le_refl _
    | succ n =>
      rw [qTD_succ] at h
      have : ∀ (us : List QT) (k : Nat), (∀ u ∈ us, u ∈ ts) → qTD.qTDs us n k = some p → p.length ≤ n + 1 := fun us => by
        induction us with
        | nil => intro k _ h; rw [qTDs_nil] at h; cases h
        | cons u us ih2 =>
          intro k hu h
          rw [qTDs_cons] at h
          cases e : qTD u n with
          | some r =>
            rw [e] at h
            cases h
            have := ih u (hu u List.mem_cons_self) n r e
            rw [List.length_cons]; omega
          | none => rw [e] at h; exact ih2 (k + 1) (fun v hv => hu v (List.mem_cons_of_mem _ hv)) h
      exact this ts 2 (fun _ q => q) h
theorem qTD_idx (ws : List Int) (hw : WsOk ws) (oc : Nat) : ∀ (t : QT) (n : Nat) (p : List Nat), QOk ws oc t → qTD t n = some p → ∀ i ∈ p, i ≤ 6 := fun t => by
  induction t using QT.ind with
  | h1 o => intro n p _ h; rw [qTD_tell] at h; cases h
  | h2 q ts ih =>
    intro n p ok h
    obtain ⟨_, hl, hts⟩ := ok
    rw [qoks_iff] at hts
    have hw1 := hw.wd1 q
    cases n with
    | zero => rw [qTD_zero] at h; cases h; intro i hi; cases hi
    | succ n =>
      rw [qTD_succ] at h
      have : ∀ (us : List QT) (k : Nat), (∀ u ∈ us, u ∈ ts) → k + us.length ≤ 6 → qTD.qTDs us n k = some p → ∀ i ∈ p, i ≤ 6 := fun us => by
        induction us with
        | nil => intro k _ _ h; rw [qTDs_nil] at h; cases h
        | cons u us ih2 =>
          intro k hu hk h
          rw [List.length_cons] at hk
          rw [qTDs_cons] at h
          cases e : qTD u n with
          | some r =>
            rw [e] at h
            cases h
            intro i hi
            rcases List.mem_cons.mp hi with z | z
            · omega
            · exact ih u (hu u List.mem_cons_self) n r (hts u (hu u List.mem_cons_self)) e i z
          | none => rw [e] at h; exact ih2 (k + 1) (fun v hv => hu v (List.mem_cons_of_mem _ hv)) (by omega) h
      exact this ts 2 (fun _ q => q) (by omega) h
/-- terms in the places of tells -/
def qSub (ss : List QT) : QT → QT
  | .tell o => ss.getD o (.tell 0)
  | .look p ts => .look p (qSubs ss ts)
where qSubs (ss : List QT) : List QT → List QT
  | [] => []
  | t :: ts => qSub ss t :: qSubs ss ts
theorem qsubs_map {ss : List QT} : ∀ ts : List QT, qSub.qSubs ss ts = ts.map (qSub ss)
  | [] => rfl
  | t :: ts => by rw [qSub.qSubs, qsubs_map ts]; rfl
theorem qSub_look (ss : List QT) (p : Nat) (ts : List QT) : qSub ss (.look p ts) = .look p (ts.map (qSub ss)) := by rw [qSub, qsubs_map]
theorem qSub_tell {ss : List QT} {o : Nat} (h : o < ss.length) : qSub ss (.tell o) = ss[o] := by rw [qSub, List.getD_eq_getElem?_getD, List.getElem?_eq_getElem h]; rfl
/-- how many tells -/
def qTs : QT → Nat
  | .tell _ => 1
  | .look _ ts => qTss ts
where qTss : List QT → Nat
  | [] => 0
  | t :: ts => qTs t + qTss ts
section
variable {ws : List Int} {oc od : Nat}
theorem qTs_le (hw : WsOk ws) : ∀ t, QOk ws oc t → qTs t ≤ 1 + 3 * (qPl t).length := fun t => by
  induction t using QT.ind with
  | h1 o => intro _; rw [qTs]; omega
  | h2 p ts ih =>
    intro h
    obtain ⟨_, hl, hts⟩ := h
    rw [qoks_iff] at hts
    have hw1 := hw.wd1 p
    rw [qTs, qPl, List.length_cons]
    have : ∀ us : List QT, (∀ u ∈ us, u ∈ ts) → qTs.qTss us ≤ us.length + 3 * (qPl.qPls us).length := fun us => by
      induction us with
      | nil => intro _; rw [qTs.qTss]; omega
      | cons u us ih2 =>
        intro hu
        rw [qTs.qTss, qPl.qPls, List.length_append, List.length_cons]
        have h1 := ih u (hu u List.mem_cons_self) (hts u (hu u List.mem_cons_self))
        have h2 := ih2 fun v hv => hu v (List.mem_cons_of_mem _ hv)
        omega
    have := this ts fun _ q => q
    omega
theorem qSub_ok {ss : List QT} (hs : ∀ s ∈ ss, QOk ws od s) (hl : oc ≤ ss.length) : ∀ t, QOk ws oc t → QOk ws od (qSub ss t) := fun t => by
  induction t using QT.ind with
  | h1 o =>
    intro h
    have h : o < oc := h
    rw [qSub_tell (by omega)]
    exact hs _ (List.getElem_mem _)
  | h2 p ts ih =>
    intro h
    obtain ⟨hp, hl, hts⟩ := h
    rw [qoks_iff] at hts
    rw [qSub_look]
    refine ⟨hp, by rw [List.length_map]; exact hl, qoks_iff.mpr fun t ht => ?_⟩
    obtain ⟨s, hs2, rfl⟩ := List.mem_map.mp ht
    exact ih s hs2 (hts s hs2)
theorem qSub_ans {ss : List QT} {f : Nat → Nat} (hf : ∀ p, f p < wd ws p) (hl : oc ≤ ss.length) : ∀ t, QOk ws oc t → qA f (qSub ss t) = qA f (ss.getD (qA f t) (.tell 0)) := fun t => by
  induction t using QT.ind with
  | h1 o => intro h; rw [qSub, qA]
  | h2 p ts ih =>
    intro h
    obtain ⟨hp, hl, hts⟩ := h
    rw [qoks_iff] at hts
    have hlt : f p < ts.length := by have := hf p; omega
    rw [qSub_look, qA_look (t := qSub ss ts[f p]) (by rw [List.getElem?_map, List.getElem?_eq_getElem hlt]; rfl), ih _ (List.getElem_mem hlt) (hts _ (List.getElem_mem hlt)), qA_look (List.getElem?_eq_getElem hlt)]
theorem qSub_len {ss : List QT} {m : Nat} (hs : ∀ s ∈ ss, (qPl s).length ≤ m) : ∀ t, (qPl (qSub ss t)).length ≤ (qPl t).length + qTs t * m := fun t => by
  induction t using QT.ind with
  | h1 o =>
    rw [qSub, qTs, List.getD_eq_getElem?_getD]
    by_cases h : o < ss.length
    · rw [List.getElem?_eq_getElem h]
      have := hs _ (List.getElem_mem h)
      simp only [Option.getD_some]
      omega
    · rw [List.getElem?_eq_none (by omega)]
      simp [qPl]
  | h2 p ts ih =>
    rw [qSub_look, qPl, qPl, qTs, List.length_cons, List.length_cons]
    have : ∀ us : List QT, (∀ u ∈ us, u ∈ ts) → (qPl.qPls (us.map (qSub ss))).length ≤ (qPl.qPls us).length + qTs.qTss us * m := fun us => by
      induction us with
      | nil => intro _; simp [qPl.qPls]
      | cons u us ih2 =>
        intro hu
        rw [List.map_cons, qPl.qPls, qPl.qPls, qTs.qTss, List.length_append, List.length_append, Nat.add_mul]
        have h1 := ih u (hu u List.mem_cons_self)
        have h2 := ih2 fun v hv => hu v (List.mem_cons_of_mem _ hv)
        omega
    have := this ts fun _ q => q
    omega
theorem qSub_dep {ss : List QT} {m : Nat} (hs : ∀ s ∈ ss, qDep s ≤ m) : ∀ t, qDep (qSub ss t) ≤ qDep t + m := fun t => by
  induction t using QT.ind with
  | h1 o =>
    rw [qSub, List.getD_eq_getElem?_getD]
    by_cases h : o < ss.length
    · rw [List.getElem?_eq_getElem h]
      have := hs _ (List.getElem_mem h)
      simp only [Option.getD_some]
      omega
    · rw [List.getElem?_eq_none (by omega)]
      simp [qDep]
  | h2 p ts ih =>
    rw [qSub_look, qDep, qDep]
    have := qdeps_bound (k := qDep.qDeps ts + m) (ts.map (qSub ss)) fun t ht => by
      obtain ⟨s, hs2, rfl⟩ := List.mem_map.mp ht
      have h1 := ih s hs2
      have h2 := qdeps_le hs2
      omega
    omega
end
/-- the places less by one -/
def qLow : QT → QT
  | .tell o => .tell o
  | .look p ts => .look (p - 1) (qLows ts)
where qLows : List QT → List QT
  | [] => []
  | t :: ts => qLow t :: qLows ts
theorem qlows_map : ∀ ts : List QT, qLow.qLows ts = ts.map qLow
  | [] => rfl
  | t :: ts => by rw [qLow.qLows, qlows_map ts]; rfl
theorem qLow_look (p : Nat) (ts : List QT) : qLow (.look p ts) = .look (p - 1) (ts.map qLow) := by rw [qLow, qlows_map]
/-- widths turned by one -/
def rotW (ws : List Int) : List Int := ws.drop 1 ++ ws.take 1
theorem rotW_len (ws : List Int) : (rotW ws).length = ws.length := by unfold rotW; rw [List.length_append, List.length_drop, List.length_take]; omega
theorem rotW_ok {ws : List Int} (h : WsOk ws) : WsOk (rotW ws) := ⟨by rw [rotW_len]; exact h.l0, by rw [rotW_len]; exact h.l1, fun x hx => by
  unfold rotW at hx
  rcases List.mem_append.mp hx with q | q
  · exact h.w x (List.mem_of_mem_drop q)
  · exact h.w x (List.mem_of_mem_take q)⟩
theorem wd_rot {ws : List Int} (h : WsOk ws) (p : Nat) : wd (rotW ws) p = wd ws (p + 1) := by
  have h0 := h.l0
  unfold wd
  rw [rotW_len]
  have hp : p % ws.length < ws.length := Nat.mod_lt _ (by omega)
  congr 1
  rw [List.getD_eq_getElem?_getD, List.getD_eq_getElem?_getD]
  congr 1
  unfold rotW
  by_cases z : p % ws.length + 1 < ws.length
  · rw [List.getElem?_append_left (by rw [List.length_drop]; omega), List.getElem?_drop]
    congr 1
    rw [Nat.add_mod, Nat.mod_eq_of_lt (a := 1) (by omega), Nat.mod_eq_of_lt z]; omega
  · have e : p % ws.length + 1 = ws.length := by omega
    rw [List.getElem?_append_right (by rw [List.length_drop]; omega), List.length_drop, show p % ws.length - (ws.length - 1) = 0 by omega]
    have e2 : (p + 1) % ws.length = 0 := by
      by_cases h1 : ws.length = 1
      · rw [h1, Nat.mod_one]
      · rw [Nat.add_mod, Nat.mod_eq_of_lt (a := 1) (by omega), e, Nat.mod_self]
    rw [e2, List.getElem?_take]
    simp
section
variable {ws : List Int} {oc : Nat}
theorem qLow_ok (hw : WsOk ws) : ∀ t, QOk ws oc t → 0 ∉ qPl t → QOk (rotW ws) oc (qLow t) := fun t => by
  induction t using QT.ind with
  | h1 o => intro h _; exact h
  | h2 p ts ih =>
    intro h h0
    obtain ⟨hp, hl, hts⟩ := h
    rw [qoks_iff] at hts
    rw [qPl] at h0
    have hp0 : p ≠ 0 := fun z => h0 (by rw [z]; exact List.mem_cons_self)
    rw [qLow_look]
    refine ⟨by omega, by rw [List.length_map, wd_rot hw, show p - 1 + 1 = p by omega]; exact hl, qoks_iff.mpr fun t ht => ?_⟩
    obtain ⟨s, hs2, rfl⟩ := List.mem_map.mp ht
    exact ih s hs2 (hts s hs2) fun q => h0 (List.mem_cons_of_mem _ (qpls_mem.mpr ⟨s, hs2, q⟩))
theorem qLow_ans {f : Nat → Nat} (hf : ∀ p, f p < wd ws p) : ∀ t, QOk ws oc t → 0 ∉ qPl t → qA (fun p => f (p + 1)) (qLow t) = qA f t := fun t => by
  induction t using QT.ind with
  | h1 o => intro h _; rfl
  | h2 p ts ih =>
    intro h h0
    obtain ⟨hp, hl, hts⟩ := h
    rw [qoks_iff] at hts
    rw [qPl] at h0
    have hp0 : p ≠ 0 := fun z => h0 (by rw [z]; exact List.mem_cons_self)
    have hlt : f p < ts.length := by have := hf p; omega
    have e : f (p - 1 + 1) = f p := by rw [show p - 1 + 1 = p by omega]
    rw [qLow_look, qA_look (t := qLow ts[f p]) (by show (ts.map qLow)[f (p - 1 + 1)]? = _; rw [e, List.getElem?_map, List.getElem?_eq_getElem hlt]; rfl),
      ih _ (List.getElem_mem hlt) (hts _ (List.getElem_mem hlt)) fun q => h0 (List.mem_cons_of_mem _ (qpls_mem.mpr ⟨_, List.getElem_mem hlt, q⟩)), qA_look (List.getElem?_eq_getElem hlt)]
theorem qLow_dep : ∀ t, qDep (qLow t) = qDep t := fun t => by
  induction t using QT.ind with
  | h1 o => rfl
  | h2 p ts ih =>
    rw [qLow_look, qDep, qDep]
    congr 1
    have : ∀ us : List QT, (∀ u ∈ us, u ∈ ts) → qDep.qDeps (us.map qLow) = qDep.qDeps us := fun us => by
      induction us with
      | nil => intro _; rfl
      | cons u us ih2 =>
        intro hu
        rw [List.map_cons, qDep.qDeps, qDep.qDeps, ih u (hu u List.mem_cons_self), ih2 fun v hv => hu v (List.mem_cons_of_mem _ hv)]
    exact this ts fun _ q => q
theorem qLow_pl : ∀ t, qPl (qLow t) = (qPl t).map (· - 1) := fun t => by
  induction t using QT.ind with
  | h1 o => rfl
  | h2 p ts ih =>
    rw [qLow_look, qPl, qPl, List.map_cons]
    congr 1
    have : ∀ us : List QT, (∀ u ∈ us, u ∈ ts) → qPl.qPls (us.map qLow) = (qPl.qPls us).map (· - 1) := fun us => by
      induction us with
      | nil => intro _; rfl
      | cons u us ih2 =>
        intro hu
        rw [List.map_cons, qPl.qPls, qPl.qPls, List.map_append, ih u (hu u List.mem_cons_self), ih2 fun v hv => hu v (List.mem_cons_of_mem _ hv)]
    exact this ts fun _ q => q
theorem QOk.pl : ∀ t, QOk ws oc t → ∀ q ∈ qPl t, q < 100 := fun t => by
  induction t using QT.ind with
  | h1 o => intro _ q hq; simp [qPl] at hq
  | h2 p ts ih =>
    intro h q hq
    obtain ⟨hp, hl, hts⟩ := h
    rw [qoks_iff] at hts
    rw [qPl] at hq
    rcases List.mem_cons.mp hq with e | e
    · omega
    · obtain ⟨s, hs, hq2⟩ := qpls_mem.mp e
      exact ih s hs (hts s hs) q hq2
end
/-- the places, each once and ascending -/
def qMs (l : List Nat) : List Nat := (List.range 100).filter fun p => decide (p ∈ l)
theorem qMs_sorted (l : List Nat) : (qMs l).Pairwise (· < ·) := List.Pairwise.filter _ List.pairwise_lt_range
theorem qMs_mem {l : List Nat} (h : ∀ q ∈ l, q < 100) (q : Nat) : q ∈ qMs l ↔ q ∈ l := by
  unfold qMs
  rw [List.mem_filter, List.mem_range, decide_eq_true_eq]
  exact ⟨fun z => z.2, fun z => ⟨h q z, z⟩⟩
/-- what making a query of a term comes to -/
inductive QR where
  | made
  | deep (p : List Nat)
  | large
def qMk (ws : List Int) (t : QT) : QR := match qTD t 20 with
  | some p => .deep p
  | none => if (qPl t).length ≤ 300 ∧ wpr ws (qMs (qPl t)) ≤ 256 then .made else .large
theorem QFit.mk_ {ws : List Int} {oc : Nat} {ps : List Nat} {t : QT} (h : QFit ws oc ps t) : qMk ws t = .made := by
  unfold qMk
  rw [(qTD_dep t 20).mpr h.dep]
  have h1 := (wpr_mono h.w (qMs_sorted (qPl t)) h.sorted fun q hq => h.pl q ((qMs_mem (QOk.pl t h.ok) q).mp hq)).1
  have h2 := h.few
  exact if_pos ⟨h.looks, by omega⟩
/-- the product of widths, in the order of a list -/
def wpl (ws : List Int) (ps : List Nat) : Nat := ps.foldl (fun a p => a * wd ws p) 1
theorem wpl_snoc (ws : List Int) (ps : List Nat) (p : Nat) : wpl ws (ps ++ [p]) = wpl ws ps * wd ws p := by
  unfold wpl
  rw [List.foldl_append, List.foldl_cons, List.foldl_nil]
theorem wpl_wpr0 (ws : List Int) : ∀ (ps : List Nat) (a : Nat), ps.foldl (fun a p => a * wd ws p) a = a * wpr ws ps
  | [], a => by rw [wpr, Nat.mul_one]; rfl
  | p :: ps, a => by rw [List.foldl_cons, wpl_wpr0 ws ps, wpr, Nat.mul_assoc]
theorem wpl_wpr (ws : List Int) (ps : List Nat) : wpl ws ps = wpr ws ps := by unfold wpl; rw [wpl_wpr0, Nat.one_mul]
theorem wpr_perm {ws : List Int} {a b : List Nat} (h : a.Perm b) : wpr ws a = wpr ws b := by
  induction h with
  | nil => rfl
  | cons x _ ih => rw [wpr, wpr, ih]
  | swap x y l => rw [wpr, wpr, wpr, wpr, Nat.mul_left_comm]
  | trans _ _ i1 i2 => rw [i1, i2]
/-- what of a query lets it be asked -/
structure QRun (ws : List Int) (oc : Nat) (ps : List Nat) (t : QT) : Prop where
  w : WsOk ws
  ok : QOk ws oc t
  dep : qDep t ≤ 20
theorem nodup_sub_len : ∀ (a b : List Nat), a.Nodup → (∀ x ∈ a, x ∈ b) → a.length ≤ b.length
  | [], b, _, _ => Nat.zero_le _
  | x :: a, b, nd, h => by
    rw [List.nodup_cons] at nd
    have hx := h x List.mem_cons_self
    have := nodup_sub_len a (b.erase x) nd.2 fun y hy => (List.mem_erase_of_ne (fun e : y = x => nd.1 (by rw [← e]; exact hy))).mpr (h y (List.mem_cons_of_mem _ hy))
    have h2 := List.length_erase_of_mem hx
    have h3 : 0 < b.length := List.length_pos_of_mem hx
    rw [List.length_cons]
    omega
theorem qMs_sub {l b : List Nat} (h : ∀ q ∈ l, q < 100) (hs : ∀ q ∈ l, q ∈ b) : (qMs l).length ≤ b.length :=
  nodup_sub_len _ _ ((qMs_sorted l).imp fun {a b} q => by omega) fun q hq => hs q ((qMs_mem h q).mp hq)
theorem qSub_pl {ss : List QT} : ∀ t q, q ∈ qPl (qSub ss t) → q ∈ qPl t ∨ ∃ s ∈ ss, q ∈ qPl s := fun t => by
  induction t using QT.ind with
  | h1 o =>
    intro q hq
    rw [qSub, List.getD_eq_getElem?_getD] at hq
    by_cases h : o < ss.length
    · rw [List.getElem?_eq_getElem h] at hq
      exact .inr ⟨_, List.getElem_mem h, hq⟩
    · rw [List.getElem?_eq_none (by omega)] at hq
      simp [qPl] at hq
  | h2 p ts ih =>
    intro q hq
    rw [qSub_look, qPl] at hq
    rw [qPl]
    rcases List.mem_cons.mp hq with e | e
    · exact .inl (by rw [e]; exact List.mem_cons_self)
    · obtain ⟨u, hu, hq2⟩ := qpls_mem.mp e
      obtain ⟨v, hv, rfl⟩ := List.mem_map.mp hu
      rcases ih v hv q hq2 with z | z
      · exact .inl (List.mem_cons_of_mem _ (qpls_mem.mpr ⟨v, hv, z⟩))
      · exact .inr z
end LW
set_option Elab.async false
set_option linter.all false
set_option maxRecDepth 100000
set_option maxHeartbeats 4000000
namespace DW
open PySem PySem.Spec PyProof.Rows L2
section layer
variable {X : Cx} {CX : CXT} {k : Nat} {f C : Addr} {fd : FuncData} {ps : List Str} {sp : Sp} {E : L2.St → XK} {x m : Str} {p pos apos : Pos} {e o : Expr} {es : List Expr} {ta : TE} {t : TA} {dvs : List V} {dus : List Value}
theorem pe_methX0 {pl : Sem Bool} (he : PE X o ta) (c : Cls X.K C) (hm : Meth X.K C m f) (F : FnOk X.prog X.w X.K X.mg X.base CX k f fd ps sp) (hr : Room k X.A) (hb : Binds X.K fd ps []) (hx : ∀ σ, PassesAt CX X σ (E σ))
    (ht : eval (.Call (.Attribute o m apos) [] [] pos) X.env = (do
      let ov ← eval o X.env
      standAt apos.atName
      let (f, first) ← holding [ov] (getMethod ov m pl)
      callWith pos f first (backTo pos (starEach [] X.env)) (backToKw pos (keywordEach [] X.env))) := by rfl) :
    PE X (.Call (.Attribute o m apos) [] [] pos) (tMethX C m sp E ta tNil) := by
  refine ⟨fun pins s σ H Q I h => ?_⟩
  refine PySem.W.methodCall_KW (pl := pl) (thn (he.run pins s σ H _ I h) fun u s1 ⟨x, H1, I1, rx, a, dx, fs, ex, ea, l, q⟩ => ?_) ht
  subst ex
  obtain rfl : u = Value.ref a := rx
  refine getmeth_ok I1 ea c hm l ?_
  exact PySem.W.callWith_K0 (first := [.ref a]) I1.kIn hm.kp (run_fnS (us := [.ref a]) (vs := [.ref a]) F hr hb (hx σ) I1 (.cons rfl .nil) q)
end layer
section
variable {K : Fg} {B : Bx K} {ta tb tc : TE} {φ φ' φ'' : DE} {tas : TA} {ψ : DA} {W : WX} {Ψ : XP} {δ : DEnv} {μ : Sto} {Φ : DK}
def dMakeSD (C : Addr) (c : Con) (dds : List D) (ψ : DA) : DE := fun Ψ δ μ Φ => ψ Ψ δ μ fun ds μ1 => ∀ x, μ1 x = none → c (.hd (.ref x) :: (ds ++ dds)) (sset μ1 x (.ins C [] [])) (fun d μ2 => d = .non ∧ ∃ ns es, μ2 x = some (.ins C ns es) ∧ Φ (.obj C ns es) (sdel μ2 x)) (fun y μ2 => Ψ y δ μ2)
theorem u_makeSD {C : Addr} {c : Con} {dds : List D} : dMakeSD C c dds ψ Ψ δ μ Φ = ψ Ψ δ μ fun ds μ1 => ∀ x, μ1 x = none → c (.hd (.ref x) :: (ds ++ dds)) (sset μ1 x (.ins C [] [])) (fun d μ2 => d = .non ∧ ∃ ns es, μ2 x = some (.ins C ns es) ∧ Φ (.obj C ns es) (sdel μ2 x)) (fun y μ2 => Ψ y δ μ2) := rfl
def rngB (hi : Int) (n : Nat) : List D := (List.range n).map fun (i : Nat) => .int (hi - (i : Int))
theorem rngB_len {hi : Int} {n : Nat} : (rngB hi n).length = n := by unfold rngB; rw [List.length_map, List.length_range]
def iR3 (φ φ' φ'' : DE) : DI := fun Ψ δ μ Φ => φ Ψ δ μ fun x μ1 => φ' Ψ δ μ1 fun y μ2 => φ'' Ψ δ μ2 fun z μ3 => ∃ i j, x = .int i ∧ y = .int j ∧ z = .int (-1) ∧ (-4611686018427387904 ≤ i ∧ i < 4611686018427387904 ∧ -4611686018427387904 ≤ j ∧ j < 4611686018427387904) ∧ Φ (rngB i (i - j).toNat) μ3
theorem u_iR3 {Ls : List D → Sto → Prop} : iR3 φ φ' φ'' Ψ δ μ Ls = φ Ψ δ μ fun x μ1 => φ' Ψ δ μ1 fun y μ2 => φ'' Ψ δ μ2 fun z μ3 => ∃ i j, x = .int i ∧ y = .int j ∧ z = .int (-1) ∧ (-4611686018427387904 ≤ i ∧ i < 4611686018427387904 ∧ -4611686018427387904 ≤ j ∧ j < 4611686018427387904) ∧ Ls (rngB i (i - j).toNat) μ3 := rfl
end
/-- THE RULE for a def with defaults -/
theorem def_okD {CX : CXT} {P : Program} {w : World} {K : Fg} {mg : Str → Option Value} {base : Heap} {x qual : Str} {st : Stmt} {f : Addr} {fd : FuncData} {N ps : List Str} {dvs : List V} {kws : List (Str × V)} {k : Nat} {c : Con} (F : FunD K x qual (defArgs st) (defBody st) (defScope st) dvs kws f fd) (Sc : FnScope N ps (defScope st)) (φ : DSt)
    (hl : ∀ ds μ Φ Ψ, c ds μ Φ Ψ → ds.length = ps.length)
    (hb : ∀ (cdv : Value) (A : Around) (outer : List Env) (s : Shared) (H : Hp) (E : XK) (B : Bx K), B.W = (fun cls d _ H => E cls d H) → Room k (A.deeper (PyProof.Rows.envOfC qual (defScope st) s.heap.objs.size f cdv)) →
      ∃ t, PSs (cxOf CX P w K mg base N qual (defScope st) f cdv A outer s H E) (defBody st) t ∧ SS B t φ)
    (hv : ∀ ds μ Φ Ψ, c ds μ Φ Ψ → φ (goalX Ψ) (goalE Φ) (dstart N ds) μ) : FnOk P w K mg base CX (k + 1) f fd ps (spOf K c) := by
  refine F.ok Sc (fun vs H Q E h => ?_) (fun cdv A outer s H vs Q E hr h => ?_)
  · obtain ⟨μ, ds, Φ, Ψ, _, r, hc, _⟩ := h
    rw [r.length]
    exact hl ds μ Φ Ψ hc
  · obtain ⟨μ, ds, Φ, Ψ, s0, r, hc, hq, hx⟩ := h
    let B : Bx K := ⟨H, μ, fun cls d _ H => E cls d H, goalX Ψ, fun cls dd σ H' x δ μ' S rx ⟨μ2, hs, q⟩ => hx cls dd H' x μ2 (S.evo.trans hs.evo) (hs.sto S.sto) (rx.mono hs.evo) q⟩
    obtain ⟨t, ht, hs⟩ := hb cdv A outer s H E B rfl hr
    refine ⟨t, ht, hs { nx := fun _ H' => Q .non H', rt := Q } (goalE Φ) (L2.start N vs) H (dstart N ds) μ ⟨fun σ H' δ μ' S ⟨μ2, h2, q⟩ => ?_, fun v H' d μ' σ δ S rv ⟨μ2, h2, q⟩ => ?_, fun _ _ _ _ _ z => z, fun _ _ _ _ _ z => z⟩ ⟨.refl, s0, env_start r⟩ (hv ds μ Φ Ψ hc)⟩
    · exact hq .non H' .non μ2 (S.evo.trans h2.evo) (h2.sto S.sto) (.non .nil) q
    · exact hq v H' d μ2 (S.evo.trans h2.evo) (h2.sto S.sto) (rv.mono h2.evo) q
theorem binds_full {K : Fg} {fd : FuncData} {ps : List Str} (h : ∃ us, Vals [] us ∧ Binds K fd ps us) : Binds K fd ps [] := by
  obtain ⟨us, r, b⟩ := h
  cases r
  exact b
section
variable {K : Fg} {B : Bx K} {ta tb : TE} {φ φ2 : DE} {Ψ : XP} {δ : DEnv} {μ : Sto} {Φ : DK}
def dGetXN (C : Addr) (NS : List Str) (c : Con) (φ φ2 : DE) : DE := fun Ψ δ μ Φ => φ Ψ δ μ fun x μ1 => φ2 Ψ δ μ1 fun y μ2 => ∃ es, x = .obj C NS es ∧ c [x, y] μ2 Φ fun _ _ => False
theorem u_getXN {C : Addr} {NS : List Str} {c : Con} : dGetXN C NS c φ φ2 Ψ δ μ Φ = φ Ψ δ μ fun x μ1 => φ2 Ψ δ μ1 fun y μ2 => ∃ es, x = .obj C NS es ∧ c [x, y] μ2 Φ fun _ _ => False := rfl
end
section
variable {K : Fg} {B : Bx K} {tas : TA} {ψ : DA} {Ψ : XP} {Δ : DEnds} {δ : DEnv} {μ : Sto}
def dPar (i j : Nat) (ψ : DA) : DSt := fun Ψ Δ δ μ => ψ Ψ δ μ fun xs μ1 => ∃ v w, xs = [v, w] ∧ Δ.nx ((δ.set i (some v)).set j (some w)) μ1
theorem u_par {i j : Nat} : dPar i j ψ Ψ Δ δ μ = ψ Ψ δ μ fun xs μ1 => ∃ v w, xs = [v, w] ∧ Δ.nx ((δ.set i (some v)).set j (some w)) μ1 := rfl
end
def cIsiO (C : Addr) : DC := fun xs μ Φ => ∃ ns es, xs = [.obj C ns es, .hd (.ref C)] ∧ Φ (.bl true) μ
theorem w_isiO {C : Addr} {ns : List Str} {es : List D} {μ : Sto} {Φ : DK} : cIsiO C [.obj C ns es, .hd (.ref C)] μ Φ = Φ (.bl true) μ := propext ⟨fun ⟨_, _, e, q⟩ => q, fun q => ⟨ns, es, rfl, q⟩⟩
end DW
set_option Elab.async false
set_option linter.all false
set_option maxRecDepth 100000
set_option maxHeartbeats 4000000
namespace DW
open PySem PySem.Spec PyProof.Rows L2
section
variable {K : Fg} {B : Bx K} {ta : TE} {φ : DE} {Ψ : XP} {δ : DEnv} {μ : Sto} {Φ : DK}
def dCVal (n : Int) : DE := fun _ _ μ Φ => Φ (.int n) μ
theorem sCVal {C : Addr} {mc : Value} {f : Str} {n : Int} (r : ClX.CRead K C mc) (c : ∃ t, ClX.CVal K C mc f (.int n) (.int n t)) (_a : SE B (tC (.ref C)) (dC (.hd (.ref C)))) : SE B (ClX.tCVal K (tC (.ref C)) f) (dCVal n) := fun σ H δ μ Φ Q S q k => by
  obtain ⟨t, h⟩ := c
  exact ⟨C, mc, .int n, _, rfl, r, h, sInt σ H δ μ Φ Q S q k⟩
theorem u_cval {n : Int} : dCVal n Ψ δ μ Φ = Φ (.int n) μ := rfl
end
/-- enumerate(t, start=e2), e2 a constant by name -/
theorem pi_enumTg {X : Cx} {e e2 : Expr} {ta : TA} {p kp pos tpos : Pos} {kk : Nat} {n : Int} {elts : List Expr} (hg : Gl X "enumerate") (hm : X.mg "enumerate" = none) (he : PE X e2 (tC (.int n))) (ha : PA X [e] ta) (h0 : -(2 ^ 63) ≤ n) (h1 : n < 2 ^ 63)
    (hs : starEach [e] X.env = [(false, eval e X.env)] := by rfl) :
    PI X (.Tuple elts kk tpos) (.Call (.Name "enumerate" p) [e] [⟨some "start", e2, kp⟩] pos) (iEnumT X.K n ta) := by
  refine ⟨fun pins s σ H R I h => ?_⟩
  refine wpAny_Call_Name_kw (ld_blt I hg hm boot_enumerate ?_)
  have A := ha.run pos pins s σ H _ I h
  rw [hs] at A ⊢
  refine callWith_tyKw rfl rfl rfl (thn A fun us s1 ⟨vs, H1, I1, r1, q1⟩ => kws_cons ?_)
  obtain ⟨a, xs, rfl, hq, q⟩ := q1
  rw [Vals.ref1 r1]
  obtain ⟨its, rv, p', hz⟩ := I1.tuple hq
  refine thn (he.run pins s1 σ H1 (fun v H2 => v = .int n ∧ H2 = H1) I1 ⟨rfl, rfl⟩) fun u s2 ⟨v, H2, I2, r2, ev, eh⟩ => kws_nil ?_
  subst ev
  rw [eh] at I2
  obtain ⟨t, rfl⟩ := r2
  obtain ⟨its2, rv2, p2', hz2⟩ := I2.tuple hq
  exact enum_begins_start (begins_tuple a its2.toArray) p2' h0 h1 fun h' he ho hsz hk => wpAny_pyIter_enum he (pie_enumT I2 hq he ho hk q)
end DW
set_option Elab.async false
set_option linter.all false
set_option maxRecDepth 100000
set_option maxHeartbeats 4000000
namespace DW
open PySem PySem.Spec PyProof.Rows L2
section
variable {K : Fg} {B : Bx K} {te : TE} {φ : DE} {Ψ : XP} {δ : DEnv} {μ : Sto}
def cRng1 : DC := fun xs μ Φ => ∃ j, xs = [.int j] ∧ ∀ p, μ p = none → Φ (.hd (.ref p)) (sset μ p (.rng 0 j))
def iRngD (φ : DE) : DI := fun Ψ δ μ Φ => φ Ψ δ μ fun x μ1 => ∃ a lo hi, x = .hd (.ref a) ∧ μ1 a = some (.rng lo hi) ∧ (-4611686018427387904 ≤ lo ∧ lo < 4611686018427387904 ∧ -4611686018427387904 ≤ hi ∧ hi < 4611686018427387904) ∧ Φ (rngD lo (hi - lo).toNat) μ1
variable {Φ : DK} {R : List D → Sto → Prop}
theorem v_rng1 {x : D} : cRng1 [x] μ Φ = ∃ j, x = .int j ∧ ∀ p, μ p = none → Φ (.hd (.ref p)) (sset μ p (.rng 0 j)) := propext ⟨fun ⟨j, e, q⟩ => by cases e; exact ⟨j, rfl, q⟩, fun ⟨j, e, q⟩ => ⟨j, by rw [e], q⟩⟩
theorem u_rngV : iRngD φ Ψ δ μ R = φ Ψ δ μ fun x μ1 => ∃ a lo hi, x = .hd (.ref a) ∧ μ1 a = some (.rng lo hi) ∧ (-4611686018427387904 ≤ lo ∧ lo < 4611686018427387904 ∧ -4611686018427387904 ≤ hi ∧ hi < 4611686018427387904) ∧ R (rngD lo (hi - lo).toNat) μ1 := rfl
theorem w_rngE {a b : Int} {c d : Int} : (some (Cell.rng a b) = some (Cell.rng c d)) = (a = c ∧ b = d) := propext ⟨fun e => by cases e; exact ⟨rfl, rfl⟩, fun ⟨h, k⟩ => by rw [h, k]⟩
end
end DW
set_option Elab.async false
set_option linter.all false
set_option maxRecDepth 100000
set_option maxHeartbeats 4000000
namespace DW
open PySem PySem.Spec PyProof.Rows L2
end DW
set_option Elab.async false
set_option linter.all false
set_option maxRecDepth 100000
set_option maxHeartbeats 4000000
namespace DW
open PySem PySem.Spec PyProof.Rows L2
section
variable {K : Fg} {B : Bx K} {te : TE} {φ : DE} {Ψ : XP} {δ : DEnv} {μ : Sto} {Φ : DK}
def dRestE (φ : DE) : DE := fun Ψ δ μ Φ => φ Ψ δ μ fun x μ1 => ∃ a ds, x = .hd (.ref a) ∧ μ1 a = some (.lst ds) ∧ Φ (.lst ds) (sset μ1 a (.frz ds))
theorem sRestE (h : SE B te φ) : SE B te (dRestE φ) := fun σ H δ μ Φ Q S q k =>
  h σ H δ μ _ _ S q fun v H1 x μ1 S1 e1 r1 q1 => by
    obtain ⟨a, ds, rfl, hm, q⟩ := q1
    obtain rfl := Rep.hd_inv r1
    have ev2 : Evo μ1 H1 (sset μ1 a (.frz ds)) H1 := .rest hm
    have st2 := S1.sto.rest hm
    obtain ⟨vs, q1, q2⟩ := st2 a _ sset_same
    exact k _ H1 _ _ (S1.step ev2 st2) (e1.trans ev2) (.lst ⟨q1, .frz sset_same⟩ q2 .nil) q
theorem u_restE : dRestE φ Ψ δ μ Φ = φ Ψ δ μ fun x μ1 => ∃ a ds, x = .hd (.ref a) ∧ μ1 a = some (.lst ds) ∧ Φ (.lst ds) (sset μ1 a (.frz ds)) := rfl
end
end DW
set_option Elab.async false
set_option linter.all false
set_option maxRecDepth 100000
set_option maxHeartbeats 4000000
namespace DW
open PySem PySem.Spec PyProof.Rows L2
section
variable {K : Fg} {B : Bx K} {ta te : TE} {tas : TA} {Ψ : XP} {δ : DEnv} {μ : Sto} {Φ : DK}
theorem sset_sdel {μ : Sto} {p : Addr} {c : Cell} (h : μ p = some c) : sset (sdel μ p) p c = μ := by
  funext b
  by_cases e : b = p
  · rw [e, sset_same, h]
  · rw [sset_ne e]; unfold sdel; rw [if_neg e]
/-- what is wanted of a list that is one's own -/
def ownK (Φ : DK) : DK := fun d μ' => ∃ acc, d = .lst acc ∧ ∀ p, μ' p = none → Φ (.hd (.ref p)) (sset μ' p (.lst acc))
def dLcO (ι : DI) (γ : DG) (θ : DT) (φ : DE) (vs : List Nat) : DE := fun Ψ δ μ Φ => dLc ι γ θ φ vs Ψ δ μ (ownK Φ)
theorem sLcO {wi : TI} {g : TG} {tt : TT} {te : TE} {vs : List Nat} {ι : DI} {γ : DG} {θ : DT} {φ : DE} (a : SI B wi ι) (w : GW vs g) (b : ∀ H1 μ1 e, SG (B.re H1 μ1 e) g γ) (c : ∀ H1 μ1 e, ST (B.re H1 μ1 e) tt θ) (d : ∀ H1 μ1 e, SE (B.re H1 μ1 e) te φ) :
    SE B (tLc wi g tt te vs) (dLcO ι γ θ φ vs) := fun σ H δ μ Φ Q S q k =>
  a σ H δ μ _ _ S q fun xs J H1 μ1 S1 e1 it q1 => fun p hp => by
    have hμp : μ1 p = none := S1.sto.fresh hp
    obtain ⟨W, w0, ws, wd⟩ := q1 p hμp
    refine ⟨fun i m H' => m = xs.length - i ∧ i ≤ xs.length ∧ ∃ μ', Evo μ1 H1 μ' H' ∧ StoOk K μ' H' ∧ W i μ', ⟨xs.length, by simp, Nat.zero_le _, _, .newC S1.sto hp, sto_own S1.sto hp .nil, w0⟩, ?_⟩
    rintro i m H' ⟨rfl, hi, μ', e', s', wi'⟩
    by_cases hlt : i < xs.length
    · obtain ⟨hgo, hy⟩ := (it i H' μ' s' e').1 hlt
      refine .inr ⟨hgo, fun H2 => ∃ μ2, Evo μ1 H1 μ2 H2 ∧ StoOk K μ2 H2 ∧ W (i + 1) μ2, fun H2 ⟨μ2, e2, s2, w2⟩ => ⟨xs.length - (i + 1), by omega, rfl, by omega, μ2, e2, s2, w2⟩, fun x H2 y => ?_⟩
      obtain ⟨dd, hd, s2, e2, r2⟩ := hy x H2 y
      have S2 : (B.re H1 μ1 S1.evo).S (L2.wipe σ vs) H2 (dwipe δ vs) μ' := ⟨e'.trans e2, s2, ((S1.env.mono e').mono e2).wipe vs⟩
      refine w x (L2.wipe σ vs) (L2.wipe σ vs) H2 _ wipe_wipe ?_
      refine b H1 μ1 S1.evo x dd (L2.wipe σ vs) H2 (dwipe δ vs) μ' _ _ S2 r2 (ws i dd μ' hd wi') fun σ3 H3 δ3 μ3 S3 e3 q3 => ?_
      refine c H1 μ1 S1.evo σ3 H3 δ3 μ3 _ _ S3 q3 fun b4 H4 μ4 S4 e4 q4 => ?_
      cases b4 with
      | true =>
        rw [if_pos rfl]
        refine d H1 μ1 S1.evo σ3 H4 δ3 μ4 _ _ S4 (q4.1 rfl) fun v5 H5 y5 μ5 S5 e5 r5 q5 => ?_
        obtain ⟨acc, hacc, hz, w5⟩ := q5
        obtain ⟨us, h5, hr5⟩ := S5.sto _ _ hacc
        have e6 : Evo μ5 H5 (sset μ5 p (.lst (acc ++ [y5]))) (upd H5 p (.lst (us ++ [v5]))) := own_evo hacc
        obtain ⟨e7, s7⟩ := own_upd S5.sto hacc ((hr5.append r5).mono e6)
        exact ⟨us, h5, Nat.lt_of_le_of_lt (by rw [hr5.length]; exact hz) (by decide), _, S5.evo.trans e7, s7, w5⟩
      | false =>
        rw [if_neg Bool.false_ne_true]
        exact ⟨μ4, S4.evo, S4.sto, q4.2 rfl⟩
    · have e : i = xs.length := by omega
      subst e
      obtain ⟨acc, hacc, q2⟩ := wd μ' wi'
      obtain ⟨acc', ea, q2⟩ := q2
      cases ea
      refine .inl ⟨(it _ H' μ' s' e').2 (Nat.le_refl _), ?_⟩
      have q3 := q2 p sdel_same
      rw [sset_sdel hacc] at q3
      exact k (.ref p) H' (.hd (.ref p)) μ' (S1.step e' s') (e1.trans e') (.hd _ .nil) q3
theorem u_lcO {ι : DI} {γ : DG} {θ : DT} {φ : DE} {vs : List Nat} : dLcO ι γ θ φ vs Ψ δ μ Φ = ι Ψ δ μ fun xs μ1 => LcG γ θ φ (dwipe δ vs) Ψ xs μ1 (ownK Φ) := rfl
theorem own_k {xs : List D} (h : ∀ p, μ p = none → Φ (.hd (.ref p)) (sset μ p (.lst xs))) : ownK Φ (.lst xs) μ := ⟨xs, rfl, h⟩
end
end DW
set_option Elab.async false
set_option linter.all false
set_option maxRecDepth 100000
set_option maxHeartbeats 4000000
namespace DW
open PySem PySem.Spec PyProof.Rows L2
section
variable {K : Fg} {B : Bx K} {X : Cx}
theorem reads_ints {h : Heap} : ∀ {ns : List Int} {us : List Value}, Vals (ns.map V.int) us → ReadsAll h us (ns.map PyData.int) []
  | [], [], _ => .nil
  | n :: ns, [], r => by cases r
  | [], _ :: _, r => by cases r
  | n :: ns, u :: us, r => by
    cases r with
    | cons r1 r2 =>
      obtain ⟨t, rfl⟩ := r1
      exact .cons (as := []) (bs := []) (.int n t) (reads_ints r2)
theorem alike_ints (ns : List Int) : PySem.W.AlikeAll (ns.map PyData.int) := ⟨fun x hx y hy => by
  obtain ⟨a, _, rfl⟩ := List.mem_map.mp hx
  obtain ⟨b, _, rfl⟩ := List.mem_map.mp hy
  rfl, fun x hx z => by obtain ⟨a, _, rfl⟩ := List.mem_map.mp hx; cases z⟩
theorem depth_ints : ∀ ns : List Int, PyData.depthAll (ns.map PyData.int) ≤ 1
  | [] => by simp [PyData.depthAll]
  | n :: ns => by
    have := depth_ints ns
    rw [List.map_cons, PyData.depthAll]
    have : PyData.depth (.int n) ≤ 1 := by simp [PyData.depth]
    omega
theorem maxD_is : ∀ (ns : List Int) (a : Int), ∃ m, PySem.W.maxD (.int a) (ns.map PyData.int) = .int m ∧ (m = a ∨ m ∈ ns) ∧ a ≤ m ∧ ∀ y ∈ ns, y ≤ m
  | [], a => ⟨a, rfl, .inl rfl, Int.le_refl _, by simp⟩
  | n :: ns, a => by
    have e : PySem.W.maxD (.int a) ((n :: ns).map PyData.int) = PySem.W.maxD (.int (if a < n then n else a)) (ns.map PyData.int) := by
      unfold PySem.W.maxD
      rw [List.map_cons, List.foldl_cons, PySem.W.dataLt_int]
      by_cases c : a < n
      · rw [if_pos c, if_pos (by simpa using c)]
      · rw [if_neg c, if_neg (by simpa using c)]
    obtain ⟨m, h1, h2, h3, h4⟩ := maxD_is ns (if a < n then n else a)
    refine ⟨m, e.trans h1, ?_, ?_, fun y hy => ?_⟩
    · rcases h2 with h2 | h2
      · by_cases c : a < n
        · rw [if_pos c] at h2; exact .inr (by rw [h2]; exact List.mem_cons_self)
        · rw [if_neg c] at h2; exact .inl h2
      · exact .inr (List.mem_cons_of_mem _ h2)
    · split at h3 <;> omega
    · rcases List.mem_cons.mp hy with z | z
      · subst z; split at h3 <;> omega
      · exact h4 y z
def rMaxT (K : PySem.W.Frag) : List V → Hp → VK → Prop := fun vs H Q => ∃ (a : Addr) (ns : List Int), vs = [.ref a] ∧ SqT K H a (ns.map V.int) ∧ 0 < ns.length ∧ ∀ m, m ∈ ns → (∀ y, y ∈ ns → y ≤ m) → Q (.int m) H
theorem cr_maxT {k : Nat} (hc : X.calm = true) (hr : Room k X.A) : CallR X (.builtin "max") (rMaxT X.K) := fun pins s σ H xs us Q I r q => by
  obtain ⟨a, ns, rfl, hq, hl, q⟩ := q
  rw [Vals.ref1 r]
  obtain ⟨its, rv, p', hz⟩ := I.tuple hq
  cases ns with
  | nil => simp at hl
  | cons n ns =>
    have hu := hr.un
    have hd := depth_ints (n :: ns)
    refine PySem.W.max_tuple_data (x := .int n) (xs := ns.map PyData.int) (as := []) (I.ok.hd hc) p' (reads_ints (ns := n :: ns) rv) (alike_ints (n :: ns)) (by have e : PyData.depthAll (PyData.int n :: ns.map PyData.int) = PyData.depthAll ((n :: ns).map PyData.int) := rfl; omega) fun i v h' tk bs hv hR hk => ?_
    obtain ⟨m, e, h2, h3, h4⟩ := maxD_is ns n
    rw [e] at hR
    cases hR with
    | int _ t =>
      exact ⟨.int m, H, I.kept hk, ⟨t, rfl⟩, q m (h2.elim (fun z => by rw [z]; exact List.mem_cons_self) (List.mem_cons_of_mem _)) fun y hy => by
        rcases List.mem_cons.mp hy with z | z
        · rw [z]; exact h3
        · exact h4 y z⟩
def cMaxT : DC := fun xs μ Φ => ∃ ns : List Int, xs = [.tup (ns.map .int)] ∧ ns ≠ [] ∧ ∀ m, m ∈ ns → (∀ y, y ∈ ns → y ≤ m) → Φ (.int m) μ
theorem rcMaxT : RC K (rMaxT K) cMaxT := fun H μ vs ds Φ Q s r q k => by
  obtain ⟨ns, rfl, hne, q⟩ := q
  obtain ⟨v, rfl, r1⟩ := reps1 r
  obtain ⟨a, us, rfl, h1, h2⟩ := Rep.tup_inv r1
  have e := reps_intsV h2
  subst e
  exact ⟨a, ns, rfl, h1.sq, List.length_pos_iff.2 hne, fun m hm hmax => k _ H _ μ .refl s (.int _ .nil) (q m hm hmax)⟩
theorem w_maxT {ns : List Int} {μ : Sto} {Φ : DK} (h : ns ≠ [] ∧ ∀ m, m ∈ ns → (∀ y, y ∈ ns → y ≤ m) → Φ (.int m) μ) : cMaxT [.tup (ns.map .int)] μ Φ := ⟨ns, rfl, h⟩
end
end DW
set_option Elab.async false
set_option linter.all false
set_option maxRecDepth 100000
set_option maxHeartbeats 4000000
namespace LW
open PySem PySem.Spec L2 DW PyProof.Rows
def topS (i : Nat) : Stmt := PySem.Challenge.pw_choosersrow_k40_queries_combined.main.body.getD i (.Pass ⟨0, 0, 0, 0⟩)
local macro_rules | `(tactic| walk_at "wp") => `(tactic| try simp only [u_lcO, u_restE, v_rng1, u_rngV, w_rngE, u_cval, w_isiO, u_par, u_iR3, u_makeSD, u_getXN, rngB_len, u_star, u_rev2L, u_callR, u_binXI, u_callX, u_getX, u_restF, u_binX, u_invX, w_neB, u_methXN, u_makeSN, u_tupR1, u_lc2, u_iZM, w_zipLT, w_zipTL, u_cntL, u_lstR1O, u_fld, w_fld, w_someE, u_setF, u_methX, w_objE, u_makeS, u_sortSet, u_lstR1, u_iZipL, u_iEnL, u_idx, u_popAt, u_cntT, u_idxT, u_callF, w_maxL, w_minL, w_ixDc, w_inDc, w_repL, w_listLs, w_tplT, w_tplP, u_isE, w_isE, u_kitER, u_kitET, u_excE, u_xf, w_xf1, u_slS, u_raise1, u_iEn, w_listStr, w_lenStr, w_catStr, w_ixStr, w_inStr, w_strE, w_strI, w_strS, u_rest, cut_to, cut_from1, Int.zero_add, u_revT, w_repT, u_tupG, u_try, u_gPlain, u_gThen, u_gNil, u_yield, u_gWhile, u_while, u_isX, u_kitR, u_kitT, u_excOk, w_zipE, u_goalX, u_lc, rngD_len, Int.toNat_natCast, u_for, u_iT, u_iL, u_iR1, u_iR2, u_iZ, u_iS, w_lstE, dwipe, u_asg, u_asgS, u_ret, u_retN, u_if, u_next, u_break, u_cont, u_drop, u_raise, u_aug, u_var, u_c, u_op, u_un, u_test, u_and, u_or, u_not, u_yes, u_andV, u_orV, u_notV, u_ifE, u_chain, u_nil, u_cons, u_tup, u_lst, u_own, u_cb, u_call, u_callS, u_name, u_etup, u_enil, u_econs, u_sub, u_app, u_slT, u_slL, u_noPart, u_part, u_revL, ex_some, w_I0, w_I, w_uI, w_int, w_bl, w_isi, w_someb, w_eqI, w_neI, w_eqS, w_neS, w_lenT, w_lenL, w_lenS, w_tupL, w_tupT, w_ixT, w_ixL, w_ixS, w_catT, w_catL, w_all, w_any, w_min2, w_divmod, w_listS, w_listL, w_listT, w_isN, w_notN, w_tupE, w_intE, w_consE, w_hdE, w_cellS, w_set, at0, at1, at2, at3, i_tT, i_tI, i_tB, i_tS, i_nT, i_nI, i_nB, i_nS, i_iT, i_iI, i_iB, i_iS, i_bT, i_bI, i_bB, i_bS, i_sT, i_sI, i_sB, i_sS, v_itemsS, w_eqB, isNone, dstart, List.map, List.length, List.replicate, List.cons_append, List.nil_append, List.append_nil, List.getElem?_cons_zero, List.getElem?_cons_succ, List.set_cons_zero, List.set_cons_succ, ix40, ix42, ix43, true_implies, false_implies, and_true, true_and, Bool.not_true, Bool.not_false, decide_eq_true_eq, decide_eq_false_iff_not, List.length_map, Nat.reduceAdd, reduceCtorEq, v_ixH, v_items, v_itemsT, v_itemsL, v_len, v_tuple, v_list, v_listOwn, sset_same, sset_sset, Option.some.injEq, Cell.lst.injEq, Cell.frz.injEq, false_and, exists_false, or_false, false_or, exists_eq_left', ne_eq, not_false_eq_true, isTup, Bool.true_eq_false, Bool.false_eq_true])
local macro_rules | `(tactic| walk_at "wps") => `(tactic| try simp only [u_seq, u_lcO, u_restE, v_rng1, u_rngV, w_rngE, u_cval, w_isiO, u_par, u_iR3, u_makeSD, u_getXN, rngB_len, u_star, u_rev2L, u_callR, u_binXI, u_callX, u_getX, u_restF, u_binX, u_invX, w_neB, u_methXN, u_makeSN, u_tupR1, u_lc2, u_iZM, w_zipLT, w_zipTL, u_cntL, u_lstR1O, u_fld, w_fld, w_someE, u_setF, u_methX, w_objE, u_makeS, u_sortSet, u_lstR1, u_iZipL, u_iEnL, u_idx, u_popAt, u_cntT, u_idxT, u_callF, w_maxL, w_minL, w_ixDc, w_inDc, w_repL, w_listLs, w_tplT, w_tplP, u_isE, w_isE, u_kitER, u_kitET, u_excE, u_xf, w_xf1, u_slS, u_raise1, u_iEn, w_listStr, w_lenStr, w_catStr, w_ixStr, w_inStr, w_strE, w_strI, w_strS, u_rest, cut_to, cut_from1, Int.zero_add, u_revT, w_repT, u_tupG, u_try, u_gPlain, u_gThen, u_gNil, u_yield, u_gWhile, u_while, u_isX, u_kitR, u_kitT, u_excOk, w_zipE, u_goalX, u_lc, rngD_len, Int.toNat_natCast, u_for, u_iT, u_iL, u_iR1, u_iR2, u_iZ, u_iS, w_lstE, dwipe, u_asg, u_asgS, u_ret, u_retN, u_if, u_next, u_break, u_cont, u_drop, u_raise, u_aug, u_var, u_c, u_op, u_un, u_test, u_and, u_or, u_not, u_yes, u_andV, u_orV, u_notV, u_ifE, u_chain, u_nil, u_cons, u_tup, u_lst, u_own, u_cb, u_call, u_callS, u_name, u_etup, u_enil, u_econs, u_sub, u_app, u_slT, u_slL, u_noPart, u_part, u_revL, ex_some, w_I0, w_I, w_uI, w_int, w_bl, w_isi, w_someb, w_eqI, w_neI, w_eqS, w_neS, w_lenT, w_lenL, w_lenS, w_tupL, w_tupT, w_ixT, w_ixL, w_ixS, w_catT, w_catL, w_all, w_any, w_min2, w_divmod, w_listS, w_listL, w_listT, w_isN, w_notN, w_tupE, w_intE, w_consE, w_hdE, w_cellS, w_set, at0, at1, at2, at3, i_tT, i_tI, i_tB, i_tS, i_nT, i_nI, i_nB, i_nS, i_iT, i_iI, i_iB, i_iS, i_bT, i_bI, i_bB, i_bS, i_sT, i_sI, i_sB, i_sS, v_itemsS, w_eqB, isNone, dstart, List.map, List.length, List.replicate, List.cons_append, List.nil_append, List.append_nil, List.getElem?_cons_zero, List.getElem?_cons_succ, List.set_cons_zero, List.set_cons_succ, ix40, ix42, ix43, true_implies, false_implies, and_true, true_and, Bool.not_true, Bool.not_false, decide_eq_true_eq, decide_eq_false_iff_not, List.length_map, Nat.reduceAdd, reduceCtorEq, v_ixH, v_items, v_itemsT, v_itemsL, v_len, v_tuple, v_list, v_listOwn, sset_same, sset_sset, Option.some.injEq, Cell.lst.injEq, Cell.frz.injEq, false_and, exists_false, or_false, false_or, exists_eq_left', ne_eq, not_false_eq_true, isTup, Bool.true_eq_false, Bool.false_eq_true])
abbrev s_is_number : Stmt := topS 18
abbrev N_is_number : List Str := ["value"]
theorem sc_is_number : FnScope N_is_number ["value"] (defScope s_is_number) := ⟨rfl, rfl, rfl, by decide +kernel, rfl, by decide +kernel, by decide +kernel⟩
abbrev s_is_below : Stmt := topS 19
abbrev N_is_below : List Str := ["value", "limit"]
theorem sc_is_below : FnScope N_is_below ["value", "limit"] (defScope s_is_below) := ⟨rfl, rfl, rfl, by decide +kernel, rfl, by decide +kernel, by decide +kernel⟩
abbrev s_count_choices : Stmt := topS 30
abbrev N_count_choices : List Str := ["widths", "many", "width"]
theorem sc_count_choices : FnScope N_count_choices ["widths"] (defScope s_count_choices) := ⟨rfl, rfl, rfl, by decide +kernel, rfl, by decide +kernel, by decide +kernel⟩
abbrev s_has_outcomes : Stmt := topS 33
abbrev N_has_outcomes : List Str := ["outcomes"]
theorem sc_has_outcomes : FnScope N_has_outcomes ["outcomes"] (defScope s_has_outcomes) := ⟨rfl, rfl, rfl, by decide +kernel, rfl, by decide +kernel, by decide +kernel⟩
abbrev s_width_at : Stmt := topS 42
abbrev N_width_at : List Str := ["widths", "place"]
theorem sc_width_at : FnScope N_width_at ["widths", "place"] (defScope s_width_at) := ⟨rfl, rfl, rfl, by decide +kernel, rfl, by decide +kernel, by decide +kernel⟩
abbrev s_terms_behind : Stmt := topS 43
abbrev N_terms_behind : List Str := ["term"]
theorem sc_terms_behind : FnScope N_terms_behind ["term"] (defScope s_terms_behind) := ⟨rfl, rfl, rfl, by decide +kernel, rfl, by decide +kernel, by decide +kernel⟩
abbrev s_are_widths : Stmt := topS 44
abbrev N_are_widths : List Str := ["widths", "width"]
theorem sc_are_widths : FnScope N_are_widths ["widths"] (defScope s_are_widths) := ⟨rfl, rfl, rfl, by decide +kernel, rfl, by decide +kernel, by decide +kernel⟩
abbrev s_require_form : Stmt := topS 45
abbrev N_require_form : List Str := ["widths", "outcomes"]
theorem sc_require_form : FnScope N_require_form ["widths", "outcomes"] (defScope s_require_form) := ⟨rfl, rfl, rfl, by decide +kernel, rfl, by decide +kernel, by decide +kernel⟩
abbrev s_has_query_form : Stmt := topS 46
abbrev N_has_query_form : List Str := ["term", "widths", "level"]
theorem sc_has_query_form : FnScope N_has_query_form ["term", "widths", "level"] (defScope s_has_query_form) := ⟨rfl, rfl, rfl, by decide +kernel, rfl, by decide +kernel, by decide +kernel⟩
abbrev s_wrong_query : Stmt := topS 47
abbrev N_wrong_query : List Str := ["term", "widths", "outcomes", "level", "index", "below", "path"]
theorem sc_wrong_query : FnScope N_wrong_query ["term", "widths", "outcomes", "level"] (defScope s_wrong_query) := ⟨rfl, rfl, rfl, by decide +kernel, rfl, by decide +kernel, by decide +kernel⟩
abbrev s_places_of : Stmt := topS 48
abbrev N_places_of : List Str := ["term", "below", "place"]
theorem sc_places_of : FnScope N_places_of ["term"] (defScope s_places_of) := ⟨rfl, rfl, rfl, by decide +kernel, rfl, by decide +kernel, by decide +kernel⟩
abbrev s_require_few : Stmt := topS 49
abbrev N_require_few : List Str := ["places", "widths", "place"]
theorem sc_require_few : FnScope N_require_few ["places", "widths"] (defScope s_require_few) := ⟨rfl, rfl, rfl, by decide +kernel, rfl, by decide +kernel, by decide +kernel⟩
abbrev s_followed : Stmt := topS 50
abbrev N_followed : List Str := ["query", "row", "places", "term", "entry"]
theorem sc_followed : FnScope N_followed ["query", "row"] (defScope s_followed) := ⟨rfl, rfl, rfl, by decide +kernel, rfl, by decide +kernel, by decide +kernel⟩
abbrev s_wrong_numbers : Stmt := topS 35
abbrev N_wrong_numbers : List Str := ["item", "length", "limit", "index", "entry"]
theorem sc_wrong_numbers : FnScope N_wrong_numbers ["item", "length", "limit"] (defScope s_wrong_numbers) := ⟨rfl, rfl, rfl, by decide +kernel, rfl, by decide +kernel, by decide +kernel⟩
abbrev s_fixed_term : Stmt := topS 51
abbrev N_fixed_term : List Str := ["term", "place", "option", "below"]
theorem sc_fixed_term : FnScope N_fixed_term ["term", "place", "option"] (defScope s_fixed_term) := ⟨rfl, rfl, rfl, by decide +kernel, rfl, by decide +kernel, by decide +kernel⟩
abbrev s_lowered_term : Stmt := topS 52
abbrev N_lowered_term : List Str := ["term", "below"]
theorem sc_lowered_term : FnScope N_lowered_term ["term"] (defScope s_lowered_term) := ⟨rfl, rfl, rfl, by decide +kernel, rfl, by decide +kernel, by decide +kernel⟩
abbrev s_term_with_tells : Stmt := topS 55
abbrev N_term_with_tells : List Str := ["term", "terms", "below"]
theorem sc_term_with_tells : FnScope N_term_with_tells ["term", "terms"] (defScope s_term_with_tells) := ⟨rfl, rfl, rfl, by decide +kernel, rfl, by decide +kernel, by decide +kernel⟩
abbrev s_term_with_outcomes : Stmt := topS 56
abbrev N_term_with_outcomes : List Str := ["term", "outcomes", "outcome"]
theorem sc_term_with_outcomes : FnScope N_term_with_outcomes ["term", "outcomes"] (defScope s_term_with_outcomes) := ⟨rfl, rfl, rfl, by decide +kernel, rfl, by decide +kernel, by decide +kernel⟩
abbrev s_require_same_widths : Stmt := topS 57
abbrev N_require_same_widths : List Str := ["first", "second"]
theorem sc_require_same_widths : FnScope N_require_same_widths ["first", "second"] (defScope s_require_same_widths) := ⟨rfl, rfl, rfl, by decide +kernel, rfl, by decide +kernel, by decide +kernel⟩
abbrev s_require_two_outcomes : Stmt := topS 58
abbrev N_require_two_outcomes : List Str := ["query"]
theorem sc_require_two_outcomes : FnScope N_require_two_outcomes ["query"] (defScope s_require_two_outcomes) := ⟨rfl, rfl, rfl, by decide +kernel, rfl, by decide +kernel, by decide +kernel⟩
abbrev s_require_combined : Stmt := topS 59
abbrev N_require_combined : List Str := ["first", "second"]
theorem sc_require_combined : FnScope N_require_combined ["first", "second"] (defScope s_require_combined) := ⟨rfl, rfl, rfl, by decide +kernel, rfl, by decide +kernel, by decide +kernel⟩
abbrev s_Query___init__ : Stmt := clsS (topS 61) 3
abbrev N_Query___init__ : List Str := ["self", "term", "widths", "outcomes", "path"]
theorem sc_Query___init__ : FnScope N_Query___init__ ["self", "term", "widths", "outcomes"] (defScope s_Query___init__) := ⟨rfl, rfl, rfl, by decide +kernel, rfl, by decide +kernel, by decide +kernel⟩
abbrev s_Query___call__ : Stmt := clsS (topS 61) 4
abbrev N_Query___call__ : List Str := ["self", "row"]
theorem sc_Query___call__ : FnScope N_Query___call__ ["self", "row"] (defScope s_Query___call__) := ⟨rfl, rfl, rfl, by decide +kernel, rfl, by decide +kernel, by decide +kernel⟩
abbrev s_Query___invert__ : Stmt := clsS (topS 61) 5
abbrev N_Query___invert__ : List Str := ["self"]
theorem sc_Query___invert__ : FnScope N_Query___invert__ ["self"] (defScope s_Query___invert__) := ⟨rfl, rfl, rfl, by decide +kernel, rfl, by decide +kernel, by decide +kernel⟩
abbrev s_Query___and__ : Stmt := clsS (topS 61) 6
abbrev N_Query___and__ : List Str := ["self", "other"]
theorem sc_Query___and__ : FnScope N_Query___and__ ["self", "other"] (defScope s_Query___and__) := ⟨rfl, rfl, rfl, by decide +kernel, rfl, by decide +kernel, by decide +kernel⟩
abbrev s_Query___or__ : Stmt := clsS (topS 61) 7
abbrev N_Query___or__ : List Str := ["self", "other"]
theorem sc_Query___or__ : FnScope N_Query___or__ ["self", "other"] (defScope s_Query___or__) := ⟨rfl, rfl, rfl, by decide +kernel, rfl, by decide +kernel, by decide +kernel⟩
abbrev s_Query___xor__ : Stmt := clsS (topS 61) 8
abbrev N_Query___xor__ : List Str := ["self", "other", "turned"]
theorem sc_Query___xor__ : FnScope N_Query___xor__ ["self", "other"] (defScope s_Query___xor__) := ⟨rfl, rfl, rfl, by decide +kernel, rfl, by decide +kernel, by decide +kernel⟩
abbrev s_fix_place : Stmt := topS 53
abbrev N_fix_place : List Str := ["query", "place", "option"]
theorem sc_fix_place : FnScope N_fix_place ["query", "place", "option"] (defScope s_fix_place) := ⟨rfl, rfl, rfl, by decide +kernel, rfl, by decide +kernel, by decide +kernel⟩
abbrev s_query_tail : Stmt := topS 54
abbrev N_query_tail : List Str := ["query", "option", "fixed"]
theorem sc_query_tail : FnScope N_query_tail ["query", "option"] (defScope s_query_tail) := ⟨rfl, rfl, rfl, by decide +kernel, rfl, by decide +kernel, by decide +kernel⟩
abbrev s_join_queries : Stmt := topS 60
abbrev N_join_queries : List Str := ["first", "second", "table", "outcomes", "entries", "terms"]
theorem sc_join_queries : FnScope N_join_queries ["first", "second", "table", "outcomes"] (defScope s_join_queries) := ⟨rfl, rfl, rfl, by decide +kernel, rfl, by decide +kernel, by decide +kernel⟩
abbrev s_shortest_cycle : Stmt := topS 63
abbrev N_shortest_cycle : List Str := ["cycle", "length"]
theorem sc_shortest_cycle : FnScope N_shortest_cycle ["cycle"] (defScope s_shortest_cycle) := ⟨rfl, rfl, rfl, by decide +kernel, rfl, by decide +kernel, by decide +kernel⟩
abbrev s_turned_cycle : Stmt := topS 64
abbrev N_turned_cycle : List Str := ["cycle", "count", "start"]
theorem sc_turned_cycle : FnScope N_turned_cycle ["cycle", "count"] (defScope s_turned_cycle) := ⟨rfl, rfl, rfl, by decide +kernel, rfl, by decide +kernel, by decide +kernel⟩
abbrev s_count_spare : Stmt := topS 65
abbrev N_count_spare : List Str := ["head", "cycle", "spare"]
theorem sc_count_spare : FnScope N_count_spare ["head", "cycle"] (defScope s_count_spare) := ⟨rfl, rfl, rfl, by decide +kernel, rfl, by decide +kernel, by decide +kernel⟩
abbrev s_Row___init__ : Stmt := clsS (topS 66) 0
abbrev N_Row___init__ : List Str := ["self", "head", "cycle", "entry"]
theorem sc_Row___init__ : FnScope N_Row___init__ ["self", "head", "cycle"] (defScope s_Row___init__) := ⟨rfl, rfl, rfl, by decide +kernel, rfl, by decide +kernel, by decide +kernel⟩
abbrev s_Row___getitem__ : Stmt := clsS (topS 66) 1
abbrev N_Row___getitem__ : List Str := ["self", "at"]
theorem sc_Row___getitem__ : FnScope N_Row___getitem__ ["self", "at"] (defScope s_Row___getitem__) := ⟨rfl, rfl, rfl, by decide +kernel, rfl, by decide +kernel, by decide +kernel⟩
abbrev s_Row_least : Stmt := clsS (topS 66) 4
abbrev N_Row_least : List Str := ["self", "cycle", "spare"]
theorem sc_Row_least : FnScope N_Row_least ["self"] (defScope s_Row_least) := ⟨rfl, rfl, rfl, by decide +kernel, rfl, by decide +kernel, by decide +kernel⟩
abbrev s_Row_after : Stmt := clsS (topS 66) 5
abbrev N_Row_after : List Str := ["self", "count", "passed"]
theorem sc_Row_after : FnScope N_Row_after ["self", "count"] (defScope s_Row_after) := ⟨rfl, rfl, rfl, by decide +kernel, rfl, by decide +kernel, by decide +kernel⟩
abbrev s__law_start : Stmt := topS 68
abbrev N__law_start : List Str := ["_law_script", "_law_seed", "_law_k"]
theorem sc__law_start : FnScope N__law_start ["_law_script"] (defScope s__law_start) := ⟨rfl, rfl, rfl, by decide +kernel, rfl, by decide +kernel, by decide +kernel⟩
abbrev s__law_pick : Stmt := topS 69
abbrev N__law_pick : List Str := ["_law_state", "_law_limit", "_law_cell", "_law_mixed", "_law_rest"]
theorem sc__law_pick : FnScope N__law_pick ["_law_state", "_law_limit"] (defScope s__law_pick) := ⟨rfl, rfl, rfl, by decide +kernel, rfl, by decide +kernel, by decide +kernel⟩
abbrev s__law_same : Stmt := topS 70
abbrev N__law_same : List Str := ["_law_actual", "_law_due_here", "_law_p"]
theorem sc__law_same : FnScope N__law_same ["_law_actual", "_law_due_here"] (defScope s__law_same) := ⟨rfl, rfl, rfl, by decide +kernel, rfl, by decide +kernel, by decide +kernel⟩
abbrev s__law_width : Stmt := topS 71
abbrev N__law_width : List Str := ["_law_widths_here", "_law_place"]
theorem sc__law_width : FnScope N__law_width ["_law_widths_here", "_law_place"] (defScope s__law_width) := ⟨rfl, rfl, rfl, by decide +kernel, rfl, by decide +kernel, by decide +kernel⟩
abbrev s__law_widths : Stmt := topS 72
abbrev N__law_widths : List Str := ["_law_state", "_law_top", "_law_many", "_law_k"]
theorem sc__law_widths : FnScope N__law_widths ["_law_state"] (defScope s__law_widths) := ⟨rfl, rfl, rfl, by decide +kernel, rfl, by decide +kernel, by decide +kernel⟩
abbrev s__law_look_places : Stmt := topS 73
abbrev N__law_look_places : List Str := ["_law_state", "_law_widths_here", "_law_count", "_law_most", "_law_places", "_law_many", "_law_k", "_law_place"]
theorem sc__law_look_places : FnScope N__law_look_places ["_law_state", "_law_widths_here", "_law_count", "_law_most"] (defScope s__law_look_places) := ⟨rfl, rfl, rfl, by decide +kernel, rfl, by decide +kernel, by decide +kernel⟩
abbrev s__law_query_term : Stmt := topS 74
abbrev N__law_query_term : List Str := ["_law_state", "_law_size", "_law_places", "_law_levels", "_law_place", "_law_options", "_law_x"]
theorem sc__law_query_term : FnScope N__law_query_term ["_law_state", "_law_size", "_law_places", "_law_levels"] (defScope s__law_query_term) := ⟨rfl, rfl, rfl, by decide +kernel, rfl, by decide +kernel, by decide +kernel⟩
abbrev s__law_endless : Stmt := topS 75
abbrev N__law_endless : List Str := ["_law_state", "_law_widths_here", "_law_many", "_law_head", "_law_p", "_law_j"]
theorem sc__law_endless : FnScope N__law_endless ["_law_state", "_law_widths_here"] (defScope s__law_endless) := ⟨rfl, rfl, rfl, by decide +kernel, rfl, by decide +kernel, by decide +kernel⟩
abbrev s__law_endless_entry : Stmt := topS 76
abbrev N__law_endless_entry : List Str := ["_law_row", "_law_place"]
theorem sc__law_endless_entry : FnScope N__law_endless_entry ["_law_row", "_law_place"] (defScope s__law_endless_entry) := ⟨rfl, rfl, rfl, by decide +kernel, rfl, by decide +kernel, by decide +kernel⟩
abbrev s__law_small_term : Stmt := topS 77
abbrev N__law_small_term : List Str := ["_law_state", "_law_size", "_law_places", "_law_levels"]
theorem sc__law_small_term : FnScope N__law_small_term ["_law_state", "_law_size", "_law_places"] (defScope s__law_small_term) := ⟨rfl, rfl, rfl, by decide +kernel, rfl, by decide +kernel, by decide +kernel⟩
abbrev s__law_chain : Stmt := topS 78
abbrev N__law_chain : List Str := ["_law_state", "_law_size", "_law_places", "_law_levels", "_law_term", "_law_k", "_law_place", "_law_options", "_law_branches", "_law_x"]
theorem sc__law_chain : FnScope N__law_chain ["_law_state", "_law_size", "_law_places", "_law_levels"] (defScope s__law_chain) := ⟨rfl, rfl, rfl, by decide +kernel, rfl, by decide +kernel, by decide +kernel⟩
abbrev s__law_replaced : Stmt := topS 79
abbrev N__law_replaced : List Str := ["_law_term", "_law_terms_here", "_law_branch"]
theorem sc__law_replaced : FnScope N__law_replaced ["_law_term", "_law_terms_here"] (defScope s__law_replaced) := ⟨rfl, rfl, rfl, by decide +kernel, rfl, by decide +kernel, by decide +kernel⟩
abbrev s__law_without : Stmt := topS 80
abbrev N__law_without : List Str := ["_law_term", "_law_place", "_law_option", "_law_branch"]
theorem sc__law_without : FnScope N__law_without ["_law_term", "_law_place", "_law_option"] (defScope s__law_without) := ⟨rfl, rfl, rfl, by decide +kernel, rfl, by decide +kernel, by decide +kernel⟩
abbrev s__law_lowered : Stmt := topS 81
abbrev N__law_lowered : List Str := ["_law_term", "_law_branch"]
theorem sc__law_lowered : FnScope N__law_lowered ["_law_term"] (defScope s__law_lowered) := ⟨rfl, rfl, rfl, by decide +kernel, rfl, by decide +kernel, by decide +kernel⟩
abbrev s__law_walk : Stmt := topS 82
abbrev N__law_walk : List Str := ["_law_term", "_law_row", "_law_k"]
theorem sc__law_walk : FnScope N__law_walk ["_law_term", "_law_row"] (defScope s__law_walk) := ⟨rfl, rfl, rfl, by decide +kernel, rfl, by decide +kernel, by decide +kernel⟩
abbrev s__law_too_deep : Stmt := topS 83
abbrev N__law_too_deep : List Str := ["_law_term", "_law_path", "_law_k", "_law_found"]
theorem sc__law_too_deep : FnScope N__law_too_deep ["_law_term", "_law_path"] (defScope s__law_too_deep) := ⟨rfl, rfl, rfl, by decide +kernel, rfl, by decide +kernel, by decide +kernel⟩
abbrev s__law_looks : Stmt := topS 84
abbrev N__law_looks : List Str := ["_law_term", "_law_branch"]
theorem sc__law_looks : FnScope N__law_looks ["_law_term"] (defScope s__law_looks) := ⟨rfl, rfl, rfl, by decide +kernel, rfl, by decide +kernel, by decide +kernel⟩
abbrev s__law_named : Stmt := topS 85
abbrev N__law_named : List Str := ["_law_term", "_law_places", "_law_branch"]
theorem sc__law_named : FnScope N__law_named ["_law_term", "_law_places"] (defScope s__law_named) := ⟨rfl, rfl, rfl, by decide +kernel, rfl, by decide +kernel, by decide +kernel⟩
abbrev s__law_due : Stmt := topS 86
abbrev N__law_due : List Str := ["_law_term", "_law_widths_here", "_law_outcomes", "_law_path", "_law_many", "_law_place"]
theorem sc__law_due : FnScope N__law_due ["_law_term", "_law_widths_here", "_law_outcomes"] (defScope s__law_due) := ⟨rfl, rfl, rfl, by decide +kernel, rfl, by decide +kernel, by decide +kernel⟩
abbrev s__law_apply : Stmt := topS 87
abbrev N__law_apply : List Str := ["_law_how", "_law_first", "_law_second", "_law_one", "_law_other"]
theorem sc__law_apply : FnScope N__law_apply ["_law_how", "_law_first", "_law_second", "_law_one", "_law_other"] (defScope s__law_apply) := ⟨rfl, rfl, rfl, by decide +kernel, rfl, by decide +kernel, by decide +kernel⟩
abbrev s__law_made : Stmt := topS 88
abbrev N__law_made : List Str := ["_law_how", "_law_first", "_law_second", "_law_one", "_law_other", "e", "_law_made_here"]
theorem sc__law_made : FnScope N__law_made ["_law_how", "_law_first", "_law_second", "_law_one", "_law_other"] (defScope s__law_made) := ⟨rfl, rfl, rfl, by decide +kernel, rfl, by decide +kernel, by decide +kernel⟩
abbrev s__law_terms : Stmt := topS 89
abbrev N__law_terms : List Str := ["_law_first", "_law_second", "_law_table_here", "_law_turned", "_law_joined", "_law_terms_here", "_law_row", "_law_r"]
theorem sc__law_terms : FnScope N__law_terms ["_law_first", "_law_second", "_law_table_here"] (defScope s__law_terms) := ⟨rfl, rfl, rfl, by decide +kernel, rfl, by decide +kernel, by decide +kernel⟩
abbrev s__law_together : Stmt := topS 90
abbrev N__law_together : List Str := ["_law_how", "_law_r", "_law_s", "_law_table_here"]
theorem sc__law_together : FnScope N__law_together ["_law_how", "_law_r", "_law_s", "_law_table_here"] (defScope s__law_together) := ⟨rfl, rfl, rfl, by decide +kernel, rfl, by decide +kernel, by decide +kernel⟩
abbrev s__law_table : Stmt := topS 91
abbrev N__law_table : List Str := ["_law_state", "_law_rows", "_law_columns", "_law_outcomes", "_law_r", "_law_s"]
theorem sc__law_table : FnScope N__law_table ["_law_state", "_law_rows", "_law_columns", "_law_outcomes"] (defScope s__law_table) := ⟨rfl, rfl, rfl, by decide +kernel, rfl, by decide +kernel, by decide +kernel⟩
abbrev s__law_combines : Stmt := topS 92
abbrev N__law_combines : List Str := ["_law_state", "_law_widths_here", "_law_terms_here", "_law_table_here", "_law_outcomes", "_law_first", "_law_second", "_law_other", "_law_dues", "_law_row", "_law_r", "_law_s", "_law_how", "_law_many", "_law_due_here", "_law_asked"]
theorem sc__law_combines : FnScope N__law_combines ["_law_state", "_law_widths_here", "_law_terms_here", "_law_table_here", "_law_outcomes"] (defScope s__law_combines) := ⟨rfl, rfl, rfl, by decide +kernel, rfl, by decide +kernel, by decide +kernel⟩
abbrev s__law_joins : Stmt := topS 93
abbrev N__law_joins : List Str := ["_law_state", "_law_widths_here", "_law_places", "_law_outcomes", "_law_k", "_law_sizes", "_law_terms_here", "_law_first", "_law_second", "_law_table_here", "_law_joined", "_law_due_here", "_law_at", "_law_row", "_law_x", "_law_wrong", "_law_tables", "_law_bad", "_law_none", "_law_moved", "_law_strange", "_law_asked", "_law_pair", "_law_how", "_law_size", "_law_r"]
theorem sc__law_joins : FnScope N__law_joins ["_law_state", "_law_widths_here", "_law_places", "_law_outcomes"] (defScope s__law_joins) := ⟨rfl, rfl, rfl, by decide +kernel, rfl, by decide +kernel, by decide +kernel⟩
abbrev s__law_fixes : Stmt := topS 94
abbrev N__law_fixes : List Str := ["_law_state", "_law_query", "_law_term", "_law_widths_here", "_law_k", "_law_row", "_law_named_here", "_law_place", "_law_options", "_law_x", "_law_due_here", "_law_fixed", "_law_wrong"]
theorem sc__law_fixes : FnScope N__law_fixes ["_law_state", "_law_query", "_law_term", "_law_widths_here", "_law_k"] (defScope s__law_fixes) := ⟨rfl, rfl, rfl, by decide +kernel, rfl, by decide +kernel, by decide +kernel⟩
abbrev s__law_tails : Stmt := topS 95
abbrev N__law_tails : List Str := ["_law_state", "_law_query", "_law_term", "_law_widths_here", "_law_k", "_law_row", "_law_rest", "_law_due_here", "_law_tail", "_law_turn", "_law_options", "_law_x", "_law_lowered_here", "_law_turned", "_law_wrong", "_law_entry"]
theorem sc__law_tails : FnScope N__law_tails ["_law_state", "_law_query", "_law_term", "_law_widths_here", "_law_k"] (defScope s__law_tails) := ⟨rfl, rfl, rfl, by decide +kernel, rfl, by decide +kernel, by decide +kernel⟩
abbrev s_law : Stmt := topS 96
abbrev N_law : List Str := ["_law_script", "_law_state", "_law_widths_here", "_law_places", "_law_size", "_law_terms_here", "_law_k", "_law_term", "_law_query", "_law_others", "_law_lots", "_law_turn"]
theorem sc_law : FnScope N_law ["_law_script"] (defScope s_law) := ⟨rfl, rfl, rfl, by decide +kernel, rfl, by decide +kernel, by decide +kernel⟩
set_option genInjectivity false in
structure Txt (P : Program) (w : World) (K : Fg) (mg : Str → Option Value) where
  f_is_number : Addr
  d_is_number : FuncData
  F_is_number : Fun K "is_number" "is_number" s_is_number f_is_number d_is_number
  g_is_number : mg "is_number" = some (.ref f_is_number)
  b_is_number : Binds K d_is_number ["value"] []
  f_is_below : Addr
  d_is_below : FuncData
  F_is_below : Fun K "is_below" "is_below" s_is_below f_is_below d_is_below
  g_is_below : mg "is_below" = some (.ref f_is_below)
  b_is_below : Binds K d_is_below ["value", "limit"] []
  f_count_choices : Addr
  d_count_choices : FuncData
  F_count_choices : Fun K "count_choices" "count_choices" s_count_choices f_count_choices d_count_choices
  g_count_choices : mg "count_choices" = some (.ref f_count_choices)
  b_count_choices : Binds K d_count_choices ["widths"] []
  f_has_outcomes : Addr
  d_has_outcomes : FuncData
  F_has_outcomes : Fun K "has_outcomes" "has_outcomes" s_has_outcomes f_has_outcomes d_has_outcomes
  g_has_outcomes : mg "has_outcomes" = some (.ref f_has_outcomes)
  b_has_outcomes : Binds K d_has_outcomes ["outcomes"] []
  f_width_at : Addr
  d_width_at : FuncData
  F_width_at : Fun K "width_at" "width_at" s_width_at f_width_at d_width_at
  g_width_at : mg "width_at" = some (.ref f_width_at)
  b_width_at : Binds K d_width_at ["widths", "place"] []
  f_terms_behind : Addr
  d_terms_behind : FuncData
  F_terms_behind : Fun K "terms_behind" "terms_behind" s_terms_behind f_terms_behind d_terms_behind
  g_terms_behind : mg "terms_behind" = some (.ref f_terms_behind)
  b_terms_behind : Binds K d_terms_behind ["term"] []
  f_are_widths : Addr
  d_are_widths : FuncData
  F_are_widths : Fun K "are_widths" "are_widths" s_are_widths f_are_widths d_are_widths
  g_are_widths : mg "are_widths" = some (.ref f_are_widths)
  b_are_widths : Binds K d_are_widths ["widths"] []
  f_require_form : Addr
  d_require_form : FuncData
  F_require_form : Fun K "require_form" "require_form" s_require_form f_require_form d_require_form
  g_require_form : mg "require_form" = some (.ref f_require_form)
  b_require_form : Binds K d_require_form ["widths", "outcomes"] []
  f_has_query_form : Addr
  d_has_query_form : FuncData
  F_has_query_form : Fun K "has_query_form" "has_query_form" s_has_query_form f_has_query_form d_has_query_form
  g_has_query_form : mg "has_query_form" = some (.ref f_has_query_form)
  b_has_query_form : Binds K d_has_query_form ["term", "widths", "level"] []
  f_wrong_query : Addr
  d_wrong_query : FuncData
  F_wrong_query : Fun K "wrong_query" "wrong_query" s_wrong_query f_wrong_query d_wrong_query
  g_wrong_query : mg "wrong_query" = some (.ref f_wrong_query)
  b_wrong_query : Binds K d_wrong_query ["term", "widths", "outcomes", "level"] []
  f_places_of : Addr
  d_places_of : FuncData
  F_places_of : Fun K "places_of" "places_of" s_places_of f_places_of d_places_of
  g_places_of : mg "places_of" = some (.ref f_places_of)
  b_places_of : Binds K d_places_of ["term"] []
  f_require_few : Addr
  d_require_few : FuncData
  F_require_few : Fun K "require_few" "require_few" s_require_few f_require_few d_require_few
  g_require_few : mg "require_few" = some (.ref f_require_few)
  b_require_few : Binds K d_require_few ["places", "widths"] []
  f_followed : Addr
  d_followed : FuncData
  F_followed : Fun K "followed" "followed" s_followed f_followed d_followed
  g_followed : mg "followed" = some (.ref f_followed)
  b_followed : Binds K d_followed ["query", "row"] []
  f_wrong_numbers : Addr
  d_wrong_numbers : FuncData
  F_wrong_numbers : Fun K "wrong_numbers" "wrong_numbers" s_wrong_numbers f_wrong_numbers d_wrong_numbers
  g_wrong_numbers : mg "wrong_numbers" = some (.ref f_wrong_numbers)
  b_wrong_numbers : Binds K d_wrong_numbers ["item", "length", "limit"] []
  f_fixed_term : Addr
  d_fixed_term : FuncData
  F_fixed_term : Fun K "fixed_term" "fixed_term" s_fixed_term f_fixed_term d_fixed_term
  g_fixed_term : mg "fixed_term" = some (.ref f_fixed_term)
  b_fixed_term : Binds K d_fixed_term ["term", "place", "option"] []
  f_lowered_term : Addr
  d_lowered_term : FuncData
  F_lowered_term : Fun K "lowered_term" "lowered_term" s_lowered_term f_lowered_term d_lowered_term
  g_lowered_term : mg "lowered_term" = some (.ref f_lowered_term)
  b_lowered_term : Binds K d_lowered_term ["term"] []
  f_term_with_tells : Addr
  d_term_with_tells : FuncData
  F_term_with_tells : Fun K "term_with_tells" "term_with_tells" s_term_with_tells f_term_with_tells d_term_with_tells
  g_term_with_tells : mg "term_with_tells" = some (.ref f_term_with_tells)
  b_term_with_tells : Binds K d_term_with_tells ["term", "terms"] []
  f_term_with_outcomes : Addr
  d_term_with_outcomes : FuncData
  F_term_with_outcomes : Fun K "term_with_outcomes" "term_with_outcomes" s_term_with_outcomes f_term_with_outcomes d_term_with_outcomes
  g_term_with_outcomes : mg "term_with_outcomes" = some (.ref f_term_with_outcomes)
  b_term_with_outcomes : Binds K d_term_with_outcomes ["term", "outcomes"] []
  f_require_same_widths : Addr
  d_require_same_widths : FuncData
  F_require_same_widths : Fun K "require_same_widths" "require_same_widths" s_require_same_widths f_require_same_widths d_require_same_widths
  g_require_same_widths : mg "require_same_widths" = some (.ref f_require_same_widths)
  b_require_same_widths : Binds K d_require_same_widths ["first", "second"] []
  f_require_two_outcomes : Addr
  d_require_two_outcomes : FuncData
  F_require_two_outcomes : Fun K "require_two_outcomes" "require_two_outcomes" s_require_two_outcomes f_require_two_outcomes d_require_two_outcomes
  g_require_two_outcomes : mg "require_two_outcomes" = some (.ref f_require_two_outcomes)
  b_require_two_outcomes : Binds K d_require_two_outcomes ["query"] []
  f_require_combined : Addr
  d_require_combined : FuncData
  F_require_combined : Fun K "require_combined" "require_combined" s_require_combined f_require_combined d_require_combined
  g_require_combined : mg "require_combined" = some (.ref f_require_combined)
  b_require_combined : Binds K d_require_combined ["first", "second"] []
  f_Query___init__ : Addr
  d_Query___init__ : FuncData
  F_Query___init__ : Fun K "__init__" "Query.__init__" s_Query___init__ f_Query___init__ d_Query___init__
  b_Query___init__ : Binds K d_Query___init__ ["self", "term", "widths", "outcomes"] []
  f_Query___call__ : Addr
  d_Query___call__ : FuncData
  F_Query___call__ : Fun K "__call__" "Query.__call__" s_Query___call__ f_Query___call__ d_Query___call__
  b_Query___call__ : Binds K d_Query___call__ ["self", "row"] []
  f_Query___invert__ : Addr
  d_Query___invert__ : FuncData
  F_Query___invert__ : Fun K "__invert__" "Query.__invert__" s_Query___invert__ f_Query___invert__ d_Query___invert__
  b_Query___invert__ : Binds K d_Query___invert__ ["self"] []
  f_Query___and__ : Addr
  d_Query___and__ : FuncData
  F_Query___and__ : Fun K "__and__" "Query.__and__" s_Query___and__ f_Query___and__ d_Query___and__
  b_Query___and__ : Binds K d_Query___and__ ["self", "other"] []
  f_Query___or__ : Addr
  d_Query___or__ : FuncData
  F_Query___or__ : Fun K "__or__" "Query.__or__" s_Query___or__ f_Query___or__ d_Query___or__
  b_Query___or__ : Binds K d_Query___or__ ["self", "other"] []
  f_Query___xor__ : Addr
  d_Query___xor__ : FuncData
  F_Query___xor__ : Fun K "__xor__" "Query.__xor__" s_Query___xor__ f_Query___xor__ d_Query___xor__
  b_Query___xor__ : Binds K d_Query___xor__ ["self", "other"] []
  f_fix_place : Addr
  d_fix_place : FuncData
  F_fix_place : Fun K "fix_place" "fix_place" s_fix_place f_fix_place d_fix_place
  g_fix_place : mg "fix_place" = some (.ref f_fix_place)
  b_fix_place : Binds K d_fix_place ["query", "place", "option"] []
  f_query_tail : Addr
  d_query_tail : FuncData
  F_query_tail : Fun K "query_tail" "query_tail" s_query_tail f_query_tail d_query_tail
  g_query_tail : mg "query_tail" = some (.ref f_query_tail)
  b_query_tail : Binds K d_query_tail ["query", "option"] []
  f_join_queries : Addr
  d_join_queries : FuncData
  F_join_queries : Fun K "join_queries" "join_queries" s_join_queries f_join_queries d_join_queries
  g_join_queries : mg "join_queries" = some (.ref f_join_queries)
  b_join_queries : Binds K d_join_queries ["first", "second", "table", "outcomes"] []
  f_shortest_cycle : Addr
  d_shortest_cycle : FuncData
  F_shortest_cycle : Fun K "shortest_cycle" "shortest_cycle" s_shortest_cycle f_shortest_cycle d_shortest_cycle
  g_shortest_cycle : mg "shortest_cycle" = some (.ref f_shortest_cycle)
  b_shortest_cycle : Binds K d_shortest_cycle ["cycle"] []
  f_turned_cycle : Addr
  d_turned_cycle : FuncData
  F_turned_cycle : Fun K "turned_cycle" "turned_cycle" s_turned_cycle f_turned_cycle d_turned_cycle
  g_turned_cycle : mg "turned_cycle" = some (.ref f_turned_cycle)
  b_turned_cycle : Binds K d_turned_cycle ["cycle", "count"] []
  f_count_spare : Addr
  d_count_spare : FuncData
  F_count_spare : Fun K "count_spare" "count_spare" s_count_spare f_count_spare d_count_spare
  g_count_spare : mg "count_spare" = some (.ref f_count_spare)
  b_count_spare : Binds K d_count_spare ["head", "cycle"] []
  a_Row___init__ : Addr
  q_Row___init__ : SqTw K a_Row___init__ (([0] : List Int).map V.int)
  f_Row___init__ : Addr
  d_Row___init__ : FuncData
  F_Row___init__ : FunD K "__init__" "Row.__init__" (defArgs s_Row___init__) (defBody s_Row___init__) (defScope s_Row___init__) [V.ref a_Row___init__] [] f_Row___init__ d_Row___init__
  b_Row___init__ : Binds K d_Row___init__ ["self", "head", "cycle"] []
  bd_Row___init__ : ∃ us, Vals [V.ref a_Row___init__] us ∧ Binds K d_Row___init__ ["self", "head", "cycle"] us
  f_Row___getitem__ : Addr
  d_Row___getitem__ : FuncData
  F_Row___getitem__ : Fun K "__getitem__" "Row.__getitem__" s_Row___getitem__ f_Row___getitem__ d_Row___getitem__
  b_Row___getitem__ : Binds K d_Row___getitem__ ["self", "at"] []
  f_Row_least : Addr
  d_Row_least : FuncData
  F_Row_least : Fun K "least" "Row.least" s_Row_least f_Row_least d_Row_least
  b_Row_least : Binds K d_Row_least ["self"] []
  f_Row_after : Addr
  d_Row_after : FuncData
  F_Row_after : Fun K "after" "Row.after" s_Row_after f_Row_after d_Row_after
  b_Row_after : Binds K d_Row_after ["self", "count"] []
  f__law_start : Addr
  d__law_start : FuncData
  F__law_start : Fun K "_law_start" "_law_start" s__law_start f__law_start d__law_start
  g__law_start : mg "_law_start" = some (.ref f__law_start)
  b__law_start : Binds K d__law_start ["_law_script"] []
  f__law_pick : Addr
  d__law_pick : FuncData
  F__law_pick : Fun K "_law_pick" "_law_pick" s__law_pick f__law_pick d__law_pick
  g__law_pick : mg "_law_pick" = some (.ref f__law_pick)
  b__law_pick : Binds K d__law_pick ["_law_state", "_law_limit"] []
  f__law_same : Addr
  d__law_same : FuncData
  F__law_same : Fun K "_law_same" "_law_same" s__law_same f__law_same d__law_same
  g__law_same : mg "_law_same" = some (.ref f__law_same)
  b__law_same : Binds K d__law_same ["_law_actual", "_law_due_here"] []
  f__law_width : Addr
  d__law_width : FuncData
  F__law_width : Fun K "_law_width" "_law_width" s__law_width f__law_width d__law_width
  g__law_width : mg "_law_width" = some (.ref f__law_width)
  b__law_width : Binds K d__law_width ["_law_widths_here", "_law_place"] []
  f__law_widths : Addr
  d__law_widths : FuncData
  F__law_widths : Fun K "_law_widths" "_law_widths" s__law_widths f__law_widths d__law_widths
  g__law_widths : mg "_law_widths" = some (.ref f__law_widths)
  b__law_widths : Binds K d__law_widths ["_law_state"] []
  f__law_look_places : Addr
  d__law_look_places : FuncData
  F__law_look_places : Fun K "_law_look_places" "_law_look_places" s__law_look_places f__law_look_places d__law_look_places
  g__law_look_places : mg "_law_look_places" = some (.ref f__law_look_places)
  b__law_look_places : Binds K d__law_look_places ["_law_state", "_law_widths_here", "_law_count", "_law_most"] []
  f__law_query_term : Addr
  d__law_query_term : FuncData
  F__law_query_term : Fun K "_law_query_term" "_law_query_term" s__law_query_term f__law_query_term d__law_query_term
  g__law_query_term : mg "_law_query_term" = some (.ref f__law_query_term)
  b__law_query_term : Binds K d__law_query_term ["_law_state", "_law_size", "_law_places", "_law_levels"] []
  f__law_endless : Addr
  d__law_endless : FuncData
  F__law_endless : Fun K "_law_endless" "_law_endless" s__law_endless f__law_endless d__law_endless
  g__law_endless : mg "_law_endless" = some (.ref f__law_endless)
  b__law_endless : Binds K d__law_endless ["_law_state", "_law_widths_here"] []
  f__law_endless_entry : Addr
  d__law_endless_entry : FuncData
  F__law_endless_entry : Fun K "_law_endless_entry" "_law_endless_entry" s__law_endless_entry f__law_endless_entry d__law_endless_entry
  g__law_endless_entry : mg "_law_endless_entry" = some (.ref f__law_endless_entry)
  b__law_endless_entry : Binds K d__law_endless_entry ["_law_row", "_law_place"] []
  f__law_small_term : Addr
  d__law_small_term : FuncData
  F__law_small_term : Fun K "_law_small_term" "_law_small_term" s__law_small_term f__law_small_term d__law_small_term
  g__law_small_term : mg "_law_small_term" = some (.ref f__law_small_term)
  b__law_small_term : Binds K d__law_small_term ["_law_state", "_law_size", "_law_places"] []
  f__law_chain : Addr
  d__law_chain : FuncData
  F__law_chain : Fun K "_law_chain" "_law_chain" s__law_chain f__law_chain d__law_chain
  g__law_chain : mg "_law_chain" = some (.ref f__law_chain)
  b__law_chain : Binds K d__law_chain ["_law_state", "_law_size", "_law_places", "_law_levels"] []
  f__law_replaced : Addr
  d__law_replaced : FuncData
  F__law_replaced : Fun K "_law_replaced" "_law_replaced" s__law_replaced f__law_replaced d__law_replaced
  g__law_replaced : mg "_law_replaced" = some (.ref f__law_replaced)
  b__law_replaced : Binds K d__law_replaced ["_law_term", "_law_terms_here"] []
  f__law_without : Addr
  d__law_without : FuncData
  F__law_without : Fun K "_law_without" "_law_without" s__law_without f__law_without d__law_without
  g__law_without : mg "_law_without" = some (.ref f__law_without)
  b__law_without : Binds K d__law_without ["_law_term", "_law_place", "_law_option"] []
  f__law_lowered : Addr
  d__law_lowered : FuncData
  F__law_lowered : Fun K "_law_lowered" "_law_lowered" s__law_lowered f__law_lowered d__law_lowered
  g__law_lowered : mg "_law_lowered" = some (.ref f__law_lowered)
  b__law_lowered : Binds K d__law_lowered ["_law_term"] []
  f__law_walk : Addr
  d__law_walk : FuncData
  F__law_walk : Fun K "_law_walk" "_law_walk" s__law_walk f__law_walk d__law_walk
  g__law_walk : mg "_law_walk" = some (.ref f__law_walk)
  b__law_walk : Binds K d__law_walk ["_law_term", "_law_row"] []
  f__law_too_deep : Addr
  d__law_too_deep : FuncData
  F__law_too_deep : Fun K "_law_too_deep" "_law_too_deep" s__law_too_deep f__law_too_deep d__law_too_deep
  g__law_too_deep : mg "_law_too_deep" = some (.ref f__law_too_deep)
  b__law_too_deep : Binds K d__law_too_deep ["_law_term", "_law_path"] []
  f__law_looks : Addr
  d__law_looks : FuncData
  F__law_looks : Fun K "_law_looks" "_law_looks" s__law_looks f__law_looks d__law_looks
  g__law_looks : mg "_law_looks" = some (.ref f__law_looks)
  b__law_looks : Binds K d__law_looks ["_law_term"] []
  f__law_named : Addr
  d__law_named : FuncData
  F__law_named : Fun K "_law_named" "_law_named" s__law_named f__law_named d__law_named
  g__law_named : mg "_law_named" = some (.ref f__law_named)
  b__law_named : Binds K d__law_named ["_law_term", "_law_places"] []
  f__law_due : Addr
  d__law_due : FuncData
  F__law_due : Fun K "_law_due" "_law_due" s__law_due f__law_due d__law_due
  g__law_due : mg "_law_due" = some (.ref f__law_due)
  b__law_due : Binds K d__law_due ["_law_term", "_law_widths_here", "_law_outcomes"] []
  f__law_apply : Addr
  d__law_apply : FuncData
  F__law_apply : Fun K "_law_apply" "_law_apply" s__law_apply f__law_apply d__law_apply
  g__law_apply : mg "_law_apply" = some (.ref f__law_apply)
  b__law_apply : Binds K d__law_apply ["_law_how", "_law_first", "_law_second", "_law_one", "_law_other"] []
  f__law_made : Addr
  d__law_made : FuncData
  F__law_made : Fun K "_law_made" "_law_made" s__law_made f__law_made d__law_made
  g__law_made : mg "_law_made" = some (.ref f__law_made)
  b__law_made : Binds K d__law_made ["_law_how", "_law_first", "_law_second", "_law_one", "_law_other"] []
  f__law_terms : Addr
  d__law_terms : FuncData
  F__law_terms : Fun K "_law_terms" "_law_terms" s__law_terms f__law_terms d__law_terms
  g__law_terms : mg "_law_terms" = some (.ref f__law_terms)
  b__law_terms : Binds K d__law_terms ["_law_first", "_law_second", "_law_table_here"] []
  f__law_together : Addr
  d__law_together : FuncData
  F__law_together : Fun K "_law_together" "_law_together" s__law_together f__law_together d__law_together
  g__law_together : mg "_law_together" = some (.ref f__law_together)
  b__law_together : Binds K d__law_together ["_law_how", "_law_r", "_law_s", "_law_table_here"] []
  f__law_table : Addr
  d__law_table : FuncData
  F__law_table : Fun K "_law_table" "_law_table" s__law_table f__law_table d__law_table
  g__law_table : mg "_law_table" = some (.ref f__law_table)
  b__law_table : Binds K d__law_table ["_law_state", "_law_rows", "_law_columns", "_law_outcomes"] []
  f__law_combines : Addr
  d__law_combines : FuncData
  F__law_combines : Fun K "_law_combines" "_law_combines" s__law_combines f__law_combines d__law_combines
  g__law_combines : mg "_law_combines" = some (.ref f__law_combines)
  b__law_combines : Binds K d__law_combines ["_law_state", "_law_widths_here", "_law_terms_here", "_law_table_here", "_law_outcomes"] []
  f__law_joins : Addr
  d__law_joins : FuncData
  F__law_joins : Fun K "_law_joins" "_law_joins" s__law_joins f__law_joins d__law_joins
  g__law_joins : mg "_law_joins" = some (.ref f__law_joins)
  b__law_joins : Binds K d__law_joins ["_law_state", "_law_widths_here", "_law_places", "_law_outcomes"] []
  f__law_fixes : Addr
  d__law_fixes : FuncData
  F__law_fixes : Fun K "_law_fixes" "_law_fixes" s__law_fixes f__law_fixes d__law_fixes
  g__law_fixes : mg "_law_fixes" = some (.ref f__law_fixes)
  b__law_fixes : Binds K d__law_fixes ["_law_state", "_law_query", "_law_term", "_law_widths_here", "_law_k"] []
  f__law_tails : Addr
  d__law_tails : FuncData
  F__law_tails : Fun K "_law_tails" "_law_tails" s__law_tails f__law_tails d__law_tails
  g__law_tails : mg "_law_tails" = some (.ref f__law_tails)
  b__law_tails : Binds K d__law_tails ["_law_state", "_law_query", "_law_term", "_law_widths_here", "_law_k"] []
  f_law : Addr
  d_law : FuncData
  F_law : Fun K "law" "law" s_law f_law d_law
  g_law : mg "law" = some (.ref f_law)
  b_law : Binds K d_law ["_law_script"] []
  z_isinstance : mg "isinstance" = none
  z_int : mg "int" = none
  z_bool : mg "bool" = none
  z_all : mg "all" = none
  z_str : mg "str" = none
  z_len : mg "len" = none
  z_enumerate : mg "enumerate" = none
  z_tuple : mg "tuple" = none
  z_sorted : mg "sorted" = none
  z_set : mg "set" = none
  z_range : mg "range" = none
  z_list : mg "list" = none
  z_max : mg "max" = none
  z_min : mg "min" = none
  z_sum : mg "sum" = none
  z_ValueError : mg "ValueError" = none
  g_LETTERS : ∃ t, mg "LETTERS" = some (.str "abcdefghijklmnopqrstuvwxyz" t)
  g_DIGITS : ∃ t, mg "DIGITS" = some (.str "0123456789" t)
  g_LONGEST_WORD : ∃ t, mg "LONGEST_WORD" = some (.int 12 t)
  g_LONGEST_NUMBER : ∃ t, mg "LONGEST_NUMBER" = some (.int 9 t)
  g_NUMBERS_END : ∃ t, mg "NUMBERS_END" = some (.int 1000000000 t)
  g_DEEPEST_TUPLE : ∃ t, mg "DEEPEST_TUPLE" = some (.int 30 t)
  g_MOST_OUTCOMES : ∃ t, mg "MOST_OUTCOMES" = some (.int 4 t)
  g_MOST_WIDTHS : ∃ t, mg "MOST_WIDTHS" = some (.int 6 t)
  g_WIDEST : ∃ t, mg "WIDEST" = some (.int 4 t)
  g_PLACES : ∃ t, mg "PLACES" = some (.int 100 t)
  g_ITEMS_BEFORE : ∃ t, mg "ITEMS_BEFORE" = some (.int 2 t)
  g_TWO_OUTCOMES : ∃ t, mg "TWO_OUTCOMES" = some (.int 2 t)
  c_OutOfRange : Addr
  g_OutOfRange : mg "OutOfRange" = some (.ref c_OutOfRange)
  c_TooLarge : Addr
  g_TooLarge : mg "TooLarge" = some (.ref c_TooLarge)
  c_SizeMismatch : Addr
  g_SizeMismatch : mg "SizeMismatch" = some (.ref c_SizeMismatch)
  c_InvalidQuery : Addr
  g_InvalidQuery : mg "InvalidQuery" = some (.ref c_InvalidQuery)
  c_InvalidTerm : Addr
  g_InvalidTerm : mg "InvalidTerm" = some (.ref c_InvalidTerm)
  c_InvalidAim : Addr
  g_InvalidAim : mg "InvalidAim" = some (.ref c_InvalidAim)
  c_InvalidGame : Addr
  g_InvalidGame : mg "InvalidGame" = some (.ref c_InvalidGame)
  c_ChoosersError : Addr
  g_ChoosersError : mg "ChoosersError" = some (.ref c_ChoosersError)
  fi_InvalidQuery : Addr
  di_InvalidQuery : FuncData
  ox_InvalidQuery : OexC K c_InvalidQuery
  ic_InvalidQuery : PySem.W.findIn K (.ref c_InvalidQuery) "__init__" = some (some (.ref fi_InvalidQuery))
  ti_InvalidQuery : PySem.W.typeIn K (.ref fi_InvalidQuery) = some (.type "function")
  no_InvalidQuery : PySem.W.findIn K (.ref c_InvalidQuery) "path" = some none
  xf_InvalidQuery : XfC K c_InvalidQuery
  ec_InvalidQuery : L2.ExcC K c_InvalidQuery
  in_InvalidQuery : ∀ {w : World} {base : Heap} {cx : CXT}, FnOk P w K mg base cx 1 fi_InvalidQuery di_InvalidQuery ["self", "path"] (spInit K c_InvalidQuery "path" (okPath K))
  bi_InvalidQuery : Binds K di_InvalidQuery ["self", "path"] []
  i_InvalidQuery_InvalidQuery : PySem.W.kitOne K (.ref c_InvalidQuery) (.ref c_InvalidQuery) = some true
  i_InvalidQuery_InvalidTerm : PySem.W.kitOne K (.ref c_InvalidQuery) (.ref c_InvalidTerm) = some true
  i_InvalidQuery_InvalidAim : PySem.W.kitOne K (.ref c_InvalidQuery) (.ref c_InvalidAim) = some false
  i_InvalidQuery_InvalidGame : PySem.W.kitOne K (.ref c_InvalidQuery) (.ref c_InvalidGame) = some false
  i_InvalidQuery_ValueError : PySem.W.kitOne K (.ref c_InvalidQuery) (.type "ValueError") = some true
  i_InvalidQuery_SizeMismatch : PySem.W.kitOne K (.ref c_InvalidQuery) (.ref c_SizeMismatch) = some false
  i_InvalidQuery_OutOfRange : PySem.W.kitOne K (.ref c_InvalidQuery) (.ref c_OutOfRange) = some false
  i_InvalidQuery_TooLarge : PySem.W.kitOne K (.ref c_InvalidQuery) (.ref c_TooLarge) = some false
  m_InvalidQuery_ChoosersError : PySem.W.exmOne K (.ref c_InvalidQuery) (.ref c_ChoosersError) = some true
  x_OutOfRange : PySem.W.excIn K c_OutOfRange [.type "ValueError", .type "Exception", .type "BaseException", .type "object"] "ValueError.__new__" = true
  k_OutOfRange : PySem.W.keepIn K (.ref c_OutOfRange) = true
  e_OutOfRange : PySem.W.subIn K (.ref c_OutOfRange) (.type "BaseException") = some true
  t_OutOfRange : PySem.W.typeIn K (.ref c_OutOfRange) = some (.type "type")
  ec_OutOfRange : L2.ExcC K c_OutOfRange
  i_OutOfRange_InvalidQuery : PySem.W.kitOne K (.ref c_OutOfRange) (.ref c_InvalidQuery) = some false
  i_OutOfRange_InvalidTerm : PySem.W.kitOne K (.ref c_OutOfRange) (.ref c_InvalidTerm) = some false
  i_OutOfRange_InvalidAim : PySem.W.kitOne K (.ref c_OutOfRange) (.ref c_InvalidAim) = some false
  i_OutOfRange_InvalidGame : PySem.W.kitOne K (.ref c_OutOfRange) (.ref c_InvalidGame) = some false
  i_OutOfRange_ValueError : PySem.W.kitOne K (.ref c_OutOfRange) (.type "ValueError") = some true
  i_OutOfRange_SizeMismatch : PySem.W.kitOne K (.ref c_OutOfRange) (.ref c_SizeMismatch) = some false
  i_OutOfRange_OutOfRange : PySem.W.kitOne K (.ref c_OutOfRange) (.ref c_OutOfRange) = some true
  i_OutOfRange_TooLarge : PySem.W.kitOne K (.ref c_OutOfRange) (.ref c_TooLarge) = some false
  m_OutOfRange_ChoosersError : PySem.W.exmOne K (.ref c_OutOfRange) (.ref c_ChoosersError) = some true
  x_TooLarge : PySem.W.excIn K c_TooLarge [.type "ValueError", .type "Exception", .type "BaseException", .type "object"] "ValueError.__new__" = true
  k_TooLarge : PySem.W.keepIn K (.ref c_TooLarge) = true
  e_TooLarge : PySem.W.subIn K (.ref c_TooLarge) (.type "BaseException") = some true
  t_TooLarge : PySem.W.typeIn K (.ref c_TooLarge) = some (.type "type")
  ec_TooLarge : L2.ExcC K c_TooLarge
  i_TooLarge_InvalidQuery : PySem.W.kitOne K (.ref c_TooLarge) (.ref c_InvalidQuery) = some false
  i_TooLarge_InvalidTerm : PySem.W.kitOne K (.ref c_TooLarge) (.ref c_InvalidTerm) = some false
  i_TooLarge_InvalidAim : PySem.W.kitOne K (.ref c_TooLarge) (.ref c_InvalidAim) = some false
  i_TooLarge_InvalidGame : PySem.W.kitOne K (.ref c_TooLarge) (.ref c_InvalidGame) = some false
  i_TooLarge_ValueError : PySem.W.kitOne K (.ref c_TooLarge) (.type "ValueError") = some true
  i_TooLarge_SizeMismatch : PySem.W.kitOne K (.ref c_TooLarge) (.ref c_SizeMismatch) = some false
  i_TooLarge_OutOfRange : PySem.W.kitOne K (.ref c_TooLarge) (.ref c_OutOfRange) = some false
  i_TooLarge_TooLarge : PySem.W.kitOne K (.ref c_TooLarge) (.ref c_TooLarge) = some true
  m_TooLarge_ChoosersError : PySem.W.exmOne K (.ref c_TooLarge) (.ref c_ChoosersError) = some true
  x_SizeMismatch : PySem.W.excIn K c_SizeMismatch [.type "ValueError", .type "Exception", .type "BaseException", .type "object"] "ValueError.__new__" = true
  k_SizeMismatch : PySem.W.keepIn K (.ref c_SizeMismatch) = true
  e_SizeMismatch : PySem.W.subIn K (.ref c_SizeMismatch) (.type "BaseException") = some true
  t_SizeMismatch : PySem.W.typeIn K (.ref c_SizeMismatch) = some (.type "type")
  ec_SizeMismatch : L2.ExcC K c_SizeMismatch
  i_SizeMismatch_InvalidQuery : PySem.W.kitOne K (.ref c_SizeMismatch) (.ref c_InvalidQuery) = some false
  i_SizeMismatch_InvalidTerm : PySem.W.kitOne K (.ref c_SizeMismatch) (.ref c_InvalidTerm) = some false
  i_SizeMismatch_InvalidAim : PySem.W.kitOne K (.ref c_SizeMismatch) (.ref c_InvalidAim) = some false
  i_SizeMismatch_InvalidGame : PySem.W.kitOne K (.ref c_SizeMismatch) (.ref c_InvalidGame) = some false
  i_SizeMismatch_ValueError : PySem.W.kitOne K (.ref c_SizeMismatch) (.type "ValueError") = some true
  i_SizeMismatch_SizeMismatch : PySem.W.kitOne K (.ref c_SizeMismatch) (.ref c_SizeMismatch) = some true
  i_SizeMismatch_OutOfRange : PySem.W.kitOne K (.ref c_SizeMismatch) (.ref c_OutOfRange) = some false
  i_SizeMismatch_TooLarge : PySem.W.kitOne K (.ref c_SizeMismatch) (.ref c_TooLarge) = some false
  m_SizeMismatch_ChoosersError : PySem.W.exmOne K (.ref c_SizeMismatch) (.ref c_ChoosersError) = some true
  c_Query : Addr
  g_Query : mg "Query" = some (.ref c_Query)
  mk_Query : Mk K c_Query f_Query___init__
  cls_Query : Cls K c_Query
  sf_Query : PySem.W.selfFirst K c_Query = true
  fn_Query___call__ : PySem.W.fnIn K f_Query___call__ = true
  na_Query_term : NoAttr K c_Query "term"
  na_Query_widths : NoAttr K c_Query "widths"
  na_Query_outcomes : NoAttr K c_Query "outcomes"
  mc_Query : Value
  rd_Query : ClX.CRead K c_Query mc_Query
  cv_Query_MOST_LEVELS : ∃ t, ClX.CVal K c_Query mc_Query "MOST_LEVELS" (.int 20) (.int 20 t)
  cv_Query_MOST_LOOKS : ∃ t, ClX.CVal K c_Query mc_Query "MOST_LOOKS" (.int 300) (.int 300 t)
  cv_Query_MOST_CHOICES : ∃ t, ClX.CVal K c_Query mc_Query "MOST_CHOICES" (.int 256) (.int 256 t)
  me_Query___call__ : Meth K c_Query "__call__" f_Query___call__
  me_Query___invert__ : Meth K c_Query "__invert__" f_Query___invert__
  me_Query___and__ : Meth K c_Query "__and__" f_Query___and__
  me_Query___or__ : Meth K c_Query "__or__" f_Query___or__
  me_Query___xor__ : Meth K c_Query "__xor__" f_Query___xor__
  c_Row : Addr
  g_Row : mg "Row" = some (.ref c_Row)
  mk_Row : Mk K c_Row f_Row___init__
  cls_Row : Cls K c_Row
  fn_Row___getitem__ : PySem.W.fnIn K f_Row___getitem__ = true
  na_Row_head : NoAttr K c_Row "head"
  na_Row_cycle : NoAttr K c_Row "cycle"
  me_Row___getitem__ : Meth K c_Row "__getitem__" f_Row___getitem__
  me_Row_least : Meth K c_Row "least" f_Row_least
  me_Row_after : Meth K c_Row "after" f_Row_after
section
variable {P : Program} {w : World} {K : Fg} {mg : Str → Option Value} {base : Heap}
def c_is_number : Con := fun ds μ Φ _ => ∃ i, ds = [.int i] ∧ Φ (.bl true) μ
theorem len_is_number {ds μ Φ Ψ} (h : c_is_number ds μ Φ Ψ) : ds.length = 1 := by obtain ⟨i, rfl, _⟩ := h; rfl
theorem w_is_number {i μ Φ Ψ} : c_is_number [.int i] μ Φ Ψ = Φ (.bl true) μ := propext ⟨fun ⟨j, e, q⟩ => q, fun q => ⟨i, rfl, q⟩⟩
theorem ok_is_number {cx : CXT} (T : Txt P w K mg) : FnOk P w K mg base cx 1 T.f_is_number T.d_is_number ["value"] (spOf K c_is_number) := by
  refine def_okC T.F_is_number sc_is_number _ (fun ds μ Φ Ψ h => len_is_number h) (fun cdv A outer s H E B hW hr =>
    ⟨_, (pss_one (ps_ret (pe_and (pe_callB call_isi (by rfl) T.z_isinstance (by decide +kernel) (pa_cons (pv 0) (pa_cons (pe_bltn (v := .ty "int") rfl T.z_int (by decide +kernel) rfl) pa_nil))) (pe_one (pe_not (pe_callB call_isi (by rfl) T.z_isinstance (by decide +kernel) (pa_cons (pv 0) (pa_cons (pe_bltn (v := .ty "bool") rfl T.z_bool (by decide +kernel) rfl) pa_nil)))))))),
      (sRet (sAndV (sCB (rcIsi (T := "int")) (sCons sVar (sCons sHd sNil))) (sNotV (sCB (rcIsi (T := "bool")) (sCons sVar (sCons sHd sNil))))))⟩) (fun ds μ Φ Ψ h => ?hv)
  case hv =>
    obtain ⟨i, rfl, h⟩ := h
    walk_at "wps"
    exact ret_same h
def c_is_below : Con := fun ds μ Φ _ => ∃ i m, ds = [.int i, .int m] ∧ Φ (.bl (decide (0 ≤ i ∧ i < m))) μ
theorem len_is_below {ds μ Φ Ψ} (h : c_is_below ds μ Φ Ψ) : ds.length = 2 := by obtain ⟨i, m, rfl, _⟩ := h; rfl
theorem w_is_below {i m μ Φ Ψ} : c_is_below [.int i, .int m] μ Φ Ψ = Φ (.bl (decide (0 ≤ i ∧ i < m))) μ := propext ⟨fun ⟨a, b, e, q⟩ => by cases e; exact q, fun q => ⟨i, m, rfl, q⟩⟩
theorem ok_is_below (T : Txt P w K mg) : FnOk P w K mg base (L2N.CX P w) 2 T.f_is_below T.d_is_below ["value", "limit"] (spOf K c_is_below) := by
  refine def_okC T.F_is_below sc_is_below _ (fun ds μ Φ Ψ h => len_is_below h) (fun cdv A outer s H E B hW hr =>
    have tk : L2N.Takes (cxOf (L2N.CX P w) P w K mg base N_is_below "is_below" (defScope s_is_below) T.f_is_below cdv A outer s H E) (fun cls d _ H => E cls d H) := L2N.takes_of rfl rfl rfl rfl
    ⟨_, (pss_one (ps_ret (pe_and (pe_call (ok_is_number T) hr rfl T.g_is_number T.F_is_number.kp T.b_is_number .nil passN (pa_cons (pv 0) pa_nil)) (pe_one (pe_chain op_le op_lt pe_int (pv 0) (pv 1)))))),
      (sRet (sAndV (sCall (sCons sVar sNil)) (sChain roBl0 roBl0 sInt sVar sVar)))⟩) (fun ds μ Φ Ψ h => ?hv)
  case hv =>
    obtain ⟨i, m, rfl, h⟩ := h
    walk_at "wps"
    simp only [w_is_number]
    walk_at "wps"
    refine ⟨fun h1 => ret_same ?_, fun h1 => ret_same ?_⟩
    · simpa [h1] using h
    · simpa [h1] using h
def c_count_choices : Con := fun ds μ Φ _ => ∃ ws : List Int, ds = [.lst (ws.map .int)] ∧ (∀ i z, ws[i]? = some z → CMulX (prodI (ws.take i)) z) ∧ Φ (.int (prodI ws)) μ
theorem len_count_choices {ds μ Φ Ψ} (h : c_count_choices ds μ Φ Ψ) : ds.length = 1 := by obtain ⟨i, rfl, _⟩ := h; rfl
theorem ok_count_choices {cx : CXT} (T : Txt P w K mg) : FnOk P w K mg base cx 1 T.f_count_choices T.d_count_choices ["widths"] (spOf K c_count_choices) := by
  refine def_okC T.F_count_choices sc_count_choices _ (fun ds μ Φ Ψ h => len_count_choices h) (fun cdv A outer s H E B hW hr =>
    ⟨_, (pss_cons (ps_set (i := 1) sc_count_choices.nd rfl (Or.inl rfl) pe_int)
      (pss_cons (ps_for (passes_of rfl) rfl (pi_list (pv 0)) (pg_name (i := 2) sc_count_choices.nd rfl (Or.inl rfl)) (pss_one (ps_set (i := 1) sc_count_choices.nd rfl (Or.inl rfl) (pe_op op_mulX (pv 1) (pv 2)))))
      (pss_one (ps_ret (pv 1))))),
      (sSeq (sAsg sInt sName)
      (sSeq (sFor (siL sVar) (fun _ _ _ => sName) (fun _ _ _ => (sAsg (sOp roInt sVar sVar) sName)))
      (sRet sVar)))⟩) (fun ds μ Φ Ψ h => ?hv)
  case hv =>
    obtain ⟨ws, rfl, hc, h⟩ := h
    walk_at "wps"
    refine ⟨fun i δ' μ' => μ' = μ ∧ ∃ x, δ' = [some (.lst (ws.map .int)), some (.int (prodI (ws.take i))), x], ⟨rfl, none, rfl⟩, ?_, ?_⟩
    · rintro i d δ' μ' hi ⟨rfl, x, rfl⟩
      obtain ⟨z, hz, rfl⟩ := mapI_get hi
      walk_at "wps"
      exact ⟨hc i z hz, _, by rw [prod_snoc hz]⟩
    · rintro δ' μ' ⟨rfl, x, rfl⟩
      rw [List.take_length]
      walk_at "wps"
      exact ret_same h
def c_has_outcomes : Con := fun ds μ Φ _ => ∃ i : Int, ds = [.int i] ∧ Φ (.bl (decide (1 ≤ i ∧ i ≤ 4))) μ
theorem len_has_outcomes {ds μ Φ Ψ} (h : c_has_outcomes ds μ Φ Ψ) : ds.length = 1 := by obtain ⟨i, rfl, _⟩ := h; rfl
theorem w_has_outcomes {i μ Φ Ψ} : c_has_outcomes [.int i] μ Φ Ψ = Φ (.bl (decide (1 ≤ i ∧ i ≤ 4))) μ := propext ⟨fun ⟨a, e, q⟩ => by cases e; exact q, fun q => ⟨i, rfl, q⟩⟩
theorem ok_has_outcomes {cx : CXT} (T : Txt P w K mg) : FnOk P w K mg base cx 1 T.f_has_outcomes T.d_has_outcomes ["outcomes"] (spOf K c_has_outcomes) := by
  refine def_okC T.F_has_outcomes sc_has_outcomes _ (fun ds μ Φ Ψ h => len_has_outcomes h) (fun cdv A outer s H E B hW hr =>
    ⟨_, (pss_one (ps_ret (pe_chain op_le op_le pe_int (pv 0) (pe_glob (v := .int 4) rfl T.g_MOST_OUTCOMES.choose_spec ⟨_, rfl⟩)))),
      (sRet (sChain roBl0 roBl0 sInt sVar sInt))⟩) (fun ds μ Φ Ψ h => ?hv)
  case hv =>
    obtain ⟨i, rfl, h⟩ := h
    walk_at "wps"
    refine ⟨fun h1 => ret_same ?_, fun h1 => ret_same ?_⟩
    · simpa [h1] using h
    · simpa [h1] using h
def c_width_at : Con := fun ds μ Φ _ => ∃ (ws : List Int) (p : Nat), ds = [.tup (ws.map .int), .int (p : Int)] ∧ WsOk ws ∧ Φ (.int (wd ws p : Int)) μ
theorem len_width_at {ds μ Φ Ψ} (h : c_width_at ds μ Φ Ψ) : ds.length = 2 := by obtain ⟨i, _, rfl, _⟩ := h; rfl
theorem ok_width_at {cx : CXT} (T : Txt P w K mg) : FnOk P w K mg base cx 1 T.f_width_at T.d_width_at ["widths", "place"] (spOf K c_width_at) := by
  refine def_okC T.F_width_at sc_width_at _ (fun ds μ Φ Ψ h => len_width_at h) (fun cdv A outer s H E B hW hr =>
    ⟨_, (pss_one (ps_ret (pe_ix ix_tup (pv 0) (pe_op op_mod (pv 1) (pe_callB call_len_seq (by rfl) T.z_len PySem.boot_len (pa_cons (pv 0) pa_nil))) (fun _ _ => rfl)))),
      (sRet (sOp roIxT sVar (sOp roInt sVar (sCB rcLen (sCons sVar sNil)))))⟩) (fun ds μ Φ Ψ h => ?hv)
  case hv =>
    obtain ⟨ws, p, rfl, hw, h⟩ := h
    have h0 := hw.l0
    obtain ⟨x, hx, e, x1, x2⟩ := hw.at_ p
    walk_at "wps"
    have em : (p : Int) % (ws.length : Int) = ((p % ws.length : Nat) : Int) := rfl
    rw [em]
    refine ⟨by omega, _, atI_nat (v := .int x) (by rw [List.getElem?_map, hx]; rfl), ret_same ?_⟩
    rw [e]; exact h
def c_terms_behind : Con := fun ds μ Φ _ => ∃ xs : List D, ds = [.tup xs] ∧ Φ (.tup (xs.drop 2)) μ
theorem len_terms_behind {ds μ Φ Ψ} (h : c_terms_behind ds μ Φ Ψ) : ds.length = 1 := by obtain ⟨i, rfl, _⟩ := h; rfl
theorem ok_terms_behind {cx : CXT} (T : Txt P w K mg) : FnOk P w K mg base cx 1 T.f_terms_behind T.d_terms_behind ["term"] (spOf K c_terms_behind) := by
  refine def_okC T.F_terms_behind sc_terms_behind _ (fun ds μ Φ Ψ h => len_terms_behind h) (fun cdv A outer s H E B hW hr =>
    ⟨_, (pss_one (ps_ret (pe_slice sl_tupN (pv 0) (po_some (pe_glob (v := .int 2) rfl T.g_ITEMS_BEFORE.choose_spec ⟨_, rfl⟩)) po_none))),
      (sRet (sSlT sVar (sPart sInt) sNoPart))⟩) (fun ds μ Φ Ψ h => ?hv)
  case hv =>
    obtain ⟨xs, rfl, h⟩ := h
    walk_at "wps"
    rw [show (2 : Int) = ((2 : Nat) : Int) from rfl, cut_from]
    exact ret_same h
def c_are_widths : Con := fun ds μ Φ _ => ∃ ws : List Int, ds = [.tup (ws.map .int)] ∧ WsOk ws ∧ Φ (.bl true) μ
theorem len_are_widths {ds μ Φ Ψ} (h : c_are_widths ds μ Φ Ψ) : ds.length = 1 := by obtain ⟨i, rfl, _⟩ := h; rfl
theorem ok_are_widths (T : Txt P w K mg) : FnOk P w K mg base (L2N.CX P w) 2 T.f_are_widths T.d_are_widths ["widths"] (spOf K c_are_widths) := by
  refine def_okC T.F_are_widths sc_are_widths _ (fun ds μ Φ Ψ h => len_are_widths h) (fun cdv A outer s H E B hW hr =>
    have tk : L2N.Takes (cxOf (L2N.CX P w) P w K mg base N_are_widths "are_widths" (defScope s_are_widths) T.f_are_widths cdv A outer s H E) (fun cls d _ H => E cls d H) := L2N.takes_of rfl rfl rfl rfl
    ⟨_, (pss_cons (ps_if (PW.pt (pw_or (pt_not (pt_val (pe_callB call_isi (by rfl) T.z_isinstance (by decide +kernel) (pa_cons (pv 0) (pa_cons (pe_bltn (v := .ty "tuple") rfl T.z_tuple (by decide +kernel) rfl) pa_nil))))) (pw_or1 (pt_not (pt_chain op_le op_le pe_int (pe_callB call_len_seq (by rfl) T.z_len PySem.boot_len (pa_cons (pv 0) pa_nil)) (pe_glob (v := .int 6) rfl T.g_MOST_WIDTHS.choose_spec ⟨_, rfl⟩)))))) (pss_one (ps_ret pe_bl)) pss_nil)
      (pss_one (ps_ret (pe_callB (cr_all rfl) (by rfl) T.z_all (by decide +kernel) (pa_cons (pe_lc (own := [("width", 1)]) rfl sc_are_widths.nd (pi_tup (pv 0)) (blkOk_by (N := N_are_widths) (sc := defScope s_are_widths) (by decide +kernel)) (fun _ _ _ _ _ => (pg_name (i := 1) sc_are_widths.nd rfl (Or.inl rfl))) (fun _ _ _ _ _ => pts_nil) (fun _ _ _ _ _ => (pe_and (pe_call (ok_is_number T) hr rfl T.g_is_number T.F_is_number.kp T.b_is_number .nil passN (pa_cons (pv 1) pa_nil)) (pe_one (pe_chain op_le op_le pe_int (pv 1) (pe_glob (v := .int 4) rfl T.g_WIDEST.choose_spec ⟨_, rfl⟩)))))) pa_nil))))),
      (sSeq (sIfS (sOr (sNot (sB (sCB (rcIsi (T := "tuple")) (sCons sVar (sCons sHd sNil))))) (sNot (sTest (sChain roBl0 roBl0 sInt (sCB rcLen (sCons sVar sNil)) sInt)))) (sRet sBl) sNext)
      (sRet (sCB rcAll (sCons (sLc (siT sVar) (gwName List.mem_cons_self) (fun _ _ _ => sName) (fun _ _ _ => sYes) (fun _ _ _ => (sAndV (sCall (sCons sVar sNil)) (sChain roBl0 roBl0 sInt sVar sInt)))) sNil))))⟩) (fun ds μ Φ Ψ h => ?hv)
  case hv =>
    obtain ⟨ws, rfl, hw, h⟩ := h
    have h0 := hw.l0
    have h1 := hw.l1
    walk_at "wps"
    refine ⟨fun _ => ⟨fun q => ?_, fun _ => ?_⟩, fun q => absurd q (by omega)⟩
    · rw [decide_eq_true (by omega)] at q; cases q
    · refine lcZ (fun x => .bl (decide (1 ≤ x ∧ x ≤ 4))) (by omega) (fun x μ2 X hx hsub hk => ?_) ?_
      · have := hw.w x hx
        walk_at "wps"
        simp only [w_is_number]
        walk_at "wps"
        refine ⟨fun c1 => ?_, fun c1 => absurd this.1 c1⟩
        simpa [c1] using hk
      · have e : ws.map (fun x => D.bl (decide (1 ≤ x ∧ x ≤ 4))) = (ws.map fun x => decide (1 ≤ x ∧ x ≤ 4)).map D.bl := by rw [List.map_map]; rfl
        rw [e, w_all]
        refine ret_same ?_
        have e2 : (ws.map fun x => decide (1 ≤ x ∧ x ≤ 4)).all id = true := by
          rw [List.all_map, List.all_eq_true]
          exact fun x hx => decide_eq_true (hw.w x hx)
        rw [e2]; exact h
def c_require_form : Con := fun ds μ Φ _ => ∃ (ws : List Int) (oc : Nat), ds = [.tup (ws.map .int), .int (oc : Int)] ∧ WsOk ws ∧ 1 ≤ oc ∧ oc ≤ 4 ∧ Φ .non μ
theorem len_require_form {ds μ Φ Ψ} (h : c_require_form ds μ Φ Ψ) : ds.length = 2 := by obtain ⟨i, _, rfl, _⟩ := h; rfl
theorem ok_require_form (T : Txt P w K mg) : FnOk P w K mg base (L2N.CX P w) 3 T.f_require_form T.d_require_form ["widths", "outcomes"] (spOf K c_require_form) := by
  refine def_okC T.F_require_form sc_require_form _ (fun ds μ Φ Ψ h => len_require_form h) (fun cdv A outer s H E B hW hr =>
    have tk : L2N.Takes (cxOf (L2N.CX P w) P w K mg base N_require_form "require_form" (defScope s_require_form) T.f_require_form cdv A outer s H E) (fun cls d _ H => E cls d H) := L2N.takes_of rfl rfl rfl rfl
    ⟨_, (pss_one (ps_if (PW.pt (pw_or (pt_not (pt_val (pe_call (ok_has_outcomes T) (hr.mono (by decide)) rfl T.g_has_outcomes T.F_has_outcomes.kp T.b_has_outcomes .nil passN (pa_cons (pv 1) pa_nil)))) (pw_or1 (pt_not (pt_val (pe_call (ok_are_widths T) hr rfl T.g_are_widths T.F_are_widths.kp T.b_are_widths .nil passN (pa_cons (pv 0) pa_nil))))))) (pss_one (L2N.ps_raise rfl tk (L2N.pmk_own PySem.F.excBase_ValueError T.x_OutOfRange T.g_OutOfRange T.k_OutOfRange (raises_own T.e_OutOfRange T.t_OutOfRange) rfl))) pss_nil)),
      (sIfS (sOr (sNot (sB (sCall (sCons sVar sNil)))) (sNot (sB (sCall (sCons sVar sNil))))) (sRaise0W (W := fun cls d _ H => E cls d H) (C := T.c_OutOfRange) (by exact hW)) sNext)⟩) (fun ds μ Φ Ψ h => ?hv)
  case hv =>
    obtain ⟨ws, oc, rfl, hw, o1, o2, h⟩ := h
    walk_at "wps"
    simp only [w_has_outcomes]
    walk_at "wps"
    rw [decide_eq_true (show 1 ≤ (oc : Int) ∧ (oc : Int) ≤ 4 by omega)]
    walk_at "wps"
    refine ⟨ws, rfl, hw, ?_⟩
    walk_at "wps"
    exact ret_same h
def pN : Option (List Nat) → D
  | none => .non
  | some p => .tup (nI p)
def c_has_query_form : Con := fun ds μ Φ _ => ∃ (ws : List Int) (oc lv : Nat) (t : QT), ds = [qD t, .tup (ws.map .int), .int (lv : Int)] ∧ WsOk ws ∧ QOk ws oc t ∧ Φ (.bl (match t with | .tell _ => true | .look _ _ => decide (lv < 20))) μ
theorem len_has_query_form {ds μ Φ Ψ} (h : c_has_query_form ds μ Φ Ψ) : ds.length = 3 := by obtain ⟨i, _, _, _, rfl, _⟩ := h; rfl
theorem ok_has_query_form (T : Txt P w K mg) : FnOk P w K mg base (L2N.CX P w) 3 T.f_has_query_form T.d_has_query_form ["term", "widths", "level"] (spOf K c_has_query_form) := by
  refine def_okC T.F_has_query_form sc_has_query_form _ (fun ds μ Φ Ψ h => len_has_query_form h) (fun cdv A outer s H E B hW hr =>
    have tk : L2N.Takes (cxOf (L2N.CX P w) P w K mg base N_has_query_form "has_query_form" (defScope s_has_query_form) T.f_has_query_form cdv A outer s H E) (fun cls d _ H => E cls d H) := L2N.takes_of rfl rfl rfl rfl
    ⟨_, (pss_cons (ps_if (PW.pt (pw_or (pt_not (pt_val (pe_callB call_isi (by rfl) T.z_isinstance (by decide +kernel) (pa_cons (pv 0) (pa_cons (pe_bltn (v := .ty "tuple") rfl T.z_tuple (by decide +kernel) rfl) pa_nil))))) (pw_or1 (pt_cmpR op_eq (pe_callB call_len_seq (by rfl) T.z_len PySem.boot_len (pa_cons (pv 0) pa_nil)) pe_int (nomark _))))) (pss_one (ps_ret pe_bl)) pss_nil)
      (pss_cons (ps_if (pt_cmpR op_eq (pe_ix ix_tup (pv 0) pe_int (fun _ _ => rfl)) pe_str (nomark _)) (pss_one (ps_ret (pe_cmpR op_eq (pe_callB call_len_seq (by rfl) T.z_len PySem.boot_len (pa_cons (pv 0) pa_nil)) pe_int (nomark _)))) pss_nil)
      (pss_cons (ps_if (PW.pt (pw_or (pt_cmpR op_ne (pe_ix ix_tup (pv 0) pe_int (fun _ _ => rfl)) pe_str (nomark _)) (pw_or (pt_cmpR op_le (pe_callB call_len_seq (by rfl) T.z_len PySem.boot_len (pa_cons (pv 0) pa_nil)) (pe_glob (v := .int 2) rfl T.g_ITEMS_BEFORE.choose_spec ⟨_, rfl⟩) (nomark _)) (pw_or1 (pt_cmpR op_ge (pv 2) (ClX.pe_cval (pe_glob (v := .ref T.c_Query) rfl T.g_Query rfl)) (nomark _)))))) (pss_one (ps_ret pe_bl)) pss_nil)
      (pss_one (ps_ret (pe_or (pe_not (pe_call (ok_is_below T) hr rfl T.g_is_below T.F_is_below.kp T.b_is_below .nil passN (pa_cons (pe_ix ix_tup (pv 0) pe_int (fun _ _ => rfl)) (pa_cons (pe_glob (v := .int 100) rfl T.g_PLACES.choose_spec ⟨_, rfl⟩) pa_nil)))) (pe_one (pe_cmpR op_eq (pe_callB call_len_seq (by rfl) T.z_len PySem.boot_len (pa_cons (pe_call (ok_terms_behind T) (hr.mono (by decide)) rfl T.g_terms_behind T.F_terms_behind.kp T.b_terms_behind .nil passN (pa_cons (pv 0) pa_nil)) pa_nil)) (pe_call (ok_width_at T) (hr.mono (by decide)) rfl T.g_width_at T.F_width_at.kp T.b_width_at .nil passN (pa_cons (pv 1) (pa_cons (pe_ix ix_tup (pv 0) pe_int (fun _ _ => rfl)) pa_nil))) (nomark _))))))))),
      (sSeq (sIfS (sOr (sNot (sB (sCB (rcIsi (T := "tuple")) (sCons sVar (sCons sHd sNil))))) (sTest (sOp roEq (sCB rcLen (sCons sVar sNil)) sInt))) (sRet sBl) sNext)
      (sSeq (sIfS (sTest (sOp roEq (sOp roIxT sVar sInt) sStr)) (sRet (sOp roEq (sCB rcLen (sCons sVar sNil)) sInt)) sNext)
      (sSeq (sIfS (sOr (sTest (sOp roNe (sOp roIxT sVar sInt) sStr)) (sOr (sTest (sOp roBl0 (sCB rcLen (sCons sVar sNil)) sInt)) (sTest (sOp roBl0 sVar (sCVal (n := 20) T.rd_Query T.cv_Query_MOST_LEVELS sHd))))) (sRet sBl) sNext)
      (sRet (sOrV (sNotV (sCall (sCons (sOp roIxT sVar sInt) (sCons sInt sNil)))) (sOp roEq (sCB rcLen (sCons (sCall (sCons sVar sNil)) sNil)) (sCall (sCons sVar (sCons (sOp roIxT sVar sInt) sNil)))))))))⟩) (fun ds μ Φ Ψ h => ?hv)
  case hv =>
    obtain ⟨ws, oc, lv, t, rfl, hw, ht, h⟩ := h
    cases t with
    | tell o =>
      rw [qD]
      refine seq_cut fun M hM => ?_
      walk_at "wp"
      refine ⟨fun q => absurd q (by omega), fun _ => ?_⟩
      rw [hM]; clear hM M
      refine seq_cut fun M hM => ?_
      walk_at "wp"
      exact ⟨ret_same h, fun z => absurd trivial z⟩
    | look p ts =>
      obtain ⟨hp, hlen, hts⟩ := ht
      have hw1 := hw.wd1 p
      have e1 : (qDs ts).length = ts.length := qDs_len ts
      rw [qD]
      refine seq_cut fun M hM => ?_
      walk_at "wp"
      refine ⟨fun q => absurd q (by omega), fun _ => ?_⟩
      rw [hM]; clear hM M
      refine seq_cut fun M hM => ?_
      walk_at "wp"
      refine ⟨fun q => absurd q (by decide), fun _ => ?_⟩
      rw [hM]; clear hM M
      refine seq_cut fun M hM => ?_
      walk_at "wp"
      refine ⟨fun q => absurd q (by decide), fun _ => ⟨fun q => absurd q (by omega), fun _ => ⟨fun q => ret_same ?_, fun q => ?_⟩⟩⟩
      · rw [decide_eq_false (by omega)] at h; exact h
      rw [hM]; clear hM M
      walk_at "wps"
      simp only [w_is_below]
      walk_at "wps"
      rw [decide_eq_true (show 0 ≤ (p : Int) ∧ (p : Int) < 100 by omega)]
      walk_at "wps"
      refine ⟨_, rfl, _, .tup _, ws, p, rfl, hw, ?_⟩
      walk_at "wps"
      rw [List.drop_succ_cons, List.drop_succ_cons, List.drop_zero, e1, hlen, decide_eq_true rfl]
      rw [decide_eq_true (by omega)] at h
      exact ret_same h
end
end LW
set_option Elab.async false
set_option linter.all false
set_option maxRecDepth 100000
namespace HX
open PySem PySem.Spec PyProof.Rows L2 DW
abbrev FnI := Option (Str × Str × Arguments × FuncBody × Scope × Addr × List Str × Addr)
def fnI (K : PySem.W.Frag) (a : Addr) : FnI :=
  match List.lookup a K with
  | some ⟨_, _, .func fd, _⟩ => some (fd.name, fd.qualname, fd.params, fd.body, fd.scope, fd.globals, fd.closure.map (·.1), fd.builtins)
  | _ => none
def vI (x q : Str) (st : Stmt) (cl : List Str) : FnI := some (x, q, defArgs st, .stmts (defBody st), defScope st, mainGlobals, cl, builtinsNs)
theorem fn_at {K : PySem.W.Frag} {ats : List (PySem.W.Frag → Addr)} {vals : List FnI} (h : (ats.map fun f => fnI K (f K)) = vals) (i : Nat) {f : PySem.W.Frag → Addr} {v : FnI} (h1 : ats[i]? = some f := by rfl) (h2 : vals[i]? = some v := by rfl) : fnI K (f K) = v := by
  have : (ats.map fun f => fnI K (f K))[i]? = some (fnI K (f K)) := by rw [List.getElem?_map, h1]; rfl
  rw [h, h2] at this
  exact (Option.some.inj this).symm
/-- a def without a cell -/
def fnB (K : PySem.W.Frag) (a : Addr) (q : Str) (dvs : List V) : Bool :=
  PySem.W.keepIn K (.ref a) &&
    match List.lookup a K with
    | some ⟨_, _, .func fd, _⟩ => PySem.W.codeIn K fd.code q && He.dflB K fd.defaults dvs
    | _ => false
theorem funD_of {K : PySem.W.Frag} {a : Addr} {x q : Str} {st : Stmt} {dvs : List V} (h : fnI K a = vI x q st []) (c : fnB K a q dvs = true) : ∃ fd, FunD K x q (defArgs st) (defBody st) (defScope st) dvs [] a fd := by
  unfold fnI at h
  unfold fnB at c
  obtain ⟨kp, c⟩ := He.ba c
  split at h
  · rename_i oc od fd osl e
    rw [e] at c
    obtain ⟨c1, c2⟩ := He.ba c
    obtain ⟨n1, n2, n3, n4, n5, n6, n7, n8, n9, n10, n11, n12, n13, n14, n15⟩ := fd
    unfold vI at h
    simp only [Option.some.injEq, Prod.mk.injEq, List.map_eq_nil_iff] at h
    obtain ⟨rfl, rfl, rfl, rfl, rfl, rfl, rfl, rfl⟩ := h
    exact ⟨_, ⟨_, _, _, _, _, _, _, _, _, _, rfl, e, c1, He.dflB_ok c2, .inl rfl⟩, kp⟩
  · unfold vI at h; cases h
theorem fun_of {K : PySem.W.Frag} {a : Addr} {x q : Str} {st : Stmt} (h : fnI K a = vI x q st []) (c : fnB K a q [] = true) : ∃ fd, Fun K x q st a fd := by
  unfold fnI at h
  unfold fnB at c
  obtain ⟨kp, c⟩ := He.ba c
  split at h
  · rename_i oc od fd osl e
    rw [e] at c
    obtain ⟨c1, c2⟩ := He.ba c
    obtain ⟨n1, n2, n3, n4, n5, n6, n7, n8, n9, n10, n11, n12, n13, n14, n15⟩ := fd
    unfold vI at h
    simp only [Option.some.injEq, Prod.mk.injEq, List.map_eq_nil_iff] at h
    obtain ⟨rfl, rfl, rfl, rfl, rfl, rfl, rfl, rfl⟩ := h
    have e2 : n8 = Value.none := by
      rcases He.dflB_ok c2 with ⟨_, z⟩ | ⟨z, _⟩
      · exact z
      · exact absurd rfl z
    subst e2
    exact ⟨_, ⟨_, _, _, _, _, _, _, _, _, rfl, e, c1⟩, kp⟩
  · unfold vI at h; cases h
def intB (K : PySem.W.Frag) (x : Str) (i : Int) : Bool := match PySem.W.nsIn K mainGlobals x with
  | some (some (.int j _)) => decide (j = i)
  | _ => false
theorem intB_ok {K : PySem.W.Frag} {x : Str} {i : Int} (h : intB K x i = true) : ∃ t, PySem.W.nsIn K mainGlobals x = some (some (.int i t)) := by
  unfold intB at h
  split at h
  · rename_i j t e; exact ⟨t, by rw [e, of_decide_eq_true h]⟩
  · cases h
def strB (K : PySem.W.Frag) (x z : Str) : Bool := match PySem.W.nsIn K mainGlobals x with
  | some (some (.str y _)) => decide (y = z)
  | _ => false
theorem strB_ok {K : PySem.W.Frag} {x z : Str} (h : strB K x z = true) : ∃ t, PySem.W.nsIn K mainGlobals x = some (some (.str z t)) := by
  unfold strB at h
  split at h
  · rename_i j t e; exact ⟨t, by rw [e, of_decide_eq_true h]⟩
  · cases h
/-- a constant of a class -/
def cvB (K : PySem.W.Frag) (C : Addr) (y : Str) (i : Int) : Bool := match PySem.W.findCls K (.ref C) (.type "type") y with
  | some (.val (.int j _)) => decide (j = i)
  | _ => false
theorem cvB_ok {K : PySem.W.Frag} {C : Addr} {y : Str} {i : Int} (h : cvB K C y i = true) : ∃ t, PySem.W.findCls K (.ref C) (.type "type") y = some (.val (.int i t)) := by
  unfold cvB at h
  split at h
  · rename_i j t e; exact ⟨t, by rw [e, of_decide_eq_true h]⟩
  · cases h
def tupB (K : PySem.W.Frag) (a : Addr) (xs : List V) : Bool := match List.lookup a K with
  | some ⟨c, none, .seq its _, _⟩ => decide (c = .type "tuple") && (decide (its.size ≤ sizeLine) && He.relAll xs its.toList)
  | _ => false
theorem tupB_ok {K : PySem.W.Frag} {a : Addr} {xs : List V} (h : tupB K a xs = true) : SqTw K a xs := by
  unfold tupB at h
  split at h
  · rename_i c its n sl e
    obtain ⟨h1, h⟩ := He.ba h
    obtain ⟨h2, h⟩ := He.ba h
    exact ⟨_, its, n, e, of_decide_eq_true h1, rfl, rfl, of_decide_eq_true h2, He.relAll_ok h⟩
  · cases h
/-- the class of an error of one's own -/
def excB (K : PySem.W.Frag) (C : Addr) : Bool := match List.lookup C K with
  | some ⟨t, _, .cls cd, sl⟩ => decide (t = .type "type") && (cd.hasDict && (!cd.hasDel && (match cd.mro, sl.toList with
    | .ref D :: bm, [_, _, _, _, some v, _] => decide (D = C) && (decide (v = .builtin "ValueError.__new__") && PySem.HandSPX.refsVE bm)
    | _, _ => false)))
  | _ => false
theorem excB_ok {K : PySem.W.Frag} {C : Addr} (h : excB K C = true) : ∃ nm q N bs bm sn sub ab col dd k0 k1 k2 k3 k5,
    List.lookup C K = some (excClassObj nm q C N bs bm true sn sub ab col dd k0 k1 k2 k3 k5 "ValueError.__new__") ∧ PySem.HandSPX.refsVE bm = true := by
  unfold excB at h
  split at h
  · rename_i t dd cd sl e
    obtain ⟨n1, n2, n3, n4, n5, n6, n7, n8, n9, n10, n11⟩ := cd
    rw [Bool.and_eq_true, Bool.and_eq_true, Bool.and_eq_true] at h
    obtain ⟨h1, h2, h3, h4⟩ := h
    have g1 := of_decide_eq_true h1
    have g2 : n6 = true := h2
    have g3 : n11 = false := by simpa using h3
    clear h1 h2 h3
    subst g1
    subst g2
    subst g3
    split at h4
    · rename_i D bm k0 k1 k2 k3 v k5 em es
      rw [Bool.and_eq_true, Bool.and_eq_true] at h4
      obtain ⟨h5, h6, h7⟩ := h4
      have g4 := of_decide_eq_true h5
      have g5 := of_decide_eq_true h6
      subst g4
      subst g5
      have em : n3 = _ := em
      subst em
      have es : sl = #[k0, k1, k2, k3, some (.builtin "ValueError.__new__"), k5] := by
        have := congrArg List.toArray es
        simpa using this
      subst es
      exact ⟨_, _, _, _, _, _, _, _, _, _, _, _, _, _, _, e, h7⟩
    · cases h4
  · cases h
/-- an own __init__ that calls super().__init__ -/
def initB (K : PySem.W.Frag) (f D : Addr) (q file : Str) : Bool := match List.lookup f K with
  | some ⟨_, _, .func fd, _⟩ => (match fd.defaults, fd.code, fd.closure with
    | .none, .ref cda, [(_, cc)] => PySem.W.codeIn K (.ref cda) q && ((match List.lookup cc K with
        | some ⟨_, _, .cell (some v), _⟩ => decide (v = .ref D)
        | _ => false) && (match List.lookup cda K with
        | some ⟨_, _, .fields vs, _⟩ => (match (vs[2]? : Option Value) with
          | some (Value.str y _) => decide (y = file)
          | _ => false)
        | _ => false))
    | _, _, _ => false)
  | _ => false
theorem init_of {K : PySem.W.Frag} {f D : Addr} {q file : Str} {st : Stmt} (h : fnI K f = vI "__init__" q st ["__class__"]) (c : initB K f D q file = true) :
    ∃ oc od osl kV doc pm an cda ct cc, List.lookup f K = some ⟨oc, od, .func (PySem.W.ksFn "__init__" q (defArgs st) (defBody st) (defScope st) .none kV doc pm an (.ref cda) ct cc), osl⟩ ∧ PySem.W.codeIn K (.ref cda) q = true ∧
      (∃ cl cld csl, List.lookup cc K = some ⟨cl, cld, .cell (some (.ref D)), csl⟩) ∧ ∃ ccl cdd vs ccs tf, List.lookup cda K = some ⟨ccl, cdd, .fields vs, ccs⟩ ∧ vs[2]? = some (.str file tf) := by
  unfold fnI at h
  unfold initB at c
  split at h
  · rename_i oc od fd osl e
    rw [e] at c
    obtain ⟨n1, n2, n3, n4, n5, n6, n7, n8, n9, n10, n11, n12, n13, n14, n15⟩ := fd
    simp only at c
    unfold vI at h
    simp only [Option.some.injEq, Prod.mk.injEq] at h
    obtain ⟨rfl, rfl, rfl, rfl, rfl, rfl, h, rfl⟩ := h
    split at c
    · rename_i cda nm cc
      have hn : nm = "__class__" := by simpa using h
      subst hn
      obtain ⟨c1, c⟩ := He.ba c
      obtain ⟨c2, c3⟩ := He.ba c
      refine ⟨_, _, _, _, _, _, _, _, _, _, e, c1, ?_, ?_⟩
      · split at c2
        · rename_i cl cld v csl e4
          exact ⟨_, _, _, by rw [e4, of_decide_eq_true c2]⟩
        · cases c2
      · split at c3
        · rename_i ccl cdd vs ccs e5
          split at c3
          · rename_i y tf e6
            exact ⟨_, _, _, _, tf, e5, by rw [e6, of_decide_eq_true c3]⟩
          · cases c3
        · cases c3
    · cases c
  · unfold vI at h; cases h
theorem walk_of {l : PySem.W.OpenLaw} {n k : Nat} {q : Program} {loose : List Str} {XP : (Str → Option Value) → Heap → Prop} {YP : World → Heap → Prop} {d : DefRec} {CX : World → CXT} {x : Str}
    (hn : l.most = some n) (h1 : n ≤ sizeLine) (h2 : d.params.defaults = []) (h3 : Room k callerA)
    (F : ∀ (w : World) (mg : Str → Option Value) (fa : Addr) (h : Heap), YP w h → h.Ns mainGlobals mg → mg d.name = some (.ref fa) →
      ∃ (K : PySem.W.Frag) (fd : FuncData) (sp : Sp), K.In h ∧ (∀ (s : Shared) (u : Value), BindsTo s fd ⟨[u], []⟩ [(x, u)]) ∧
        (∀ (H : Hp) (a : Addr) (ns : List Int), ns.length ≤ n → Only H → SqL K H a (ns.map V.int) → sp [V.ref a] H (fun v _ => v = .bl true) fun _ _ _ => False) ∧
        ∀ base : Heap, K.In base → base.Ns mainGlobals mg → FnOk l.prog w K mg base (CX w) k fa fd [x] sp)
    (hcx : ∀ (w : World) (H : Hp) (s : Shared) (e : Value) (s' : Shared), CX w [] H s (fun _ _ _ => False) e s' → False) :
    PySem.W.WalkO q loose XP YP l.row.toRowW d [] (fun f vs => PySem.call f vs) := fun w s₀ s₁ mg mb g y =>
  (walk_ofE (l := l) (q := q) (loose := loose) (XP := XP) (YP := fun w' h => w' = w ∧ YP w' h) (CX := CX w) hn h1 h2 h3 (fun w' mg fa h Y G hm => by
    obtain ⟨rfl, Y⟩ := Y
    exact F w' mg fa h Y G hm) (hcx w) : PySem.W.WalkO q loose XP (fun w' h => w' = w ∧ YP w' h) l.row.toRowW d [] (fun f vs => PySem.call f vs)) w s₀ s₁ mg mb g ⟨rfl, y⟩
end HX
set_option Elab.async false
set_option linter.all false
set_option maxRecDepth 100000
namespace HX
open PySem PySem.Spec PyProof.Rows L2 DW
def obsZ (as : List Addr) (ck : PySem.W.Frag → Bool) (ats : List (PySem.W.Frag → Addr)) (g : Addr → Option Obj) : Bool × List FnI :=
  (fun K => (ck K, ats.map fun f => fnI K (f K))) (He.frG g as)
theorem obsZ_eq {as : List Addr} {ck : PySem.W.Frag → Bool} {ats : List (PySem.W.Frag → Addr)} {g g' : Addr → Option Obj} (h : ∀ a, g a = g' a) : obsZ as ck ats g = obsZ as ck ats g' := by rw [funext h]
def hookZ (as : List Addr) (ck : PySem.W.Frag → Bool) (ats : List (PySem.W.Frag → Addr)) (vals : List FnI) : PySem.W.Hook where
  α := Bool × List FnI
  obs := fun s => obsZ as ck ats s.heap.get?
  val := fun _ => (true, vals)
  says := fun _ h => ∃ K : PySem.W.Frag, K.In h ∧ ck K = true ∧ (ats.map fun f => fnI K (f K)) = vals
  of := fun _ s e => ⟨He.frG s.heap.get? as, He.frG_in, congrArg Prod.fst e, congrArg Prod.snd e⟩
  keeps := fun _ h h' ⟨K, k, r⟩ hm => ⟨K, fun a o e => hm a o (k a o e), r⟩
end HX
set_option Elab.async false
set_option linter.all false
set_option maxRecDepth 100000
set_option maxHeartbeats 4000000
namespace LW
open PySem PySem.Spec L2 DW PyProof.Rows NdefX HX
abbrev si_InvalidTerm : Stmt := (C8.clsBody (topS 4)).getD 0 (.Pass ⟨0, 0, 0, 0⟩)
def ad_c_OutOfRange (_ : PySem.W.Frag) : Addr := 122
def ad_c_TooLarge (_ : PySem.W.Frag) : Addr := 146
def ad_c_SizeMismatch (_ : PySem.W.Frag) : Addr := 134
def ad_c_InvalidQuery (_ : PySem.W.Frag) : Addr := 110
def ad_c_InvalidTerm (_ : PySem.W.Frag) : Addr := 74
def ad_c_InvalidAim (_ : PySem.W.Frag) : Addr := 86
def ad_c_InvalidGame (_ : PySem.W.Frag) : Addr := 98
def ad_c_ChoosersError (_ : PySem.W.Frag) : Addr := 31
def ad_c_Query (_ : PySem.W.Frag) : Addr := 428
def ad_c_Row (_ : PySem.W.Frag) : Addr := 510
def ad_fi_InvalidQuery (_ : PySem.W.Frag) : Addr := 71
def ad_f0 (_ : PySem.W.Frag) : Addr := 155
def ad_f1 (_ : PySem.W.Frag) : Addr := 162
def ad_f2 (_ : PySem.W.Frag) : Addr := 228
def ad_f3 (_ : PySem.W.Frag) : Addr := 235
def ad_f4 (_ : PySem.W.Frag) : Addr := 249
def ad_f5 (_ : PySem.W.Frag) : Addr := 256
def ad_f6 (_ : PySem.W.Frag) : Addr := 261
def ad_f7 (_ : PySem.W.Frag) : Addr := 268
def ad_f8 (_ : PySem.W.Frag) : Addr := 275
def ad_f9 (_ : PySem.W.Frag) : Addr := 282
def ad_f10 (_ : PySem.W.Frag) : Addr := 287
def ad_f11 (_ : PySem.W.Frag) : Addr := 292
def ad_f12 (_ : PySem.W.Frag) : Addr := 299
def ad_f13 (_ : PySem.W.Frag) : Addr := 242
def ad_f14 (_ : PySem.W.Frag) : Addr := 304
def ad_f15 (_ : PySem.W.Frag) : Addr := 309
def ad_f16 (_ : PySem.W.Frag) : Addr := 328
def ad_f17 (_ : PySem.W.Frag) : Addr := 333
def ad_f18 (_ : PySem.W.Frag) : Addr := 340
def ad_f19 (_ : PySem.W.Frag) : Addr := 347
def ad_f20 (_ : PySem.W.Frag) : Addr := 354
def ad_f21 (_ : PySem.W.Frag) : Addr := 373
def ad_f22 (_ : PySem.W.Frag) : Addr := 380
def ad_f23 (_ : PySem.W.Frag) : Addr := 387
def ad_f24 (_ : PySem.W.Frag) : Addr := 394
def ad_f25 (_ : PySem.W.Frag) : Addr := 401
def ad_f26 (_ : PySem.W.Frag) : Addr := 408
def ad_f27 (_ : PySem.W.Frag) : Addr := 316
def ad_f28 (_ : PySem.W.Frag) : Addr := 323
def ad_f29 (_ : PySem.W.Frag) : Addr := 359
def ad_f30 (_ : PySem.W.Frag) : Addr := 439
def ad_f31 (_ : PySem.W.Frag) : Addr := 446
def ad_f32 (_ : PySem.W.Frag) : Addr := 453
def ad_f33 (_ : PySem.W.Frag) : Addr := 467
def ad_dA33 (_ : PySem.W.Frag) : Addr := 461
def ad_f34 (_ : PySem.W.Frag) : Addr := 474
def ad_f35 (_ : PySem.W.Frag) : Addr := 493
def ad_f36 (_ : PySem.W.Frag) : Addr := 500
def ad_f37 (_ : PySem.W.Frag) : Addr := 521
def ad_f38 (_ : PySem.W.Frag) : Addr := 528
def ad_f39 (_ : PySem.W.Frag) : Addr := 533
def ad_f40 (_ : PySem.W.Frag) : Addr := 540
def ad_f41 (_ : PySem.W.Frag) : Addr := 545
def ad_f42 (_ : PySem.W.Frag) : Addr := 552
def ad_f43 (_ : PySem.W.Frag) : Addr := 557
def ad_f44 (_ : PySem.W.Frag) : Addr := 562
def ad_f45 (_ : PySem.W.Frag) : Addr := 569
def ad_f46 (_ : PySem.W.Frag) : Addr := 576
def ad_f47 (_ : PySem.W.Frag) : Addr := 581
def ad_f48 (_ : PySem.W.Frag) : Addr := 586
def ad_f49 (_ : PySem.W.Frag) : Addr := 591
def ad_f50 (_ : PySem.W.Frag) : Addr := 596
def ad_f51 (_ : PySem.W.Frag) : Addr := 603
def ad_f52 (_ : PySem.W.Frag) : Addr := 610
def ad_f53 (_ : PySem.W.Frag) : Addr := 615
def ad_f54 (_ : PySem.W.Frag) : Addr := 622
def ad_f55 (_ : PySem.W.Frag) : Addr := 629
def ad_f56 (_ : PySem.W.Frag) : Addr := 636
def ad_f57 (_ : PySem.W.Frag) : Addr := 643
def ad_f58 (_ : PySem.W.Frag) : Addr := 648
def ad_f59 (_ : PySem.W.Frag) : Addr := 655
def ad_f60 (_ : PySem.W.Frag) : Addr := 660
def ad_f61 (_ : PySem.W.Frag) : Addr := 667
def ad_f62 (_ : PySem.W.Frag) : Addr := 672
def ad_f63 (_ : PySem.W.Frag) : Addr := 679
def ad_f64 (_ : PySem.W.Frag) : Addr := 686
def ad_f65 (_ : PySem.W.Frag) : Addr := 691
def fileP : Str := PySem.Challenge.pw_choosersrow_k40_queries_combined.main.file
def ck0 (K : PySem.W.Frag) (c_Query c_Row f0 f1 f2 f3 f4 f5 f6 f7 : Addr) : Bool :=
  (He.eqO (PySem.W.nsIn K mainGlobals "Query") (some (some (.ref c_Query)))) && ((He.eqO (PySem.W.nsIn K mainGlobals "Row") (some (some (.ref c_Row)))) && ((He.eqO (PySem.W.nsIn K mainGlobals "is_number") (some (some (.ref f0)))) && ((fnB K f0 "is_number" []) && ((PySem.W.keepIn K (.ref f0)) && ((He.eqO (PySem.W.nsIn K mainGlobals "is_below") (some (some (.ref f1)))) && ((fnB K f1 "is_below" []) && ((PySem.W.keepIn K (.ref f1)) && ((He.eqO (PySem.W.nsIn K mainGlobals "count_choices") (some (some (.ref f2)))) && ((fnB K f2 "count_choices" []) && ((PySem.W.keepIn K (.ref f2)) && ((He.eqO (PySem.W.nsIn K mainGlobals "has_outcomes") (some (some (.ref f3)))) && ((fnB K f3 "has_outcomes" []) && ((PySem.W.keepIn K (.ref f3)) && ((He.eqO (PySem.W.nsIn K mainGlobals "width_at") (some (some (.ref f4)))) && ((fnB K f4 "width_at" []) && ((PySem.W.keepIn K (.ref f4)) && ((He.eqO (PySem.W.nsIn K mainGlobals "terms_behind") (some (some (.ref f5)))) && ((fnB K f5 "terms_behind" []) && ((PySem.W.keepIn K (.ref f5)) && ((He.eqO (PySem.W.nsIn K mainGlobals "are_widths") (some (some (.ref f6)))) && ((fnB K f6 "are_widths" []) && ((PySem.W.keepIn K (.ref f6)) && ((He.eqO (PySem.W.nsIn K mainGlobals "require_form") (some (some (.ref f7)))) && ((fnB K f7 "require_form" [])))))))))))))))))))))))))
def ck1 (K : PySem.W.Frag) (f7 f8 f9 f10 f11 f12 f13 f14 f15 : Addr) : Bool :=
  (PySem.W.keepIn K (.ref f7)) && ((He.eqO (PySem.W.nsIn K mainGlobals "has_query_form") (some (some (.ref f8)))) && ((fnB K f8 "has_query_form" []) && ((PySem.W.keepIn K (.ref f8)) && ((He.eqO (PySem.W.nsIn K mainGlobals "wrong_query") (some (some (.ref f9)))) && ((fnB K f9 "wrong_query" []) && ((PySem.W.keepIn K (.ref f9)) && ((He.eqO (PySem.W.nsIn K mainGlobals "places_of") (some (some (.ref f10)))) && ((fnB K f10 "places_of" []) && ((PySem.W.keepIn K (.ref f10)) && ((He.eqO (PySem.W.nsIn K mainGlobals "require_few") (some (some (.ref f11)))) && ((fnB K f11 "require_few" []) && ((PySem.W.keepIn K (.ref f11)) && ((He.eqO (PySem.W.nsIn K mainGlobals "followed") (some (some (.ref f12)))) && ((fnB K f12 "followed" []) && ((PySem.W.keepIn K (.ref f12)) && ((He.eqO (PySem.W.nsIn K mainGlobals "wrong_numbers") (some (some (.ref f13)))) && ((fnB K f13 "wrong_numbers" []) && ((PySem.W.keepIn K (.ref f13)) && ((He.eqO (PySem.W.nsIn K mainGlobals "fixed_term") (some (some (.ref f14)))) && ((fnB K f14 "fixed_term" []) && ((PySem.W.keepIn K (.ref f14)) && ((He.eqO (PySem.W.nsIn K mainGlobals "lowered_term") (some (some (.ref f15)))) && ((fnB K f15 "lowered_term" []) && ((PySem.W.keepIn K (.ref f15))))))))))))))))))))))))))
def ck2 (K : PySem.W.Frag) (c_Query f16 f17 f18 f19 f20 f21 f22 f23 : Addr) : Bool :=
  (He.eqO (PySem.W.nsIn K mainGlobals "term_with_tells") (some (some (.ref f16)))) && ((fnB K f16 "term_with_tells" []) && ((PySem.W.keepIn K (.ref f16)) && ((He.eqO (PySem.W.nsIn K mainGlobals "term_with_outcomes") (some (some (.ref f17)))) && ((fnB K f17 "term_with_outcomes" []) && ((PySem.W.keepIn K (.ref f17)) && ((He.eqO (PySem.W.nsIn K mainGlobals "require_same_widths") (some (some (.ref f18)))) && ((fnB K f18 "require_same_widths" []) && ((PySem.W.keepIn K (.ref f18)) && ((He.eqO (PySem.W.nsIn K mainGlobals "require_two_outcomes") (some (some (.ref f19)))) && ((fnB K f19 "require_two_outcomes" []) && ((PySem.W.keepIn K (.ref f19)) && ((He.eqO (PySem.W.nsIn K mainGlobals "require_combined") (some (some (.ref f20)))) && ((fnB K f20 "require_combined" []) && ((PySem.W.keepIn K (.ref f20)) && ((He.eqO (PySem.W.findIn K (.ref c_Query) "__init__") (some (some (.ref f21)))) && ((PySem.W.isFn K (.ref f21)) && ((fnB K f21 "Query.__init__" []) && ((PySem.W.keepIn K (.ref f21)) && ((He.eqO (PySem.W.findIn K (.ref c_Query) "__call__") (some (some (.ref f22)))) && ((PySem.W.isFn K (.ref f22)) && ((fnB K f22 "Query.__call__" []) && ((PySem.W.keepIn K (.ref f22)) && ((He.eqO (PySem.W.findIn K (.ref c_Query) "__invert__") (some (some (.ref f23)))) && ((PySem.W.isFn K (.ref f23))))))))))))))))))))))))))
def ck3 (K : PySem.W.Frag) (c_Query f23 f24 f25 f26 f27 f28 f29 f30 : Addr) : Bool :=
  (fnB K f23 "Query.__invert__" []) && ((PySem.W.keepIn K (.ref f23)) && ((He.eqO (PySem.W.findIn K (.ref c_Query) "__and__") (some (some (.ref f24)))) && ((PySem.W.isFn K (.ref f24)) && ((fnB K f24 "Query.__and__" []) && ((PySem.W.keepIn K (.ref f24)) && ((He.eqO (PySem.W.findIn K (.ref c_Query) "__or__") (some (some (.ref f25)))) && ((PySem.W.isFn K (.ref f25)) && ((fnB K f25 "Query.__or__" []) && ((PySem.W.keepIn K (.ref f25)) && ((He.eqO (PySem.W.findIn K (.ref c_Query) "__xor__") (some (some (.ref f26)))) && ((PySem.W.isFn K (.ref f26)) && ((fnB K f26 "Query.__xor__" []) && ((PySem.W.keepIn K (.ref f26)) && ((He.eqO (PySem.W.nsIn K mainGlobals "fix_place") (some (some (.ref f27)))) && ((fnB K f27 "fix_place" []) && ((PySem.W.keepIn K (.ref f27)) && ((He.eqO (PySem.W.nsIn K mainGlobals "query_tail") (some (some (.ref f28)))) && ((fnB K f28 "query_tail" []) && ((PySem.W.keepIn K (.ref f28)) && ((He.eqO (PySem.W.nsIn K mainGlobals "join_queries") (some (some (.ref f29)))) && ((fnB K f29 "join_queries" []) && ((PySem.W.keepIn K (.ref f29)) && ((He.eqO (PySem.W.nsIn K mainGlobals "shortest_cycle") (some (some (.ref f30)))) && ((fnB K f30 "shortest_cycle" [])))))))))))))))))))))))))
def ck4 (K : PySem.W.Frag) (c_Row f30 f31 f32 f33 dA33 f34 f35 f36 f37 : Addr) : Bool :=
  (PySem.W.keepIn K (.ref f30)) && ((He.eqO (PySem.W.nsIn K mainGlobals "turned_cycle") (some (some (.ref f31)))) && ((fnB K f31 "turned_cycle" []) && ((PySem.W.keepIn K (.ref f31)) && ((He.eqO (PySem.W.nsIn K mainGlobals "count_spare") (some (some (.ref f32)))) && ((fnB K f32 "count_spare" []) && ((PySem.W.keepIn K (.ref f32)) && ((He.eqO (PySem.W.findIn K (.ref c_Row) "__init__") (some (some (.ref f33)))) && ((PySem.W.isFn K (.ref f33)) && ((fnB K f33 "Row.__init__" [V.ref dA33]) && ((tupB K dA33 (([0] : List Int).map V.int)) && ((PySem.W.keepIn K (.ref f33)) && ((He.eqO (PySem.W.findIn K (.ref c_Row) "__getitem__") (some (some (.ref f34)))) && ((PySem.W.isFn K (.ref f34)) && ((fnB K f34 "Row.__getitem__" []) && ((PySem.W.keepIn K (.ref f34)) && ((He.eqO (PySem.W.findIn K (.ref c_Row) "least") (some (some (.ref f35)))) && ((PySem.W.isFn K (.ref f35)) && ((fnB K f35 "Row.least" []) && ((PySem.W.keepIn K (.ref f35)) && ((He.eqO (PySem.W.findIn K (.ref c_Row) "after") (some (some (.ref f36)))) && ((PySem.W.isFn K (.ref f36)) && ((fnB K f36 "Row.after" []) && ((PySem.W.keepIn K (.ref f36)) && ((He.eqO (PySem.W.nsIn K mainGlobals "_law_start") (some (some (.ref f37))))))))))))))))))))))))))))
def ck5 (K : PySem.W.Frag) (f37 f38 f39 f40 f41 f42 f43 f44 f45 : Addr) : Bool :=
  (fnB K f37 "_law_start" []) && ((PySem.W.keepIn K (.ref f37)) && ((He.eqO (PySem.W.nsIn K mainGlobals "_law_pick") (some (some (.ref f38)))) && ((fnB K f38 "_law_pick" []) && ((PySem.W.keepIn K (.ref f38)) && ((He.eqO (PySem.W.nsIn K mainGlobals "_law_same") (some (some (.ref f39)))) && ((fnB K f39 "_law_same" []) && ((PySem.W.keepIn K (.ref f39)) && ((He.eqO (PySem.W.nsIn K mainGlobals "_law_width") (some (some (.ref f40)))) && ((fnB K f40 "_law_width" []) && ((PySem.W.keepIn K (.ref f40)) && ((He.eqO (PySem.W.nsIn K mainGlobals "_law_widths") (some (some (.ref f41)))) && ((fnB K f41 "_law_widths" []) && ((PySem.W.keepIn K (.ref f41)) && ((He.eqO (PySem.W.nsIn K mainGlobals "_law_look_places") (some (some (.ref f42)))) && ((fnB K f42 "_law_look_places" []) && ((PySem.W.keepIn K (.ref f42)) && ((He.eqO (PySem.W.nsIn K mainGlobals "_law_query_term") (some (some (.ref f43)))) && ((fnB K f43 "_law_query_term" []) && ((PySem.W.keepIn K (.ref f43)) && ((He.eqO (PySem.W.nsIn K mainGlobals "_law_endless") (some (some (.ref f44)))) && ((fnB K f44 "_law_endless" []) && ((PySem.W.keepIn K (.ref f44)) && ((He.eqO (PySem.W.nsIn K mainGlobals "_law_endless_entry") (some (some (.ref f45)))) && ((fnB K f45 "_law_endless_entry" [])))))))))))))))))))))))))
def ck6 (K : PySem.W.Frag) (f45 f46 f47 f48 f49 f50 f51 f52 f53 : Addr) : Bool :=
  (PySem.W.keepIn K (.ref f45)) && ((He.eqO (PySem.W.nsIn K mainGlobals "_law_small_term") (some (some (.ref f46)))) && ((fnB K f46 "_law_small_term" []) && ((PySem.W.keepIn K (.ref f46)) && ((He.eqO (PySem.W.nsIn K mainGlobals "_law_chain") (some (some (.ref f47)))) && ((fnB K f47 "_law_chain" []) && ((PySem.W.keepIn K (.ref f47)) && ((He.eqO (PySem.W.nsIn K mainGlobals "_law_replaced") (some (some (.ref f48)))) && ((fnB K f48 "_law_replaced" []) && ((PySem.W.keepIn K (.ref f48)) && ((He.eqO (PySem.W.nsIn K mainGlobals "_law_without") (some (some (.ref f49)))) && ((fnB K f49 "_law_without" []) && ((PySem.W.keepIn K (.ref f49)) && ((He.eqO (PySem.W.nsIn K mainGlobals "_law_lowered") (some (some (.ref f50)))) && ((fnB K f50 "_law_lowered" []) && ((PySem.W.keepIn K (.ref f50)) && ((He.eqO (PySem.W.nsIn K mainGlobals "_law_walk") (some (some (.ref f51)))) && ((fnB K f51 "_law_walk" []) && ((PySem.W.keepIn K (.ref f51)) && ((He.eqO (PySem.W.nsIn K mainGlobals "_law_too_deep") (some (some (.ref f52)))) && ((fnB K f52 "_law_too_deep" []) && ((PySem.W.keepIn K (.ref f52)) && ((He.eqO (PySem.W.nsIn K mainGlobals "_law_looks") (some (some (.ref f53)))) && ((fnB K f53 "_law_looks" []) && ((PySem.W.keepIn K (.ref f53))))))))))))))))))))))))))
def ck7 (K : PySem.W.Frag) (f54 f55 f56 f57 f58 f59 f60 f61 f62 : Addr) : Bool :=
  (He.eqO (PySem.W.nsIn K mainGlobals "_law_named") (some (some (.ref f54)))) && ((fnB K f54 "_law_named" []) && ((PySem.W.keepIn K (.ref f54)) && ((He.eqO (PySem.W.nsIn K mainGlobals "_law_due") (some (some (.ref f55)))) && ((fnB K f55 "_law_due" []) && ((PySem.W.keepIn K (.ref f55)) && ((He.eqO (PySem.W.nsIn K mainGlobals "_law_apply") (some (some (.ref f56)))) && ((fnB K f56 "_law_apply" []) && ((PySem.W.keepIn K (.ref f56)) && ((He.eqO (PySem.W.nsIn K mainGlobals "_law_made") (some (some (.ref f57)))) && ((fnB K f57 "_law_made" []) && ((PySem.W.keepIn K (.ref f57)) && ((He.eqO (PySem.W.nsIn K mainGlobals "_law_terms") (some (some (.ref f58)))) && ((fnB K f58 "_law_terms" []) && ((PySem.W.keepIn K (.ref f58)) && ((He.eqO (PySem.W.nsIn K mainGlobals "_law_together") (some (some (.ref f59)))) && ((fnB K f59 "_law_together" []) && ((PySem.W.keepIn K (.ref f59)) && ((He.eqO (PySem.W.nsIn K mainGlobals "_law_table") (some (some (.ref f60)))) && ((fnB K f60 "_law_table" []) && ((PySem.W.keepIn K (.ref f60)) && ((He.eqO (PySem.W.nsIn K mainGlobals "_law_combines") (some (some (.ref f61)))) && ((fnB K f61 "_law_combines" []) && ((PySem.W.keepIn K (.ref f61)) && ((He.eqO (PySem.W.nsIn K mainGlobals "_law_joins") (some (some (.ref f62))))))))))))))))))))))))))))
def ck8 (K : PySem.W.Frag) (f62 f63 f64 f65 : Addr) : Bool :=
  (fnB K f62 "_law_joins" []) && ((PySem.W.keepIn K (.ref f62)) && ((He.eqO (PySem.W.nsIn K mainGlobals "_law_fixes") (some (some (.ref f63)))) && ((fnB K f63 "_law_fixes" []) && ((PySem.W.keepIn K (.ref f63)) && ((He.eqO (PySem.W.nsIn K mainGlobals "_law_tails") (some (some (.ref f64)))) && ((fnB K f64 "_law_tails" []) && ((PySem.W.keepIn K (.ref f64)) && ((He.eqO (PySem.W.nsIn K mainGlobals "law") (some (some (.ref f65)))) && ((fnB K f65 "law" []) && ((PySem.W.keepIn K (.ref f65)) && ((He.eqO (PySem.W.nsIn K mainGlobals "isinstance") (some none)) && ((He.eqO (PySem.W.nsIn K mainGlobals "int") (some none)) && ((He.eqO (PySem.W.nsIn K mainGlobals "bool") (some none)) && ((He.eqO (PySem.W.nsIn K mainGlobals "all") (some none)) && ((He.eqO (PySem.W.nsIn K mainGlobals "str") (some none)) && ((He.eqO (PySem.W.nsIn K mainGlobals "len") (some none)) && ((He.eqO (PySem.W.nsIn K mainGlobals "enumerate") (some none)) && ((He.eqO (PySem.W.nsIn K mainGlobals "tuple") (some none)) && ((He.eqO (PySem.W.nsIn K mainGlobals "sorted") (some none)) && ((He.eqO (PySem.W.nsIn K mainGlobals "set") (some none)) && ((He.eqO (PySem.W.nsIn K mainGlobals "range") (some none)) && ((He.eqO (PySem.W.nsIn K mainGlobals "list") (some none)) && ((He.eqO (PySem.W.nsIn K mainGlobals "max") (some none)) && ((He.eqO (PySem.W.nsIn K mainGlobals "min") (some none))))))))))))))))))))))))))
def ck9 (K : PySem.W.Frag) (c_OutOfRange c_TooLarge c_SizeMismatch c_InvalidQuery c_InvalidTerm c_InvalidAim c_InvalidGame c_ChoosersError : Addr) : Bool :=
  (He.eqO (PySem.W.nsIn K mainGlobals "sum") (some none)) && ((He.eqO (PySem.W.nsIn K mainGlobals "ValueError") (some none)) && ((strB K "LETTERS" "abcdefghijklmnopqrstuvwxyz") && ((strB K "DIGITS" "0123456789") && ((intB K "LONGEST_WORD" 12) && ((intB K "LONGEST_NUMBER" 9) && ((intB K "NUMBERS_END" 1000000000) && ((intB K "DEEPEST_TUPLE" 30) && ((intB K "MOST_OUTCOMES" 4) && ((intB K "MOST_WIDTHS" 6) && ((intB K "WIDEST" 4) && ((intB K "PLACES" 100) && ((intB K "ITEMS_BEFORE" 2) && ((intB K "TWO_OUTCOMES" 2) && ((He.eqO (PySem.W.nsIn K mainGlobals "OutOfRange") (some (some (.ref c_OutOfRange)))) && ((He.eqO (PySem.W.nsIn K mainGlobals "TooLarge") (some (some (.ref c_TooLarge)))) && ((He.eqO (PySem.W.nsIn K mainGlobals "SizeMismatch") (some (some (.ref c_SizeMismatch)))) && ((He.eqO (PySem.W.nsIn K mainGlobals "InvalidQuery") (some (some (.ref c_InvalidQuery)))) && ((He.eqO (PySem.W.nsIn K mainGlobals "InvalidTerm") (some (some (.ref c_InvalidTerm)))) && ((He.eqO (PySem.W.nsIn K mainGlobals "InvalidAim") (some (some (.ref c_InvalidAim)))) && ((He.eqO (PySem.W.nsIn K mainGlobals "InvalidGame") (some (some (.ref c_InvalidGame)))) && ((He.eqO (PySem.W.nsIn K mainGlobals "ChoosersError") (some (some (.ref c_ChoosersError)))) && ((PySem.W.excIn K c_OutOfRange [.type "ValueError", .type "Exception", .type "BaseException", .type "object"] "ValueError.__new__") && ((PySem.W.excIn K c_TooLarge [.type "ValueError", .type "Exception", .type "BaseException", .type "object"] "ValueError.__new__") && ((PySem.W.excIn K c_SizeMismatch [.type "ValueError", .type "Exception", .type "BaseException", .type "object"] "ValueError.__new__")))))))))))))))))))))))))
def ck10 (K : PySem.W.Frag) (c_OutOfRange c_TooLarge c_SizeMismatch c_InvalidQuery c_InvalidTerm c_InvalidAim c_InvalidGame c_ChoosersError : Addr) : Bool :=
  (He.eqO (PySem.W.nsIn K mainGlobals "super") (some none)) && ((He.eqO (PySem.W.nsIn K cStatics "thirdparty.any") (some none)) && ((PySem.W.keepIn K (.ref c_OutOfRange)) && ((decide (PySem.W.subIn K (.ref c_OutOfRange) (.type "BaseException") = some true)) && ((decide (PySem.W.typeIn K (.ref c_OutOfRange) = some (.type "type"))) && ((He.eqO (PySem.W.findIn K (.ref c_OutOfRange) "__getattribute__") (some (some (.builtin "BaseException.__getattribute__")))) && ((He.eqO (PySem.W.findIn K (.ref c_OutOfRange) "__getattr__") (some none)) && ((PySem.W.hasDictIn K c_OutOfRange) && ((He.eqO (PySem.W.findIn K (.ref c_OutOfRange) "__class__") (some (some (.builtin "object.__class__")))) && ((decide (PySem.W.mroIn K c_OutOfRange (.type "object") = some true)) && ((decide (PySem.W.subIn K (.ref c_OutOfRange) (.ref c_OutOfRange) = some true)) && ((decide (PySem.W.subIn K (.ref c_OutOfRange) (.ref c_InvalidQuery) = some false)) && ((decide (PySem.W.subIn K (.ref c_OutOfRange) (.ref c_InvalidTerm) = some false)) && ((decide (PySem.W.subIn K (.ref c_OutOfRange) (.ref c_InvalidAim) = some false)) && ((decide (PySem.W.subIn K (.ref c_OutOfRange) (.ref c_InvalidGame) = some false)) && ((decide (PySem.W.subIn K (.ref c_OutOfRange) (.type "ValueError") = some true)) && ((decide (PySem.W.subIn K (.ref c_OutOfRange) (.ref c_SizeMismatch) = some false)) && ((decide (PySem.W.subIn K (.ref c_OutOfRange) (.ref c_TooLarge) = some false)) && ((decide (PySem.W.subIn K (.ref c_OutOfRange) (.ref c_ChoosersError) = some true)) && ((PySem.W.keepIn K (.ref c_TooLarge)) && ((decide (PySem.W.subIn K (.ref c_TooLarge) (.type "BaseException") = some true)) && ((decide (PySem.W.typeIn K (.ref c_TooLarge) = some (.type "type"))) && ((He.eqO (PySem.W.findIn K (.ref c_TooLarge) "__getattribute__") (some (some (.builtin "BaseException.__getattribute__")))) && ((He.eqO (PySem.W.findIn K (.ref c_TooLarge) "__getattr__") (some none)) && ((PySem.W.hasDictIn K c_TooLarge)))))))))))))))))))))))))
def ck11 (K : PySem.W.Frag) (c_OutOfRange c_TooLarge c_SizeMismatch c_InvalidQuery c_InvalidTerm c_InvalidAim c_InvalidGame c_ChoosersError : Addr) : Bool :=
  (He.eqO (PySem.W.findIn K (.ref c_TooLarge) "__class__") (some (some (.builtin "object.__class__")))) && ((decide (PySem.W.mroIn K c_TooLarge (.type "object") = some true)) && ((decide (PySem.W.subIn K (.ref c_TooLarge) (.ref c_TooLarge) = some true)) && ((decide (PySem.W.subIn K (.ref c_TooLarge) (.ref c_InvalidQuery) = some false)) && ((decide (PySem.W.subIn K (.ref c_TooLarge) (.ref c_InvalidTerm) = some false)) && ((decide (PySem.W.subIn K (.ref c_TooLarge) (.ref c_InvalidAim) = some false)) && ((decide (PySem.W.subIn K (.ref c_TooLarge) (.ref c_InvalidGame) = some false)) && ((decide (PySem.W.subIn K (.ref c_TooLarge) (.type "ValueError") = some true)) && ((decide (PySem.W.subIn K (.ref c_TooLarge) (.ref c_SizeMismatch) = some false)) && ((decide (PySem.W.subIn K (.ref c_TooLarge) (.ref c_OutOfRange) = some false)) && ((decide (PySem.W.subIn K (.ref c_TooLarge) (.ref c_ChoosersError) = some true)) && ((PySem.W.keepIn K (.ref c_SizeMismatch)) && ((decide (PySem.W.subIn K (.ref c_SizeMismatch) (.type "BaseException") = some true)) && ((decide (PySem.W.typeIn K (.ref c_SizeMismatch) = some (.type "type"))) && ((He.eqO (PySem.W.findIn K (.ref c_SizeMismatch) "__getattribute__") (some (some (.builtin "BaseException.__getattribute__")))) && ((He.eqO (PySem.W.findIn K (.ref c_SizeMismatch) "__getattr__") (some none)) && ((PySem.W.hasDictIn K c_SizeMismatch) && ((He.eqO (PySem.W.findIn K (.ref c_SizeMismatch) "__class__") (some (some (.builtin "object.__class__")))) && ((decide (PySem.W.mroIn K c_SizeMismatch (.type "object") = some true)) && ((decide (PySem.W.subIn K (.ref c_SizeMismatch) (.ref c_SizeMismatch) = some true)) && ((decide (PySem.W.subIn K (.ref c_SizeMismatch) (.ref c_InvalidQuery) = some false)) && ((decide (PySem.W.subIn K (.ref c_SizeMismatch) (.ref c_InvalidTerm) = some false)) && ((decide (PySem.W.subIn K (.ref c_SizeMismatch) (.ref c_InvalidAim) = some false)) && ((decide (PySem.W.subIn K (.ref c_SizeMismatch) (.ref c_InvalidGame) = some false)) && ((decide (PySem.W.subIn K (.ref c_SizeMismatch) (.type "ValueError") = some true))))))))))))))))))))))))))
def ck12 (K : PySem.W.Frag) (c_OutOfRange c_TooLarge c_SizeMismatch c_InvalidQuery c_InvalidTerm c_InvalidAim c_InvalidGame c_ChoosersError fi_InvalidQuery : Addr) : Bool :=
  (decide (PySem.W.subIn K (.ref c_SizeMismatch) (.ref c_OutOfRange) = some false)) && ((decide (PySem.W.subIn K (.ref c_SizeMismatch) (.ref c_TooLarge) = some false)) && ((decide (PySem.W.subIn K (.ref c_SizeMismatch) (.ref c_ChoosersError) = some true)) && ((PySem.W.keepIn K (.ref c_InvalidQuery)) && ((decide (PySem.W.subIn K (.ref c_InvalidQuery) (.type "BaseException") = some true)) && ((decide (PySem.W.typeIn K (.ref c_InvalidQuery) = some (.type "type"))) && ((He.eqO (PySem.W.findIn K (.ref c_InvalidQuery) "__getattribute__") (some (some (.builtin "BaseException.__getattribute__")))) && ((He.eqO (PySem.W.findIn K (.ref c_InvalidQuery) "__getattr__") (some none)) && ((PySem.W.hasDictIn K c_InvalidQuery) && ((He.eqO (PySem.W.findIn K (.ref c_InvalidQuery) "__class__") (some (some (.builtin "object.__class__")))) && ((decide (PySem.W.mroIn K c_InvalidQuery (.type "object") = some true)) && ((decide (PySem.W.subIn K (.ref c_InvalidQuery) (.ref c_InvalidQuery) = some true)) && ((decide (PySem.W.subIn K (.ref c_InvalidQuery) (.ref c_InvalidTerm) = some true)) && ((decide (PySem.W.subIn K (.ref c_InvalidQuery) (.ref c_InvalidAim) = some false)) && ((decide (PySem.W.subIn K (.ref c_InvalidQuery) (.ref c_InvalidGame) = some false)) && ((decide (PySem.W.subIn K (.ref c_InvalidQuery) (.type "ValueError") = some true)) && ((decide (PySem.W.subIn K (.ref c_InvalidQuery) (.ref c_SizeMismatch) = some false)) && ((decide (PySem.W.subIn K (.ref c_InvalidQuery) (.ref c_OutOfRange) = some false)) && ((decide (PySem.W.subIn K (.ref c_InvalidQuery) (.ref c_TooLarge) = some false)) && ((decide (PySem.W.subIn K (.ref c_InvalidQuery) (.ref c_ChoosersError) = some true)) && ((He.eqO (PySem.W.findIn K (.ref c_InvalidQuery) "__init__") (some (some (.ref fi_InvalidQuery)))) && ((initB K fi_InvalidQuery c_InvalidTerm "InvalidTerm.__init__" fileP) && ((decide (PySem.W.typeIn K (.ref fi_InvalidQuery) = some (.type "function"))) && ((He.eqO (PySem.W.findIn K (.ref c_InvalidQuery) "path") (some none)) && ((PySem.W.isClsIn K c_InvalidTerm)))))))))))))))))))))))))
def ck13 (K : PySem.W.Frag) (c_OutOfRange c_TooLarge c_SizeMismatch c_InvalidQuery c_InvalidTerm c_InvalidAim c_InvalidGame c_ChoosersError c_Query : Addr) : Bool :=
  (decide (PySem.W.mroIn K c_InvalidQuery (.ref c_InvalidTerm) = some true)) && ((decide (PySem.W.subIn K (.ref c_InvalidQuery) (.type "ValueError") = some true)) && ((He.eqO (PySem.W.ks_superIn K c_InvalidQuery c_InvalidTerm "__init__") (some (some (.builtin "ValueError.__init__")))) && ((excB K c_InvalidQuery) && ((He.eqO (PySem.W.findIn K (.ref c_InvalidQuery) "__setattr__") (some (some (.builtin "object.__setattr__")))) && ((PySem.W.isClsIn K c_OutOfRange) && ((PySem.W.isClsIn K c_TooLarge) && ((PySem.W.isClsIn K c_SizeMismatch) && ((PySem.W.isClsIn K c_InvalidQuery) && ((PySem.W.isClsIn K c_InvalidTerm) && ((decide (PySem.W.typeIn K (.ref c_InvalidTerm) = some (.type "type"))) && ((PySem.W.isClsIn K c_InvalidAim) && ((decide (PySem.W.typeIn K (.ref c_InvalidAim) = some (.type "type"))) && ((PySem.W.isClsIn K c_InvalidGame) && ((decide (PySem.W.typeIn K (.ref c_InvalidGame) = some (.type "type"))) && ((PySem.W.isClsIn K c_ChoosersError) && ((decide (PySem.W.typeIn K (.ref c_ChoosersError) = some (.type "type"))) && ((decide (PySem.W.subIn K (.ref c_ChoosersError) (.type "BaseException") = some true)) && ((PySem.W.hasDictIn K c_ChoosersError) && ((He.eqO (PySem.W.specialIn K (.builtin "object.__class__") "__get__") (some (some (.builtin "getset_descriptor.__get__")))) && ((decide (PySem.W.takesIn K (.builtin "object.__class__") = some true)) && ((PySem.W.plainGet K c_Query Str.empty) && ((PySem.W.hasDictIn K c_Query) && ((PySem.W.plainOver K c_Query) && ((He.eqO (PySem.W.findIn K (.ref c_Query) "__setattr__") (some (some (.builtin "object.__setattr__"))))))))))))))))))))))))))))
def ck14 (K : PySem.W.Frag) (c_Query c_Row f22 f34 : Addr) : Bool :=
  (PySem.W.makesIn K c_Query) && ((PySem.W.keepIn K (.ref c_Query)) && ((PySem.W.selfFirst K c_Query) && ((PySem.W.fnIn K f22) && ((He.eqO (PySem.W.findIn K (.ref c_Query) "term") (some none)) && ((He.eqO (PySem.W.findIn K (.ref c_Query) "widths") (some none)) && ((He.eqO (PySem.W.findIn K (.ref c_Query) "outcomes") (some none)) && ((PySem.W.readsIn K c_Query (.type "type")) && ((He.eqO (PySem.W.specialIn K (.ref c_Query) "__getattribute__") (some (some (.builtin "type.__getattribute__")))) && ((cvB K c_Query "MOST_LEVELS" 20) && ((cvB K c_Query "MOST_LOOKS" 300) && ((cvB K c_Query "MOST_CHOICES" 256) && ((PySem.W.plainGet K c_Row Str.empty) && ((PySem.W.hasDictIn K c_Row) && ((PySem.W.plainOver K c_Row) && ((He.eqO (PySem.W.findIn K (.ref c_Row) "__setattr__") (some (some (.builtin "object.__setattr__")))) && ((PySem.W.makesIn K c_Row) && ((PySem.W.keepIn K (.ref c_Row)) && ((PySem.W.fnIn K f34) && ((He.eqO (PySem.W.findIn K (.ref c_Row) "head") (some none)) && ((He.eqO (PySem.W.findIn K (.ref c_Row) "cycle") (some none))))))))))))))))))))))
def atsA : List (PySem.W.Frag → Addr) := [ad_f0, ad_f1, ad_f2, ad_f3, ad_f4, ad_f5, ad_f6, ad_f7, ad_f8, ad_f9, ad_f10, ad_f11, ad_f12, ad_f13, ad_f14, ad_f15, ad_f16, ad_f17, ad_f18, ad_f19, ad_f20, ad_f21, ad_f22, ad_f23, ad_f24, ad_f25, ad_f26, ad_f27, ad_f28, ad_f29, ad_f30, ad_f31, ad_f32, ad_f33, ad_f34, ad_f35, ad_f36, ad_f37, ad_f38, ad_f39, ad_f40, ad_f41, ad_f42, ad_f43, ad_f44, ad_f45, ad_f46, ad_f47, ad_f48, ad_f49, ad_f50, ad_f51, ad_f52, ad_f53, ad_f54, ad_f55, ad_f56, ad_f57, ad_f58, ad_f59, ad_f60, ad_f61, ad_f62, ad_f63, ad_f64, ad_f65, ad_fi_InvalidQuery]
def valsA : List FnI := [vI "is_number" "is_number" s_is_number [],
  vI "is_below" "is_below" s_is_below [],
  vI "count_choices" "count_choices" s_count_choices [],
  vI "has_outcomes" "has_outcomes" s_has_outcomes [],
  vI "width_at" "width_at" s_width_at [],
  vI "terms_behind" "terms_behind" s_terms_behind [],
  vI "are_widths" "are_widths" s_are_widths [],
  vI "require_form" "require_form" s_require_form [],
  vI "has_query_form" "has_query_form" s_has_query_form [],
  vI "wrong_query" "wrong_query" s_wrong_query [],
  vI "places_of" "places_of" s_places_of [],
  vI "require_few" "require_few" s_require_few [],
  vI "followed" "followed" s_followed [],
  vI "wrong_numbers" "wrong_numbers" s_wrong_numbers [],
  vI "fixed_term" "fixed_term" s_fixed_term [],
  vI "lowered_term" "lowered_term" s_lowered_term [],
  vI "term_with_tells" "term_with_tells" s_term_with_tells [],
  vI "term_with_outcomes" "term_with_outcomes" s_term_with_outcomes [],
  vI "require_same_widths" "require_same_widths" s_require_same_widths [],
  vI "require_two_outcomes" "require_two_outcomes" s_require_two_outcomes [],
  vI "require_combined" "require_combined" s_require_combined [],
  vI "__init__" "Query.__init__" s_Query___init__ [],
  vI "__call__" "Query.__call__" s_Query___call__ [],
  vI "__invert__" "Query.__invert__" s_Query___invert__ [],
  vI "__and__" "Query.__and__" s_Query___and__ [],
  vI "__or__" "Query.__or__" s_Query___or__ [],
  vI "__xor__" "Query.__xor__" s_Query___xor__ [],
  vI "fix_place" "fix_place" s_fix_place [],
  vI "query_tail" "query_tail" s_query_tail [],
  vI "join_queries" "join_queries" s_join_queries [],
  vI "shortest_cycle" "shortest_cycle" s_shortest_cycle [],
  vI "turned_cycle" "turned_cycle" s_turned_cycle [],
  vI "count_spare" "count_spare" s_count_spare [],
  vI "__init__" "Row.__init__" s_Row___init__ [],
  vI "__getitem__" "Row.__getitem__" s_Row___getitem__ [],
  vI "least" "Row.least" s_Row_least [],
  vI "after" "Row.after" s_Row_after [],
  vI "_law_start" "_law_start" s__law_start [],
  vI "_law_pick" "_law_pick" s__law_pick [],
  vI "_law_same" "_law_same" s__law_same [],
  vI "_law_width" "_law_width" s__law_width [],
  vI "_law_widths" "_law_widths" s__law_widths [],
  vI "_law_look_places" "_law_look_places" s__law_look_places [],
  vI "_law_query_term" "_law_query_term" s__law_query_term [],
  vI "_law_endless" "_law_endless" s__law_endless [],
  vI "_law_endless_entry" "_law_endless_entry" s__law_endless_entry [],
  vI "_law_small_term" "_law_small_term" s__law_small_term [],
  vI "_law_chain" "_law_chain" s__law_chain [],
  vI "_law_replaced" "_law_replaced" s__law_replaced [],
  vI "_law_without" "_law_without" s__law_without [],
  vI "_law_lowered" "_law_lowered" s__law_lowered [],
  vI "_law_walk" "_law_walk" s__law_walk [],
  vI "_law_too_deep" "_law_too_deep" s__law_too_deep [],
  vI "_law_looks" "_law_looks" s__law_looks [],
  vI "_law_named" "_law_named" s__law_named [],
  vI "_law_due" "_law_due" s__law_due [],
  vI "_law_apply" "_law_apply" s__law_apply [],
  vI "_law_made" "_law_made" s__law_made [],
  vI "_law_terms" "_law_terms" s__law_terms [],
  vI "_law_together" "_law_together" s__law_together [],
  vI "_law_table" "_law_table" s__law_table [],
  vI "_law_combines" "_law_combines" s__law_combines [],
  vI "_law_joins" "_law_joins" s__law_joins [],
  vI "_law_fixes" "_law_fixes" s__law_fixes [],
  vI "_law_tails" "_law_tails" s__law_tails [],
  vI "law" "law" s_law [],
  vI "__init__" "InvalidTerm.__init__" si_InvalidTerm ["__class__"]]
def ckA (K : PySem.W.Frag) : Bool := ck0 K (ad_c_Query K) (ad_c_Row K) (ad_f0 K) (ad_f1 K) (ad_f2 K) (ad_f3 K) (ad_f4 K) (ad_f5 K) (ad_f6 K) (ad_f7 K) && (ck1 K (ad_f7 K) (ad_f8 K) (ad_f9 K) (ad_f10 K) (ad_f11 K) (ad_f12 K) (ad_f13 K) (ad_f14 K) (ad_f15 K) && (ck2 K (ad_c_Query K) (ad_f16 K) (ad_f17 K) (ad_f18 K) (ad_f19 K) (ad_f20 K) (ad_f21 K) (ad_f22 K) (ad_f23 K) && (ck3 K (ad_c_Query K) (ad_f23 K) (ad_f24 K) (ad_f25 K) (ad_f26 K) (ad_f27 K) (ad_f28 K) (ad_f29 K) (ad_f30 K) && (ck4 K (ad_c_Row K) (ad_f30 K) (ad_f31 K) (ad_f32 K) (ad_f33 K) (ad_dA33 K) (ad_f34 K) (ad_f35 K) (ad_f36 K) (ad_f37 K) && (ck5 K (ad_f37 K) (ad_f38 K) (ad_f39 K) (ad_f40 K) (ad_f41 K) (ad_f42 K) (ad_f43 K) (ad_f44 K) (ad_f45 K) && (ck6 K (ad_f45 K) (ad_f46 K) (ad_f47 K) (ad_f48 K) (ad_f49 K) (ad_f50 K) (ad_f51 K) (ad_f52 K) (ad_f53 K) && (ck7 K (ad_f54 K) (ad_f55 K) (ad_f56 K) (ad_f57 K) (ad_f58 K) (ad_f59 K) (ad_f60 K) (ad_f61 K) (ad_f62 K) && (ck8 K (ad_f62 K) (ad_f63 K) (ad_f64 K) (ad_f65 K) && (ck9 K (ad_c_OutOfRange K) (ad_c_TooLarge K) (ad_c_SizeMismatch K) (ad_c_InvalidQuery K) (ad_c_InvalidTerm K) (ad_c_InvalidAim K) (ad_c_InvalidGame K) (ad_c_ChoosersError K) && (ck10 K (ad_c_OutOfRange K) (ad_c_TooLarge K) (ad_c_SizeMismatch K) (ad_c_InvalidQuery K) (ad_c_InvalidTerm K) (ad_c_InvalidAim K) (ad_c_InvalidGame K) (ad_c_ChoosersError K) && (ck11 K (ad_c_OutOfRange K) (ad_c_TooLarge K) (ad_c_SizeMismatch K) (ad_c_InvalidQuery K) (ad_c_InvalidTerm K) (ad_c_InvalidAim K) (ad_c_InvalidGame K) (ad_c_ChoosersError K) && (ck12 K (ad_c_OutOfRange K) (ad_c_TooLarge K) (ad_c_SizeMismatch K) (ad_c_InvalidQuery K) (ad_c_InvalidTerm K) (ad_c_InvalidAim K) (ad_c_InvalidGame K) (ad_c_ChoosersError K) (ad_fi_InvalidQuery K) && (ck13 K (ad_c_OutOfRange K) (ad_c_TooLarge K) (ad_c_SizeMismatch K) (ad_c_InvalidQuery K) (ad_c_InvalidTerm K) (ad_c_InvalidAim K) (ad_c_InvalidGame K) (ad_c_ChoosersError K) (ad_c_Query K) && (ck14 K (ad_c_Query K) (ad_c_Row K) (ad_f22 K) (ad_f34 K)))))))))))))))
def names0 : List PySem.Str := ["_wall", "__name__", "ChoosersError", "InvalidText", "InvalidTerm", "InvalidAim", "InvalidGame", "InvalidQuery", "OutOfRange", "SizeMismatch", "TooLarge", "LETTERS", "DIGITS", "LONGEST_WORD", "LONGEST_NUMBER"]
def names1 : List PySem.Str := ["NUMBERS_END", "DEEPEST_TUPLE", "is_number", "is_below", "is_word", "write_term", "wrong_part", "text_of", "read_term", "read_part", "run_end", "read_tuple", "read_headed", "count_choices", "MOST_OUTCOMES"]
def names2 : List PySem.Str := ["has_outcomes", "wrong_numbers", "MOST_WIDTHS", "WIDEST", "PLACES", "ITEMS_BEFORE", "TWO_OUTCOMES", "width_at", "terms_behind", "are_widths", "require_form", "has_query_form", "wrong_query", "places_of", "require_few"]
def names3 : List PySem.Str := ["followed", "fixed_term", "lowered_term", "fix_place", "query_tail", "term_with_tells", "term_with_outcomes", "require_same_widths", "require_two_outcomes", "require_combined", "join_queries", "Query", "shortest_cycle", "turned_cycle", "count_spare"]
def names4 : List PySem.Str := ["Row", "_law_start", "_law_pick", "_law_same", "_law_width", "_law_widths", "_law_look_places", "_law_query_term", "_law_endless", "_law_endless_entry", "_law_small_term", "_law_chain", "_law_replaced", "_law_without", "_law_lowered"]
def names5 : List PySem.Str := ["_law_walk", "_law_too_deep", "_law_looks", "_law_named", "_law_due", "_law_apply", "_law_made", "_law_terms", "_law_together", "_law_table", "_law_combines", "_law_joins", "_law_fixes", "_law_tails"]
def namesA : List PySem.Str := names0 ++ names1 ++ names2 ++ names3 ++ names4 ++ names5
abbrev RR : PySem.W.OpenRow := PySem.W.OpenLaw.row PySem.Challenge.rw_choosersrow_k40_queries_combined
def asA : List Addr := [3, 2, 122, 146, 134, 110, 74, 86, 98, 31, 428, 510, 71, 155, 162, 228, 235, 249, 256, 261, 268, 275, 282, 287, 292, 299, 242, 304, 309, 328, 333, 340, 347, 354, 373, 380, 387, 394, 401, 408, 316, 323, 359, 439, 446, 453, 467, 461, 474, 493, 500, 521, 528, 533, 540, 545, 552, 557, 562, 569, 576, 581, 586, 591, 596, 603, 610, 615, 622, 629, 636, 643, 648, 655, 660, 667, 672, 679, 686, 691, 6, 4, 21, 53, 167, 174, 181, 186, 193, 200, 207, 214, 221, 0, 20, 30, 52, 73, 85, 97, 109, 121, 133, 145, 154, 161, 166, 173, 180, 185, 192, 199, 206, 213, 220, 227, 234, 241, 248, 255, 260, 267, 274, 281, 286, 291, 298, 303, 308, 315, 322, 327, 332, 339, 346, 353, 358, 427, 438, 445, 452, 509, 520, 527, 532, 539, 544, 551, 556, 561, 568, 575, 580, 585, 590, 595, 602, 609, 614, 621, 628, 635, 642, 647, 654, 659, 666, 671, 678, 685, 690, 15, 16, 17, 18, 19, 29, 32, 50, 51, 72, 84, 96, 108, 120, 132, 144, 149, 150, 151, 152, 153, 156, 157, 158, 159, 160, 163, 164, 165, 168, 169, 170, 171, 172, 175, 176, 177, 178, 179, 182, 183, 184, 187, 188, 189, 190, 191, 194, 195, 196, 197, 198, 201, 202, 203, 204, 205, 208, 209, 210, 211, 212, 215, 216, 217, 218, 219, 222, 223, 224, 225, 226, 229, 230, 231, 232, 233, 236, 237, 238, 239, 240, 243, 244, 245, 246, 247, 250, 251, 252, 253, 254, 257, 258, 259, 262, 263, 264, 265, 266, 269, 270, 271, 272, 273, 276, 277, 278, 279, 280, 283, 284, 285, 288, 289, 290, 293, 294, 295, 296, 297, 300, 301, 302, 305, 306, 307, 310, 311, 312, 313, 314, 317, 318, 319, 320, 321, 324, 325, 326, 329, 330, 331, 334, 335, 336, 337, 338, 341, 342, 343, 344, 345, 348, 349, 350, 351, 352, 355, 356, 357, 415, 424, 426, 429, 430, 433, 434, 435, 436, 437, 440, 441, 442, 443, 444, 447, 448, 449, 450, 451, 481, 486, 507, 508, 511, 512, 515, 516, 517, 518, 519, 522, 523, 524, 525, 526, 529, 530, 531, 534, 535, 536, 537, 538, 541, 542, 543, 546, 547, 548, 549, 550, 553, 554, 555, 558, 559, 560, 563, 564, 565, 566, 567, 570, 571, 572, 573, 574, 577, 578, 579, 582, 583, 584, 587, 588, 589, 592, 593, 594, 597, 598, 599, 600, 601, 604, 605, 606, 607, 608, 611, 612, 613, 616, 617, 618, 619, 620, 623, 624, 625, 626, 627, 630, 631, 632, 633, 634, 637, 638, 639, 640, 641, 644, 645, 646, 649, 650, 651, 652, 653, 656, 657, 658, 661, 662, 663, 664, 665, 668, 669, 670, 673, 674, 675, 676, 677, 680, 681, 682, 683, 684, 687, 688, 689, 49, 38, 70, 59, 372, 379, 386, 393, 400, 407, 414, 422, 423, 466, 462, 473, 480, 485, 492, 499, 506, 44, 45, 46, 47, 48, 65, 66, 67, 68, 69, 367, 368, 369, 370, 371, 374, 375, 376, 377, 378, 381, 382, 383, 384, 385, 388, 389, 390, 391, 392, 395, 396, 397, 398, 399, 402, 403, 404, 405, 406, 409, 410, 411, 412, 413, 421, 425, 463, 464, 465, 468, 469, 470, 471, 472, 475, 476, 477, 478, 479, 482, 483, 484, 487, 488, 489, 490, 491, 494, 495, 496, 497, 498, 501, 502, 503, 504, 505, 416, 417, 418, 419, 420]
abbrev hkA : PySem.W.Hook := HX.hookZ asA ckA atsA valsA
def obA (s : PySem.W.SharedT) : Bool × List FnI := obsZ asA ckA atsA (HandSHeadRun.getT s)
theorem obA_eq (s : PySem.W.SharedT) : obA s = hkA.obs s.abs := obsZ_eq (HandSHeadRun.getT_eq s)
set_option maxHeartbeats 0 in
theorem runA (w : World) : HandSHeadRun.RunEq RR (PySem.W.view RR.prog [96]) hkA obA 20000 namesA w := by
  intro os
  kernel_rfl
end LW
set_option Elab.async false
set_option linter.all false
set_option maxRecDepth 100000
set_option maxHeartbeats 4000000
namespace LW
open PySem PySem.Spec L2 DW PyProof.Rows
local macro_rules | `(tactic| walk_at "wp") => `(tactic| try simp only [u_lcO, u_restE, v_rng1, u_rngV, w_rngE, u_cval, w_isiO, u_par, u_iR3, u_makeSD, u_getXN, rngB_len, u_star, u_rev2L, u_callR, u_binXI, u_callX, u_getX, u_restF, u_binX, u_invX, w_neB, u_methXN, u_makeSN, u_tupR1, u_lc2, u_iZM, w_zipLT, w_zipTL, u_cntL, u_lstR1O, u_fld, w_fld, w_someE, u_setF, u_methX, w_objE, u_makeS, u_sortSet, u_lstR1, u_iZipL, u_iEnL, u_idx, u_popAt, u_cntT, u_idxT, u_callF, w_maxL, w_minL, w_ixDc, w_inDc, w_repL, w_listLs, w_tplT, w_tplP, u_isE, w_isE, u_kitER, u_kitET, u_excE, u_xf, w_xf1, u_slS, u_raise1, u_iEn, w_listStr, w_lenStr, w_catStr, w_ixStr, w_inStr, w_strE, w_strI, w_strS, u_rest, cut_to, cut_from1, Int.zero_add, u_revT, w_repT, u_tupG, u_try, u_gPlain, u_gThen, u_gNil, u_yield, u_gWhile, u_while, u_isX, u_kitR, u_kitT, u_excOk, w_zipE, u_goalX, u_lc, rngD_len, Int.toNat_natCast, u_for, u_iT, u_iL, u_iR1, u_iR2, u_iZ, u_iS, w_lstE, dwipe, u_asg, u_asgS, u_ret, u_retN, u_if, u_next, u_break, u_cont, u_drop, u_raise, u_aug, u_var, u_c, u_op, u_un, u_test, u_and, u_or, u_not, u_yes, u_andV, u_orV, u_notV, u_ifE, u_chain, u_nil, u_cons, u_tup, u_lst, u_own, u_cb, u_call, u_callS, u_name, u_etup, u_enil, u_econs, u_sub, u_app, u_slT, u_slL, u_noPart, u_part, u_revL, ex_some, w_I0, w_I, w_uI, w_int, w_bl, w_isi, w_someb, w_eqI, w_neI, w_eqS, w_neS, w_lenT, w_lenL, w_lenS, w_tupL, w_tupT, w_ixT, w_ixL, w_ixS, w_catT, w_catL, w_all, w_any, w_min2, w_divmod, w_listS, w_listL, w_listT, w_isN, w_notN, w_tupE, w_intE, w_consE, w_hdE, w_cellS, w_set, at0, at1, at2, at3, i_tT, i_tI, i_tB, i_tS, i_nT, i_nI, i_nB, i_nS, i_iT, i_iI, i_iB, i_iS, i_bT, i_bI, i_bB, i_bS, i_sT, i_sI, i_sB, i_sS, v_itemsS, w_eqB, isNone, dstart, List.map, List.length, List.replicate, List.cons_append, List.nil_append, List.append_nil, List.getElem?_cons_zero, List.getElem?_cons_succ, List.set_cons_zero, List.set_cons_succ, ix40, ix42, ix43, true_implies, false_implies, and_true, true_and, Bool.not_true, Bool.not_false, decide_eq_true_eq, decide_eq_false_iff_not, List.length_map, Nat.reduceAdd, reduceCtorEq, v_ixH, v_items, v_itemsT, v_itemsL, v_len, v_tuple, v_list, v_listOwn, sset_same, sset_sset, Option.some.injEq, Cell.lst.injEq, Cell.frz.injEq, false_and, exists_false, or_false, false_or, exists_eq_left', ne_eq, not_false_eq_true, isTup, Bool.true_eq_false, Bool.false_eq_true])
local macro_rules | `(tactic| walk_at "wps") => `(tactic| try simp only [u_seq, u_lcO, u_restE, v_rng1, u_rngV, w_rngE, u_cval, w_isiO, u_par, u_iR3, u_makeSD, u_getXN, rngB_len, u_star, u_rev2L, u_callR, u_binXI, u_callX, u_getX, u_restF, u_binX, u_invX, w_neB, u_methXN, u_makeSN, u_tupR1, u_lc2, u_iZM, w_zipLT, w_zipTL, u_cntL, u_lstR1O, u_fld, w_fld, w_someE, u_setF, u_methX, w_objE, u_makeS, u_sortSet, u_lstR1, u_iZipL, u_iEnL, u_idx, u_popAt, u_cntT, u_idxT, u_callF, w_maxL, w_minL, w_ixDc, w_inDc, w_repL, w_listLs, w_tplT, w_tplP, u_isE, w_isE, u_kitER, u_kitET, u_excE, u_xf, w_xf1, u_slS, u_raise1, u_iEn, w_listStr, w_lenStr, w_catStr, w_ixStr, w_inStr, w_strE, w_strI, w_strS, u_rest, cut_to, cut_from1, Int.zero_add, u_revT, w_repT, u_tupG, u_try, u_gPlain, u_gThen, u_gNil, u_yield, u_gWhile, u_while, u_isX, u_kitR, u_kitT, u_excOk, w_zipE, u_goalX, u_lc, rngD_len, Int.toNat_natCast, u_for, u_iT, u_iL, u_iR1, u_iR2, u_iZ, u_iS, w_lstE, dwipe, u_asg, u_asgS, u_ret, u_retN, u_if, u_next, u_break, u_cont, u_drop, u_raise, u_aug, u_var, u_c, u_op, u_un, u_test, u_and, u_or, u_not, u_yes, u_andV, u_orV, u_notV, u_ifE, u_chain, u_nil, u_cons, u_tup, u_lst, u_own, u_cb, u_call, u_callS, u_name, u_etup, u_enil, u_econs, u_sub, u_app, u_slT, u_slL, u_noPart, u_part, u_revL, ex_some, w_I0, w_I, w_uI, w_int, w_bl, w_isi, w_someb, w_eqI, w_neI, w_eqS, w_neS, w_lenT, w_lenL, w_lenS, w_tupL, w_tupT, w_ixT, w_ixL, w_ixS, w_catT, w_catL, w_all, w_any, w_min2, w_divmod, w_listS, w_listL, w_listT, w_isN, w_notN, w_tupE, w_intE, w_consE, w_hdE, w_cellS, w_set, at0, at1, at2, at3, i_tT, i_tI, i_tB, i_tS, i_nT, i_nI, i_nB, i_nS, i_iT, i_iI, i_iB, i_iS, i_bT, i_bI, i_bB, i_bS, i_sT, i_sI, i_sB, i_sS, v_itemsS, w_eqB, isNone, dstart, List.map, List.length, List.replicate, List.cons_append, List.nil_append, List.append_nil, List.getElem?_cons_zero, List.getElem?_cons_succ, List.set_cons_zero, List.set_cons_succ, ix40, ix42, ix43, true_implies, false_implies, and_true, true_and, Bool.not_true, Bool.not_false, decide_eq_true_eq, decide_eq_false_iff_not, List.length_map, Nat.reduceAdd, reduceCtorEq, v_ixH, v_items, v_itemsT, v_itemsL, v_len, v_tuple, v_list, v_listOwn, sset_same, sset_sset, Option.some.injEq, Cell.lst.injEq, Cell.frz.injEq, false_and, exists_false, or_false, false_or, exists_eq_left', ne_eq, not_false_eq_true, isTup, Bool.true_eq_false, Bool.false_eq_true])
section
variable {P : Program} {w : World} {K : Fg} {mg : Str → Option Value} {base : Heap}
def c_wrong_query (n : Nat) : Con := fun ds μ Φ _ => ∃ (ws : List Int) (oc lv : Nat) (t : QT), ds = [qD t, .tup (ws.map .int), .int (oc : Int), .int (lv : Int)] ∧ WsOk ws ∧ QOk ws oc t ∧ lv ≤ 20 ∧ 20 < n + lv ∧ Φ (pN (qTD t (20 - lv))) μ
theorem len_wrong_query {n ds μ Φ Ψ} (h : c_wrong_query n ds μ Φ Ψ) : ds.length = 4 := by obtain ⟨i, _, _, _, rfl, _⟩ := h; rfl
theorem step_wrong_query (T : Txt P w K mg) {k : Nat} (hk : 4 ≤ k) (n : Nat) (ih_wrong_query : FnOk P w K mg base (L2N.CX P w) k T.f_wrong_query T.d_wrong_query ["term", "widths", "outcomes", "level"] (spOf K (c_wrong_query n))) : FnOk P w K mg base (L2N.CX P w) (k + 1) T.f_wrong_query T.d_wrong_query ["term", "widths", "outcomes", "level"] (spOf K (c_wrong_query (n + 1))) := by
  refine def_okC T.F_wrong_query sc_wrong_query _ (fun ds μ Φ Ψ h => len_wrong_query h) (fun cdv A outer s H E B hW hr =>
    have tk : L2N.Takes (cxOf (L2N.CX P w) P w K mg base N_wrong_query "wrong_query" (defScope s_wrong_query) T.f_wrong_query cdv A outer s H E) (fun cls d _ H => E cls d H) := L2N.takes_of rfl rfl rfl rfl
    ⟨_, (pss_cons (ps_if (pt_not (pt_val (pe_call (ok_has_query_form T) (hr.mono (by omega)) rfl T.g_has_query_form T.F_has_query_form.kp T.b_has_query_form .nil passN (pa_cons (pv 0) (pa_cons (pv 1) (pa_cons (pv 3) pa_nil)))))) (pss_one (ps_ret (pe_tupN pa_nil))) pss_nil)
      (pss_cons (ps_if (pt_cmpR op_eq (pe_ix ix_tup (pv 0) pe_int (fun _ _ => rfl)) pe_str (nomark _)) (pss_one (ps_ret (pe_ifExp (pt_val (pe_call (ok_is_below T) (hr.mono (by omega)) rfl T.g_is_below T.F_is_below.kp T.b_is_below .nil passN (pa_cons (pe_ix ix_tup (pv 0) pe_int (fun _ _ => rfl)) (pa_cons (pv 2) pa_nil)))) pe_non (pe_tupN (pa_cons pe_int pa_nil))))) pss_nil)
      (pss_cons (ps_if (pt_not (pt_val (pe_call (ok_is_below T) (hr.mono (by omega)) rfl T.g_is_below T.F_is_below.kp T.b_is_below .nil passN (pa_cons (pe_ix ix_tup (pv 0) pe_int (fun _ _ => rfl)) (pa_cons (pe_glob (v := .int 100) rfl T.g_PLACES.choose_spec ⟨_, rfl⟩) pa_nil))))) (pss_one (ps_ret (pe_tupN (pa_cons pe_int pa_nil)))) pss_nil)
      (pss_cons (ps_for (passes_of rfl) rfl (pi_enumTg (n := 2) (by rfl) T.z_enumerate (pe_glob (v := .int 2) rfl T.g_ITEMS_BEFORE.choose_spec ⟨_, rfl⟩) (pa_cons (pe_call (ok_terms_behind T) (hr.mono (by omega)) rfl T.g_terms_behind T.F_terms_behind.kp T.b_terms_behind .nil passN (pa_cons (pv 0) pa_nil)) pa_nil) (by decide) (by decide)) (pg_tup (n := 2) rfl (pgs_cons (pg_name (i := 4) sc_wrong_query.nd rfl (Or.inl rfl)) (pgs_cons (pg_name (i := 5) sc_wrong_query.nd rfl (Or.inl rfl)) pgs_nil))) (pss_cons (ps_set (i := 6) sc_wrong_query.nd rfl (Or.inl rfl) (pe_call ih_wrong_query hr rfl T.g_wrong_query T.F_wrong_query.kp T.b_wrong_query .nil passN (pa_cons (pv 5) (pa_cons (pv 1) (pa_cons (pv 2) (pa_cons (pe_op op_add (pv 3) pe_int) pa_nil))))))
      (pss_one (ps_if (pt_cmpR op_notN (pv 6) pe_non (nomark _)) (pss_one (ps_ret (pe_op op_catN (pe_tupN (pa_cons (pv 4) pa_nil)) (pv 6)))) pss_nil))))
      (pss_one (ps_ret pe_non)))))),
      (sSeq (sIfS (sNot (sB (sCall (sCons sVar (sCons sVar (sCons sVar sNil)))))) (sRet (sTup sNil)) sNext)
      (sSeq (sIfS (sTest (sOp roEq (sOp roIxT sVar sInt) sStr)) (sRet (sIf (sB (sCall (sCons (sOp roIxT sVar sInt) (sCons sVar sNil)))) sNon (sTup (sCons sInt sNil)))) sNext)
      (sSeq (sIfS (sNot (sB (sCall (sCons (sOp roIxT sVar sInt) (sCons sInt sNil))))) (sRet (sTup (sCons sInt sNil))) sNext)
      (sSeq (sFor (siEnumT (sCall (sCons sVar sNil))) (fun _ _ _ => (sgTup (sgCons sName (sgCons sName sgNil)))) (fun _ _ _ => (sSeq (sAsg (sCall (sCons sVar (sCons sVar (sCons sVar (sCons (sOp roInt0 sVar sInt) sNil))))) sName)
      (sIfS (sTest (sOp roNotN sVar sNon)) (sRet (sOp roCatT (sTup (sCons sVar sNil)) sVar)) sNext))))
      (sRet sNon)))))⟩) (fun ds μ Φ Ψ h => ?hv)
  case hv =>
    obtain ⟨ws, oc, lv, t, rfl, hw, ht, hl, hn, h⟩ := h
    refine seq_cut fun M hM => ?_
    walk_at "wp"
    refine ⟨ws, oc, lv, t, rfl, hw, ht, ?_⟩
    cases t with
    | tell o =>
      walk_at "wp"
      rw [hM]; clear hM M
      rw [qD]
      refine seq_cut fun M hM => ?_
      walk_at "wp"
      have ho : o < oc := ht
      rw [qTD_tell] at h
      refine ⟨?_, fun z => absurd trivial z⟩
      simp only [w_is_below]
      walk_at "wp"
      refine ⟨fun _ => ret_same h, fun z => absurd (show 0 ≤ (o : Int) ∧ (o : Int) < (oc : Int) by omega) z⟩
    | look p ts =>
      obtain ⟨hp, hlen, hts⟩ := ht
      rw [qoks_iff] at hts
      by_cases h20 : lv < 20
      · have e0 : decide (lv < 20) = true := decide_eq_true h20
        obtain ⟨m, hm⟩ : ∃ m, 20 - lv = m + 1 := ⟨19 - lv, by omega⟩
        have hm2 : 20 - (lv + 1) = m := by omega
        rw [hm, qTD_succ] at h
        simp only [e0]
        walk_at "wp"
        rw [hM]; clear hM M
        rw [qD]
        refine seq_cut fun M hM => ?_
        walk_at "wp"
        refine ⟨fun q => absurd q (by decide), fun _ => ?_⟩
        rw [hM]; clear hM M
        refine seq_cut fun M hM => ?_
        walk_at "wp"
        simp only [w_is_below]
        walk_at "wp"
        rw [decide_eq_true (show 0 ≤ (p : Int) ∧ (p : Int) < 100 by omega)]
        walk_at "wp"
        rw [hM]; clear hM M
        refine seq_cut fun M hM => ?_
        walk_at "wp"
        refine ⟨_, rfl, _, rfl, ?_⟩
        rw [List.drop_succ_cons, List.drop_succ_cons, List.drop_zero]
        have e1 : (qDs ts).length = ts.length := qDs_len ts
        refine ⟨fun i δ' μ' => μ' = μ ∧ (∀ j, j < i → ∀ hj : j < ts.length, qTD ts[j] m = none) ∧ ∃ x y z, δ' = [some (.tup (.str "look" :: .int (p : Int) :: qDs ts)), some (.tup (ws.map .int)), some (.int (oc : Int)), some (.int (lv : Int)), x, y, z], ⟨rfl, fun j hj => absurd hj (Nat.not_lt_zero _), none, none, none, rfl⟩, ?_, ?_⟩
        · rintro i d δ' μ' hi ⟨rfl, hpre, x, y, z, rfl⟩
          have hil : i < ts.length := by have := (List.getElem?_eq_some_iff.mp hi).1; rw [List.length_map, List.length_range, e1] at this; exact this
          rw [List.getElem?_map, List.getElem?_range (by rw [e1]; exact hil)] at hi
          cases hi
          refine ⟨_, rfl, rfl, _, _, rfl, _, _, rfl, rfl, ?_⟩
          rw [qDs_at hil]
          walk_at "wps"
          refine ⟨ws, oc, lv + 1, ts[i], rfl, hw, hts _ (List.getElem_mem hil), by omega, by omega, ?_⟩
          rw [hm2]
          cases e : qTD ts[i] m with
          | none =>
            simp only [pN]
            walk_at "wps"
            refine ⟨fun j hj hjl => ?_, _, _, _, rfl⟩
            by_cases z : j = i
            · subst z; exact e
            · exact hpre j (by omega) hjl
          | some q =>
            have hq := qTD_len _ _ _ e
            rw [qTDs_at ts m 2 i hil hpre, e] at h
            simp only [pN] at h ⊢
            walk_at "wps"
            refine ⟨by decide, by rw [nI_len]; omega, ret_same ?_⟩
            have : (2 : Int) + (i : Int) = ((2 + i : Nat) : Int) := by omega
            rw [this]
            exact h
        · rintro δ' μ' ⟨rfl, hpre, x, y, z, rfl⟩
          rw [hM]
          walk_at "wp"
          rw [qTDs_none ts m 2 fun t ht => by
            obtain ⟨j, hj, rfl⟩ := List.mem_iff_getElem.mp ht
            exact hpre j (by rw [List.length_range, e1]; exact hj) hj] at h
          exact ret_same h
      · have e0 : decide (lv < 20) = false := decide_eq_false h20
        rw [show 20 - lv = 0 by omega, qTD_zero] at h
        simp only [e0]
        walk_at "wp"
        exact ⟨by decide, ret_same h⟩
def c_places_of (n : Nat) : Con := fun ds μ Φ _ => ∃ (ws : List Int) (oc : Nat) (t : QT), ds = [qD t] ∧ QOk ws oc t ∧ qDep t < n ∧ (qPl t).length ≤ 5000 ∧ Φ (.lst (nI (qPl t))) μ
theorem len_places_of {n ds μ Φ Ψ} (h : c_places_of n ds μ Φ Ψ) : ds.length = 1 := by obtain ⟨i, _, _, rfl, _⟩ := h; rfl
theorem step_places_of (T : Txt P w K mg) {k : Nat} (hk : 4 ≤ k) (n : Nat) (ih_places_of : FnOk P w K mg base (L2N.CX P w) k T.f_places_of T.d_places_of ["term"] (spOf K (c_places_of n))) : FnOk P w K mg base (L2N.CX P w) (k + 1) T.f_places_of T.d_places_of ["term"] (spOf K (c_places_of (n + 1))) := by
  refine def_okC T.F_places_of sc_places_of _ (fun ds μ Φ Ψ h => len_places_of h) (fun cdv A outer s H E B hW hr =>
    have tk : L2N.Takes (cxOf (L2N.CX P w) P w K mg base N_places_of "places_of" (defScope s_places_of) T.f_places_of cdv A outer s H E) (fun cls d _ H => E cls d H) := L2N.takes_of rfl rfl rfl rfl
    ⟨_, (pss_cons (ps_if (pt_cmpR op_eq (pe_ix ix_tup (pv 0) pe_int (fun _ _ => rfl)) pe_str (nomark _)) (pss_one (ps_ret (pe_lst pa_nil))) pss_nil)
      (pss_one (ps_ret (pe_op op_cat (pe_lst (pa_cons (pe_ix ix_tup (pv 0) pe_int (fun _ _ => rfl)) pa_nil)) (pe_lc2 (own := [("below", 1), ("place", 2)]) (vs1 := [2]) rfl sc_places_of.nd (pi_tup (pe_call (ok_terms_behind T) (hr.mono (by omega)) rfl T.g_terms_behind T.F_terms_behind.kp T.b_terms_behind .nil passN (pa_cons (pv 0) pa_nil))) (blkOk_by (N := N_places_of) (sc := defScope s_places_of) (by decide +kernel)) (by decide) (fun _ _ _ _ _ => (pg_name (i := 1) sc_places_of.nd rfl (Or.inl rfl))) (fun _ _ _ _ _ => pts_nil) (fun _ _ _ _ _ => (pi_list (pe_call ih_places_of hr (by rfl) T.g_places_of T.F_places_of.kp T.b_places_of .nil passN (pa_cons (pv 1) pa_nil)))) (fun _ _ _ _ _ => (pg_name (i := 2) sc_places_of.nd rfl (Or.inl rfl))) (fun _ _ _ _ _ => pts_nil) (fun _ _ _ _ _ => (pv 2))))))),
      (sSeq (sIfS (sTest (sOp roEq (sOp roIxT sVar sInt) sStr)) (sRet (sLst sNil)) sNext)
      (sRet (sOp roCatL (sLst (sCons (sOp roIxT sVar sInt) sNil)) (sLc2 (siT (sCall (sCons sVar sNil))) (gwName List.mem_cons_self) (gwName List.mem_cons_self) (fun _ _ _ => sName) (fun _ _ _ => sYes) (fun _ _ _ => (siL (sCall (sCons sVar sNil)))) (fun _ _ _ => sName) (fun _ _ _ => sYes) (fun _ _ _ => sVar)))))⟩) (fun ds μ Φ Ψ h => ?hv)
  case hv =>
    obtain ⟨ws, oc, t, rfl, ht, hn, hb, h⟩ := h
    cases t with
    | tell o =>
      rw [qD]
      walk_at "wps"
      exact ⟨⟨by omega, ret_same h⟩, fun z => absurd trivial z⟩
    | look p ts =>
      obtain ⟨hp, hlen, hts⟩ := ht
      rw [qoks_iff] at hts
      rw [qDep] at hn
      rw [qPl, List.length_cons] at hb
      rw [qD]
      walk_at "wps"
      refine ⟨fun q => absurd q (by decide), fun _ => ⟨by omega, _, rfl, _, rfl, ?_⟩⟩
      rw [List.drop_succ_cons, List.drop_succ_cons, List.drop_zero]
      have hcol : ∀ i, i < ts.length → (qPl (ts.getD i (.tell 0))).length ≤ (qPl.qPls ts).length := fun i hi => by
        rw [List.getD_eq_getElem?_getD, List.getElem?_eq_getElem hi]
        exact qpls_len (List.getElem_mem hi)
      have e1 : (qDs ts).length = ts.length := qDs_len ts
      refine lcG2_pure (fun i => nI (qPl (ts.getD i (.tell 0)))) (fun i j => .int (((qPl (ts.getD i (.tell 0))).getD j 0 : Nat) : Int)) (fun i hi => ?_) (fun i => ?_) (fun i d μ2 X hi hsub hx => ?_) (fun i d j d1 μ2 X hi hj hsub hx => ?_) ?_
      · rw [e1] at hi
        rw [nI_flat ts i hi, nI_len]
        have := qpls_take ts i
        omega
      · rw [nI_len]
        by_cases hi : i < ts.length
        · have := hcol i hi
          omega
        · rw [List.getD_eq_getElem?_getD, List.getElem?_eq_none (by omega)]
          show ([] : List Nat).length ≤ 50000
          decide
      · obtain ⟨hil, rfl⟩ := qDs_get hi
        have hd := qdeps_le (List.getElem_mem hil)
        have hl := qpls_len (List.getElem_mem hil)
        walk_at "wps"
        refine ⟨ws, oc, ts[i], rfl, hts _ (List.getElem_mem hil), by omega, by omega, ?_⟩
        rw [List.getD_eq_getElem?_getD, List.getElem?_eq_getElem hil] at hx
        exact ⟨_, rfl, hx⟩
      · obtain ⟨hjl, rfl⟩ := nI_get hj
        walk_at "wps"
        rw [List.getD_eq_getElem?_getD, List.getElem?_eq_getElem hjl] at hx
        exact hx
      · rw [e1, nI_flat ts _ (Nat.le_refl _), List.take_length]
        walk_at "wps"
        rw [nI_len]
        exact ⟨by omega, ret_same (by rw [qPl] at h; exact h)⟩
end
section
variable {P : Program} {w : World} {K : Fg} {mg : Str → Option Value} {base : Heap}
def c_Row___init__ (C O : Addr) : Con := fun ds μ Φ Ψ => ∃ (x : Addr) (h c : List Int), ds = [.hd (.ref x), .tup (h.map .int), .tup (c.map .int)] ∧ h.length ≤ 1000 ∧ c.length ≤ 1000 ∧ μ x = some (.ins C [] []) ∧ (¬ (c ≠ [] ∧ ∀ y ∈ h ++ c, 0 ≤ y) → Ψ (.mk O none) μ) ∧ (RwOk ⟨h, c⟩ → Φ .non (sset μ x (.ins C NSA [.tup (h.map .int), .tup (c.map .int)])))
theorem len_Row___init__ {C O ds μ Φ Ψ} (h : c_Row___init__ C O ds μ Φ Ψ) : ds.length = 3 := by obtain ⟨_, _, _, rfl, _⟩ := h; rfl
theorem ok_Row___init__ (T : Txt P w K mg) : FnOk P w K mg base (L2N.CX P w) 2 T.f_Row___init__ T.d_Row___init__ ["self", "head", "cycle"] (spOf K (c_Row___init__ T.c_Row T.c_OutOfRange)) := by
  refine def_okD T.F_Row___init__ sc_Row___init__ _ (fun ds μ Φ Ψ h => len_Row___init__ h) (fun cdv A outer s H E B hW hr =>
    have tk : L2N.Takes (cxOf (L2N.CX P w) P w K mg base N_Row___init__ "Row.__init__" (defScope s_Row___init__) T.f_Row___init__ cdv A outer s H E) (fun cls d _ H => E cls d H) := L2N.takes_of rfl rfl rfl rfl
    ⟨_, (pss_cons (ps_if (PW.pt (pw_or (pt_cmpR op_eq (pe_callB call_len_seq (by rfl) T.z_len PySem.boot_len (pa_cons (pv 2) pa_nil)) pe_int (nomark _)) (pw_or1 (pt_not (pt_val (pe_callB (cr_all rfl) (by rfl) T.z_all (by decide +kernel) (pa_cons (pe_lc (own := [("entry", 3)]) rfl sc_Row___init__.nd (pi_tup (pe_op op_catN (pv 1) (pv 2))) (blkOk_by (N := N_Row___init__) (sc := defScope s_Row___init__) (by decide +kernel)) (fun _ _ _ _ _ => (pg_name (i := 3) sc_Row___init__.nd rfl (Or.inl rfl))) (fun _ _ _ _ _ => pts_nil) (fun _ _ _ _ _ => (pe_cmpR op_ge (pv 3) pe_int (nomark _)))) pa_nil))))))) (pss_one (L2N.ps_raise rfl tk (L2N.pmk_own PySem.F.excBase_ValueError T.x_OutOfRange T.g_OutOfRange T.k_OutOfRange (raises_own T.e_OutOfRange T.t_OutOfRange) rfl))) pss_nil)
      (pss_cons (ps_fld (pv 0) (pv 1) rfl)
      (pss_one (ps_fld (pv 0) (pv 2) rfl)))),
      (sSeq (sIfS (sOr (sTest (sOp roEq (sCB rcLen (sCons sVar sNil)) sInt)) (sNot (sB (sCB rcAll (sCons (sLc (siT (sOp roCatT sVar sVar)) (gwName List.mem_cons_self) (fun _ _ _ => sName) (fun _ _ _ => sYes) (fun _ _ _ => (sOp roBl0 sVar sInt))) sNil))))) (sRaise0W (W := fun cls d _ H => E cls d H) (C := T.c_OutOfRange) (by exact hW)) sNext)
      (sSeq (sSetF T.cls_Row T.na_Row_head sVar sVar)
      (sSetF T.cls_Row T.na_Row_cycle sVar sVar)))⟩) (fun ds μ Φ Ψ h => ?hv)
  case hv =>
    obtain ⟨x, hh, c, rfl, hl, cl, hx, h1, h2⟩ := h
    refine seq_cut fun M hM => ?_
    walk_at "wp"
    have eall : ((hh ++ c).map fun y => D.bl (decide (0 ≤ y))) = ((hh ++ c).map fun y => decide (0 ≤ y)).map .bl := by rw [List.map_map]; rfl
    refine ⟨fun q => ⟨_, Sub.refl, h1 fun z => z.1 (List.eq_nil_of_length_eq_zero (by omega))⟩, fun q => ⟨by omega, ?_⟩⟩
    rw [← List.map_append]
    refine lcZ (fun y => .bl (decide (0 ≤ y))) (by rw [List.length_append]; omega) (fun z μ2 X hz hsub hx => ?_) ?_
    · walk_at "wp"
      exact hx
    rw [eall]
    refine w_allB rfl ⟨_, rfl, fun q2 => ⟨_, Sub.refl, h1 fun z => ?_⟩, fun q2 => ?_⟩
    · have : (((hh ++ c).map fun y => decide (0 ≤ y)).all id) = true := by
        rw [List.all_map, List.all_eq_true]
        exact fun y hy => decide_eq_true (z.2 y hy)
      rw [this] at q2; cases q2
    · have hall : ∀ y ∈ hh ++ c, 0 ≤ y := by
        have : (((hh ++ c).map fun y => decide (0 ≤ y)).all id) = true := by
          cases e : (((hh ++ c).map fun y => decide (0 ≤ y)).all id) with
          | true => rfl
          | false => rw [e] at q2; cases q2
        rw [List.all_map, List.all_eq_true] at this
        exact fun y hy => of_decide_eq_true (this y hy)
      rw [hM]; clear hM M
      walk_at "wps"
      refine ⟨_, _, _, rfl, hx, by decide, by decide, _, _, _, rfl, sset_same, by decide, by decide, ?_⟩
      walk_at "wps"
      exact ret_same (h2 ⟨fun z => q (by have z : c = [] := z; rw [z]; rfl), hl, cl, fun y hy => hall y (List.mem_append_left _ hy), fun y hy => hall y (List.mem_append_right _ hy)⟩)
def c_Row___getitem__ (C O : Addr) : Con := fun ds μ Φ Ψ => ∃ (r : Rw) (i : Int), ds = [rwO C r, .int i] ∧ RwOk r ∧ (i < 0 → Ψ (.mk O none) μ) ∧ (∀ n : Nat, i = (n : Int) → Φ (.int (ent r n)) μ)
theorem len_Row___getitem__ {C O ds μ Φ Ψ} (h : c_Row___getitem__ C O ds μ Φ Ψ) : ds.length = 2 := by obtain ⟨_, _, rfl, _⟩ := h; rfl
theorem ok_Row___getitem__ (T : Txt P w K mg) : FnOk P w K mg base (L2N.CX P w) 2 T.f_Row___getitem__ T.d_Row___getitem__ ["self", "at"] (spOf K (c_Row___getitem__ T.c_Row T.c_OutOfRange)) := by
  refine def_okC T.F_Row___getitem__ sc_Row___getitem__ _ (fun ds μ Φ Ψ h => len_Row___getitem__ h) (fun cdv A outer s H E B hW hr =>
    have tk : L2N.Takes (cxOf (L2N.CX P w) P w K mg base N_Row___getitem__ "Row.__getitem__" (defScope s_Row___getitem__) T.f_Row___getitem__ cdv A outer s H E) (fun cls d _ H => E cls d H) := L2N.takes_of rfl rfl rfl rfl
    ⟨_, (pss_cons (ps_if (pt_cmpR op_lt (pv 1) pe_int (nomark _)) (pss_one (L2N.ps_raise rfl tk (L2N.pmk_own PySem.F.excBase_ValueError T.x_OutOfRange T.g_OutOfRange T.k_OutOfRange (raises_own T.e_OutOfRange T.t_OutOfRange) rfl))) pss_nil)
      (pss_cons (ps_if (pt_cmpR op_lt (pv 1) (pe_callB call_len_seq (by rfl) T.z_len PySem.boot_len (pa_cons (pe_fld (pv 0) rfl) pa_nil)) (nomark _)) (pss_one (ps_ret (pe_ix ix_tup (pe_fld (pv 0) rfl) (pv 1) (fun _ _ => rfl)))) pss_nil)
      (pss_one (ps_ret (pe_ix ix_tup (pe_fld (pv 0) rfl) (pe_op op_mod (pe_op op_sub (pv 1) (pe_callB call_len_seq (by rfl) T.z_len PySem.boot_len (pa_cons (pe_fld (pv 0) rfl) pa_nil))) (pe_callB call_len_seq (by rfl) T.z_len PySem.boot_len (pa_cons (pe_fld (pv 0) rfl) pa_nil))) (fun _ _ => rfl)))))),
      (sSeq (sIfS (sTest (sOp roBl0 sVar sInt)) (sRaise0W (W := fun cls d _ H => E cls d H) (C := T.c_OutOfRange) (by exact hW)) sNext)
      (sSeq (sIfS (sTest (sOp roBl0 sVar (sCB rcLen (sCons (sFldO (NS := NS_Row) (i := 0) T.cls_Row T.na_Row_head rfl (by decide) sVar) sNil)))) (sRet (sOp roIxT (sFldO (NS := NS_Row) (i := 0) T.cls_Row T.na_Row_head rfl (by decide) sVar) sVar)) sNext)
      (sRet (sOp roIxT (sFldO (NS := NS_Row) (i := 1) T.cls_Row T.na_Row_cycle rfl (by decide) sVar) (sOp roInt (sOp roInt0 sVar (sCB rcLen (sCons (sFldO (NS := NS_Row) (i := 0) T.cls_Row T.na_Row_head rfl (by decide) sVar) sNil))) (sCB rcLen (sCons (sFldO (NS := NS_Row) (i := 1) T.cls_Row T.na_Row_cycle rfl (by decide) sVar) sNil)))))))⟩) (fun ds μ Φ Ψ h => ?hv)
  case hv =>
    obtain ⟨r, i, rfl, hr, h1, h2⟩ := h
    have e1 : rwO T.c_Row r = D.obj T.c_Row NSA [.tup (r.h.map .int), .tup (r.c.map .int)] := rfl
    refine seq_cut fun M hM => ?_
    rw [e1]
    walk_at "wp"
    refine ⟨fun q => ⟨_, Sub.refl, h1 q⟩, fun q => ?_⟩
    obtain ⟨n, rfl⟩ : ∃ n : Nat, i = (n : Int) := ⟨i.toNat, by omega⟩
    have h2 := h2 n rfl
    show M [some (.obj T.c_Row NSA [.tup (r.h.map .int), .tup (r.c.map .int)]), some (.int n)] μ
    rw [hM]; clear hM M
    refine seq_cut fun M hM => ?_
    walk_at "wp"
    have hcn : 0 < r.c.length := List.length_pos_iff.mpr hr.c0
    refine ⟨fun q => ⟨_, atI_nat (v := .int (ent r n)) ?_, ret_same h2⟩, fun q => ?_⟩
    · have hn : n < r.h.length := by omega
      rw [List.getElem?_map, List.getElem?_eq_getElem hn]
      unfold ent
      rw [if_pos hn, List.getD_eq_getElem?_getD, List.getElem?_eq_getElem hn]; rfl
    · have hn : ¬ n < r.h.length := by omega
      have hm := Nat.mod_lt (n - r.h.length) hcn
      rw [hM]; clear hM M
      walk_at "wps"
      have em : ((n : Int) - (r.h.length : Int)) % (r.c.length : Int) = (((n - r.h.length) % r.c.length : Nat) : Int) := by
        rw [show (n : Int) - (r.h.length : Int) = ((n - r.h.length : Nat) : Int) by omega]; rfl
      rw [em]
      refine ⟨by omega, _, atI_nat (v := .int (ent r n)) ?_, ret_same h2⟩
      rw [List.getElem?_map, self_at hm]
      unfold ent
      rw [if_neg hn, cyc_mod]; rfl
theorem fn_never {P : Program} {w : World} {K : Fg} {mg : Str → Option Value} {base : Heap} {CX : CXT} {k : Nat} {f : Addr} {fd : FuncData} {ps : List Str} {c : Con} (h : ∀ ds μ Φ Ψ, ¬ c ds μ Φ Ψ) : FnOk P w K mg base CX k f fd ps (spOf K c) :=
  ⟨fun vs H Q E q => by obtain ⟨μ, ds, Φ, Ψ, _, _, hc, _⟩ := q; exact absurd hc (h _ _ _ _), fun A outer s H args us vs Q E _ _ _ _ q => by obtain ⟨μ, ds, Φ, Ψ, _, _, hc, _⟩ := q; exact absurd hc (h _ _ _ _)⟩
section
variable {P : Program} {w : World} {K : Fg} {mg : Str → Option Value} {base : Heap}
theorem okN_wrong_query (T : Txt P w K mg) : ∀ n, FnOk P w K mg base (L2N.CX P w) (4 + n) T.f_wrong_query T.d_wrong_query ["term", "widths", "outcomes", "level"] (spOf K (c_wrong_query n))
  | 0 => fn_never fun ds μ Φ Ψ h => by obtain ⟨_, _, _, _, _, _, _, _, h, _⟩ := h; omega
  | n + 1 => step_wrong_query T (k := 4 + n) (by omega) n (okN_wrong_query T n)
theorem ok_wrong_query (T : Txt P w K mg) : FnOk P w K mg base (L2N.CX P w) 30 T.f_wrong_query T.d_wrong_query ["term", "widths", "outcomes", "level"] (spOf K (c_wrong_query 21)) := (okN_wrong_query T 21).mono (by decide)
theorem okN_places_of (T : Txt P w K mg) : ∀ n, FnOk P w K mg base (L2N.CX P w) (4 + n) T.f_places_of T.d_places_of ["term"] (spOf K (c_places_of n))
  | 0 => fn_never fun ds μ Φ Ψ h => by obtain ⟨_, _, _, _, _, h, _⟩ := h; omega
  | n + 1 => step_places_of T (k := 4 + n) (by omega) n (okN_places_of T n)
theorem ok_places_of (T : Txt P w K mg) : FnOk P w K mg base (L2N.CX P w) 30 T.f_places_of T.d_places_of ["term"] (spOf K (c_places_of 21)) := (okN_places_of T 21).mono (by decide)
end
theorem wpr_lt {ws : List Int} (hw : WsOk ws) : ∀ l : List Nat, wpr ws l < 2 ^ (2 * l.length + 1)
  | [] => by rw [wpr]; decide
  | p :: l => by
    have h1 := hw.wd1 p
    have h2 := wpr_lt hw l
    rw [wpr, List.length_cons, show 2 * (l.length + 1) + 1 = (2 * l.length + 1) + 2 by omega, Nat.pow_add]
    calc wd ws p * wpr ws l ≤ 4 * wpr ws l := Nat.mul_le_mul_right _ h1.2
      _ < 4 * 2 ^ (2 * l.length + 1) := by omega
      _ = 2 ^ (2 * l.length + 1) * 2 ^ 2 := by omega
theorem qMs_len (l : List Nat) : (qMs l).length ≤ 100 := by
  have := List.length_filter_le (fun p => decide (p ∈ l)) (List.range 100)
  rw [List.length_range] at this
  exact this
def c_require_few (C : Addr) : Con := fun ds μ Φ Ψ => ∃ (ws : List Int) (l : List Nat), ds = [.lst (nI l), .tup (ws.map .int)] ∧ WsOk ws ∧ l.length ≤ 5000 ∧ (qMs l).length ≤ 60 ∧ (∀ q ∈ l, q < 100) ∧ (l.length ≤ 300 → wpr ws (qMs l) ≤ 256 → Φ .non μ) ∧ (¬ (l.length ≤ 300 ∧ wpr ws (qMs l) ≤ 256) → Ψ (.mk C none) μ)
theorem len_require_few {C ds μ Φ Ψ} (h : c_require_few C ds μ Φ Ψ) : ds.length = 2 := by obtain ⟨i, _, rfl, _⟩ := h; rfl
theorem ok_require_few (T : Txt P w K mg) : FnOk P w K mg base (L2N.CX P w) 3 T.f_require_few T.d_require_few ["places", "widths"] (spOf K (c_require_few T.c_TooLarge)) := by
  refine def_okC T.F_require_few sc_require_few _ (fun ds μ Φ Ψ h => len_require_few h) (fun cdv A outer s H E B hW hr =>
    have tk : L2N.Takes (cxOf (L2N.CX P w) P w K mg base N_require_few "require_few" (defScope s_require_few) T.f_require_few cdv A outer s H E) (fun cls d _ H => E cls d H) := L2N.takes_of rfl rfl rfl rfl
    ⟨_, (pss_cons (ps_if (pt_cmpR op_gt (pe_callB call_len_seq (by rfl) T.z_len PySem.boot_len (pa_cons (pv 0) pa_nil)) (ClX.pe_cval (pe_glob (v := .ref T.c_Query) rfl T.g_Query rfl)) (nomark _)) (pss_one (L2N.ps_raise rfl tk (L2N.pmk_own PySem.F.excBase_ValueError T.x_TooLarge T.g_TooLarge T.k_TooLarge (raises_own T.e_TooLarge T.t_TooLarge) rfl))) pss_nil)
      (pss_one (ps_if (pt_cmpR op_gt (pe_call (ok_count_choices T) (hr.mono (by decide)) rfl T.g_count_choices T.F_count_choices.kp T.b_count_choices .nil passN (pa_cons (pe_lc (own := [("place", 2)]) rfl sc_require_few.nd (pi_list (pe_sortSet rfl T.z_sorted rfl T.z_set (pv 0))) (blkOk_by (N := N_require_few) (sc := defScope s_require_few) (by decide +kernel)) (fun _ _ _ _ _ => (pg_name (i := 2) sc_require_few.nd rfl (Or.inl rfl))) (fun _ _ _ _ _ => pts_nil) (fun _ _ _ _ _ => (pe_call (ok_width_at T) (hr.mono (by decide)) rfl T.g_width_at T.F_width_at.kp T.b_width_at .nil passN (pa_cons (pv 1) (pa_cons (pv 2) pa_nil))))) pa_nil)) (ClX.pe_cval (pe_glob (v := .ref T.c_Query) rfl T.g_Query rfl)) (nomark _)) (pss_one (L2N.ps_raise rfl tk (L2N.pmk_own PySem.F.excBase_ValueError T.x_TooLarge T.g_TooLarge T.k_TooLarge (raises_own T.e_TooLarge T.t_TooLarge) rfl))) pss_nil))),
      (sSeq (sIfS (sTest (sOp roBl0 (sCB rcLen (sCons sVar sNil)) (sCVal (n := 300) T.rd_Query T.cv_Query_MOST_LOOKS sHd))) (sRaise0W (W := fun cls d _ H => E cls d H) (C := T.c_TooLarge) (by exact hW)) sNext)
      (sIfS (sTest (sOp roBl0 (sCall (sCons (sLc (siL (sSortSet sVar)) (gwName List.mem_cons_self) (fun _ _ _ => sName) (fun _ _ _ => sYes) (fun _ _ _ => (sCall (sCons sVar (sCons sVar sNil))))) sNil)) (sCVal (n := 256) T.rd_Query T.cv_Query_MOST_CHOICES sHd))) (sRaise0W (W := fun cls d _ H => E cls d H) (C := T.c_TooLarge) (by exact hW)) sNext))⟩) (fun ds μ Φ Ψ h => ?hv)
  case hv =>
    obtain ⟨ws, l, rfl, hw, hl, h60, h100, h1, h2⟩ := h
    refine seq_cut fun M hM => ?_
    walk_at "wp"
    rw [nI_len]
    refine ⟨fun z => ⟨_, Sub.refl, h2 fun q => by omega⟩, fun z => ?_⟩
    rw [hM]; clear hM M
    walk_at "wp"
    refine ⟨l.map fun (n : Nat) => (n : Int), by rw [nI_ints]; exact .lst _, ⟨by rw [List.length_map]; omega, (qMs l).map fun (n : Nat) => (n : Int), by rw [List.length_map]; omega, fun z hz => ?_⟩, fun ns hs hn => ?_⟩
    · obtain ⟨q, hq, rfl⟩ := List.mem_map.mp hz
      exact List.mem_map.mpr ⟨q, (qMs_mem h100 q).mpr hq, rfl⟩
    obtain ⟨ms, rfl⟩ : ∃ ms : List Nat, ns = ms.map fun (n : Nat) => (n : Int) := ⟨ns.map Int.toNat, by
      rw [List.map_map]
      refine (List.map_id _).symm.trans (List.map_congr_left fun k hk => ?_)
      obtain ⟨q, _, rfl⟩ := List.mem_map.mp ((hn k).mp hk)
      rfl⟩
    have hms : ms.Pairwise (· < ·) := (List.pairwise_map.mp hs).imp fun {a b} q => by omega
    have hmem : ∀ q, q ∈ ms ↔ q ∈ l := fun q => by
      have h := hn (q : Int)
      have e1 : ((q : Int) ∈ ms.map fun (n : Nat) => (n : Int)) ↔ q ∈ ms := ⟨fun z => by
        obtain ⟨a, ha, e⟩ := List.mem_map.mp z
        obtain rfl : a = q := Int.ofNat.inj e
        exact ha, fun z => List.mem_map.mpr ⟨q, z, rfl⟩⟩
      have e2 : ((q : Int) ∈ l.map fun (n : Nat) => (n : Int)) ↔ q ∈ l := ⟨fun z => by
        obtain ⟨a, ha, e⟩ := List.mem_map.mp z
        obtain rfl : a = q := Int.ofNat.inj e
        exact ha, fun z => List.mem_map.mpr ⟨q, z, rfl⟩⟩
      rw [e1, e2] at h
      exact h
    have w1 := (wpr_mono hw hms (qMs_sorted l) fun q hq => (qMs_mem h100 q).mpr ((hmem q).mp hq))
    have w2 := (wpr_mono hw (qMs_sorted l) hms fun q hq => (hmem q).mpr ((qMs_mem h100 q).mp hq))
    have ew : wpr ws ms = wpr ws (qMs l) := by omega
    have hml : ms.length ≤ 100 := by have := qMs_len l; omega
    refine lcZ (fun x => .int (wd ws x.toNat : Int)) (by rw [List.length_map]; omega) (fun x μ2 X hx hsub hk => ?_) ?_
    · obtain ⟨q, hq, rfl⟩ := List.mem_map.mp hx
      walk_at "wps"
      exact ⟨ws, q, rfl, hw, hk⟩
    · rw [show (ms.map fun (n : Nat) => (n : Int)).map (fun x => D.int (wd ws x.toNat : Int)) = (ms.map fun (p : Nat) => (wd ws p : Int)).map D.int from by rw [List.map_map, List.map_map]; rfl]
      refine ⟨_, rfl, fun i z hz => ?_, ?_⟩
      · rw [List.getElem?_map] at hz
        obtain ⟨q, _, rfl⟩ := Option.map_eq_some_iff.mp hz
        rw [← List.map_take, prod_wpr]
        have h3 := wpr_lt hw (ms.take i)
        have h4 := hw.wd1 q
        have h5 : 2 ^ (2 * (ms.take i).length + 1) ≤ 2 ^ 201 := Nat.pow_le_pow_right (by decide) (by rw [List.length_take]; omega)
        exact mulx 201 3 (by omega) (by omega) (by decide)
      · rw [prod_wpr, ew]
        walk_at "wp"
        exact ⟨fun q => ⟨_, Sub.refl, h2 fun w => by omega⟩, fun q => ⟨_, Sub.refl, h1 (by omega) (by omega)⟩⟩
theorem ent_nn {r : Rw} (h : RwOk r) (i : Nat) : 0 ≤ ent r i := by
  unfold ent
  split
  · rename_i q
    rw [List.getD_eq_getElem?_getD, List.getElem?_eq_getElem q]
    exact h.hp _ (List.getElem_mem q)
  · have hc : 0 < r.c.length := List.length_pos_iff.mpr h.c0
    unfold cyc
    have q := Nat.mod_lt (i - r.h.length) hc
    rw [List.getD_eq_getElem?_getD, List.getElem?_eq_getElem q]
    exact h.cp _ (List.getElem_mem q)
def c_followed (C R : Addr) : Con := fun ds μ Φ _ => ∃ (ws : List Int) (oc : Nat) (ps : List Nat) (t : QT) (r : Rw), ds = [qO C t ws oc, rwO R r] ∧ QRun ws oc ps t ∧ RwOk r ∧ RFit ws r ∧ ∀ pl, Φ (.tup [.tup pl, .int (qA (rF r) t : Int)]) μ
theorem len_followed {C R ds μ Φ Ψ} (h : c_followed C R ds μ Φ Ψ) : ds.length = 2 := by obtain ⟨i, _, _, _, _, rfl, _⟩ := h; rfl
theorem ok_followed (T : Txt P w K mg) : FnOk P w K mg base (L2N.CX P w) 4 T.f_followed T.d_followed ["query", "row"] (spOf K (c_followed T.c_Query T.c_Row)) := by
  refine def_okC T.F_followed sc_followed _ (fun ds μ Φ Ψ h => len_followed h) (fun cdv A outer s H E B hW hr =>
    have tk : L2N.Takes (cxOf (L2N.CX P w) P w K mg base N_followed "followed" (defScope s_followed) T.f_followed cdv A outer s H E) (fun cls d _ H => E cls d H) := L2N.takes_of rfl rfl rfl rfl
    ⟨_, (pss_cons (ps_set (i := 2) sc_followed.nd rfl (Or.inl rfl) (pe_tupN pa_nil))
      (pss_cons (ps_set (i := 3) sc_followed.nd rfl (Or.inl rfl) (pe_fld (pv 0) rfl))
      (pss_cons (ps_while (passes_of rfl) (pt_cmpR op_eq (pe_ix ix_tup (pv 3) pe_int (fun _ _ => rfl)) pe_str (nomark _)) (pss_cons (ps_set (i := 4) sc_followed.nd rfl (Or.inl rfl) (pe_getX T.me_Row___getitem__ T.fn_Row___getitem__ (ok_Row___getitem__ T) (hr.mono (by decide)) T.b_Row___getitem__ (fun σ => L2N.passAt tk σ) (pv 1) (pe_ix ix_tup (pv 3) pe_int (fun _ _ => rfl)) (fun _ _ => rfl)))
      (pss_cons (ps_if (pt_not (pt_val (pe_call (ok_is_below T) (hr.mono (by decide)) rfl T.g_is_below T.F_is_below.kp T.b_is_below .nil passN (pa_cons (pv 4) (pa_cons (pe_call (ok_width_at T) (hr.mono (by decide)) rfl T.g_width_at T.F_width_at.kp T.b_width_at .nil passN (pa_cons (pe_fld (pv 0) rfl) (pa_cons (pe_ix ix_tup (pv 3) pe_int (fun _ _ => rfl)) pa_nil))) pa_nil))))) (pss_one (L2N.ps_raise rfl tk (L2N.pmk_own PySem.F.excBase_ValueError T.x_OutOfRange T.g_OutOfRange T.k_OutOfRange (raises_own T.e_OutOfRange T.t_OutOfRange) rfl))) pss_nil)
      (pss_cons (ps_set (i := 2) sc_followed.nd rfl (Or.inl rfl) (pe_op op_catN (pv 2) (pe_tupN (pa_cons (pe_ix ix_tup (pv 3) pe_int (fun _ _ => rfl)) pa_nil))))
      (pss_one (ps_set (i := 3) sc_followed.nd rfl (Or.inl rfl) (pe_ix ix_tup (pv 3) (pe_op op_add (pe_glob (v := .int 2) rfl T.g_ITEMS_BEFORE.choose_spec ⟨_, rfl⟩) (pv 4)) (fun _ _ => rfl))))))))
      (pss_one (ps_ret (pe_tupN (pa_cons (pv 2) (pa_cons (pe_ix ix_tup (pv 3) pe_int (fun _ _ => rfl)) pa_nil)))))))),
      (sSeq (sAsg (sTup sNil) sName)
      (sSeq (sAsg (sFldO (NS := NS_Query) (i := 0) T.cls_Query T.na_Query_term rfl (by decide) sVar) sName)
      (sSeq (sWhile (sTest (sOp roEq (sOp roIxT sVar sInt) sStr)) (sSeq (sAsg (sGetX (NS := NS_Row) (W := fun cls d _ H => E cls d H) (by exact hW) sVar (sOp roIxT sVar sInt)) sName)
      (sSeq (sIfS (sNot (sB (sCall (sCons sVar (sCons (sCall (sCons (sFldO (NS := NS_Query) (i := 1) T.cls_Query T.na_Query_widths rfl (by decide) sVar) (sCons (sOp roIxT sVar sInt) sNil))) sNil))))) (sRaise0W (W := fun cls d _ H => E cls d H) (C := T.c_OutOfRange) (by exact hW)) sNext)
      (sSeq (sAsg (sOp roCatT sVar (sTup (sCons (sOp roIxT sVar sInt) sNil))) sName)
      (sAsg (sOp roIxT sVar (sOp roInt0 sInt sVar)) sName)))))
      (sRet (sTup (sCons sVar (sCons (sOp roIxT sVar sInt) sNil)))))))⟩) (fun ds μ Φ Ψ h => ?hv)
  case hv =>
    obtain ⟨ws, oc, ps, t, r, rfl, hq, hr, hf, h⟩ := h
    have hw := hq.w
    have e1 : qO T.c_Query t ws oc = D.obj T.c_Query NS_Query [qD t, .tup (ws.map .int), .int (oc : Int)] := rfl
    refine seq_cut fun M hM => ?_
    walk_at "wp"
    refine ⟨by omega, ?_⟩
    rw [hM]; clear hM M
    refine seq_cut fun M hM => ?_
    rw [e1]
    walk_at "wp"
    rw [hM]; clear hM M
    refine seq_cut fun M hM => ?_
    walk_at "wp"
    refine ⟨fun m δ μ' => μ' = μ ∧ ∃ (s : QT) (pl : List D) (x : Option D), δ = [some (.obj T.c_Query NS_Query [qD t, .tup (ws.map .int), .int (oc : Int)]), some (rwO T.c_Row r), some (.tup pl), some (qD s), x] ∧ QOk ws oc s ∧ qA (rF r) s = qA (rF r) t ∧ qDep s ≤ m ∧ pl.length + qDep s ≤ 20, ⟨qDep t, rfl, t, [], none, rfl, hq.ok, rfl, Nat.le_refl _, by have := hq.dep; simpa using this⟩, ?_⟩
    rintro m δ μ' ⟨rfl, s, pl, x, rfl, hs, ha, hm, hb⟩
    cases s with
    | tell o =>
      rw [qD]
      walk_at "wp"
      rw [hM]
      walk_at "wp"
      exact ⟨fun z => absurd z (by decide), fun _ => ⟨by omega, ret_same (by have := h pl; rw [← ha, qA] at this; exact this)⟩⟩
    | look p ts =>
      obtain ⟨hp, hlen, hts⟩ := hs
      rw [qoks_iff] at hts
      rw [qDep] at hm hb
      have hw1 := hw.wd1 p
      have hlt : rF r p < ts.length := by have := hf p; have := ent_nn hr p; unfold rF; omega
      have hent : ent r p = (rF r p : Int) := by have := ent_nn hr p; unfold rF; omega
      rw [qD]
      walk_at "wp"
      refine ⟨?_, fun z => absurd trivial z⟩
      refine seq_cut fun N hN => ?_
      walk_at "wp"
      refine ⟨_, rfl, r, (p : Int), rfl, hr, fun z => absurd z (by omega), fun q hq => ?_⟩
      obtain rfl : p = q := Int.ofNat.inj hq
      rw [hent, hN]; clear hN N
      refine seq_cut fun N hN => ?_
      walk_at "wp"
      refine ⟨ws, p, rfl, hw, ?_⟩
      simp only [w_is_below]
      walk_at "wp"
      rw [decide_eq_true (show 0 ≤ (rF r p : Int) ∧ (rF r p : Int) < (wd ws p : Int) by omega)]
      walk_at "wp"
      rw [hN]; clear hN N
      walk_at "wps"
      have ei : (2 : Int) + (rF r p : Int) = ((rF r p + 1 + 1 : Nat) : Int) := by omega
      have hd := qdeps_le (List.getElem_mem hlt)
      refine ⟨by omega, by omega, qD ts[rF r p], ?_, qDep.qDeps ts, by omega, ts[rF r p], pl ++ [.int (p : Int)], _, rfl, hts _ (List.getElem_mem hlt), ?_, hd, by rw [List.length_append, List.length_singleton]; omega⟩
      · rw [ei]
        exact atI_nat (by rw [List.getElem?_cons_succ, List.getElem?_cons_succ, qDs_map, List.getElem?_map, List.getElem?_eq_getElem hlt]; rfl)
      · rw [← ha, qA_look (List.getElem?_eq_getElem hlt)]
end
section
variable {P : Program} {w : World} {K : Fg} {mg : Str → Option Value} {base : Heap}
def c_fixed_term (n : Nat) : Con := fun ds μ Φ _ => ∃ (ws : List Int) (oc m o : Nat) (t : QT), ds = [qD t, .int (m : Int), .int (o : Int)] ∧ QOk ws oc t ∧ WsOk ws ∧ o < wd ws m ∧ qDep t < n ∧ Φ (qD (qFx m o t)) μ
theorem len_fixed_term {n ds μ Φ Ψ} (h : c_fixed_term n ds μ Φ Ψ) : ds.length = 3 := by obtain ⟨i, _, _, _, _, rfl, _⟩ := h; rfl
theorem step_fixed_term (T : Txt P w K mg) {k : Nat} (hk : 4 ≤ k) (n : Nat) (ih_fixed_term : FnOk P w K mg base (L2N.CX P w) k T.f_fixed_term T.d_fixed_term ["term", "place", "option"] (spOf K (c_fixed_term n))) : FnOk P w K mg base (L2N.CX P w) (k + 1) T.f_fixed_term T.d_fixed_term ["term", "place", "option"] (spOf K (c_fixed_term (n + 1))) := by
  refine def_okC T.F_fixed_term sc_fixed_term _ (fun ds μ Φ Ψ h => len_fixed_term h) (fun cdv A outer s H E B hW hr =>
    have tk : L2N.Takes (cxOf (L2N.CX P w) P w K mg base N_fixed_term "fixed_term" (defScope s_fixed_term) T.f_fixed_term cdv A outer s H E) (fun cls d _ H => E cls d H) := L2N.takes_of rfl rfl rfl rfl
    ⟨_, (pss_cons (ps_if (pt_cmpR op_eq (pe_ix ix_tup (pv 0) pe_int (fun _ _ => rfl)) pe_str (nomark _)) (pss_one (ps_ret (pv 0))) pss_nil)
      (pss_cons (ps_if (pt_cmpR op_eq (pe_ix ix_tup (pv 0) pe_int (fun _ _ => rfl)) (pv 1) (nomark _)) (pss_one (ps_ret (pe_call ih_fixed_term hr rfl T.g_fixed_term T.F_fixed_term.kp T.b_fixed_term .nil passN (pa_cons (pe_ix ix_tup (pv 0) (pe_op op_add (pe_glob (v := .int 2) rfl T.g_ITEMS_BEFORE.choose_spec ⟨_, rfl⟩) (pv 2)) (fun _ _ => rfl)) (pa_cons (pv 1) (pa_cons (pv 2) pa_nil)))))) pss_nil)
      (pss_one (ps_ret (pe_op op_catN (pe_slice sl_tupN (pv 0) po_none (po_some (pe_glob (v := .int 2) rfl T.g_ITEMS_BEFORE.choose_spec ⟨_, rfl⟩))) (pe_callTy call_tupleN (by rfl) T.z_tuple (by decide +kernel) (pa_cons (pe_lc (own := [("below", 3)]) rfl sc_fixed_term.nd (pi_tup (pe_call (ok_terms_behind T) (hr.mono (by omega)) rfl T.g_terms_behind T.F_terms_behind.kp T.b_terms_behind .nil passN (pa_cons (pv 0) pa_nil))) (blkOk_by (N := N_fixed_term) (sc := defScope s_fixed_term) (by decide +kernel)) (fun _ _ _ _ _ => (pg_name (i := 3) sc_fixed_term.nd rfl (Or.inl rfl))) (fun _ _ _ _ _ => pts_nil) (fun _ _ _ _ _ => (pe_call ih_fixed_term hr rfl T.g_fixed_term T.F_fixed_term.kp T.b_fixed_term .nil passN (pa_cons (pv 3) (pa_cons (pv 1) (pa_cons (pv 2) pa_nil)))))) pa_nil))))))),
      (sSeq (sIfS (sTest (sOp roEq (sOp roIxT sVar sInt) sStr)) (sRet sVar) sNext)
      (sSeq (sIfS (sTest (sOp roEq (sOp roIxT sVar sInt) sVar)) (sRet (sCall (sCons (sOp roIxT sVar (sOp roInt0 sInt sVar)) (sCons sVar (sCons sVar sNil))))) sNext)
      (sRet (sOp roCatT (sSlT sVar sNoPart (sPart sInt)) (sCB rcTuple (sCons (sLc (siT (sCall (sCons sVar sNil))) (gwName List.mem_cons_self) (fun _ _ _ => sName) (fun _ _ _ => sYes) (fun _ _ _ => (sCall (sCons sVar (sCons sVar (sCons sVar sNil)))))) sNil))))))⟩) (fun ds μ Φ Ψ h => ?hv)
  case hv =>
    obtain ⟨ws, oc, m, o, t, rfl, ht, hw, ho, hn, h⟩ := h
    cases t with
    | tell x =>
      rw [qD]
      refine seq_cut fun M hM => ?_
      walk_at "wp"
      exact ⟨ret_same h, fun z => absurd trivial z⟩
    | look p ts =>
      obtain ⟨hp, hlen, hts⟩ := ht
      rw [qoks_iff] at hts
      rw [qDep] at hn
      have hw1 := hw.wd1 p
      have e1 : (qDs ts).length = ts.length := qDs_len ts
      rw [qD]
      refine seq_cut fun M hM => ?_
      walk_at "wp"
      refine ⟨fun q => absurd q (by decide), fun _ => ?_⟩
      rw [hM]; clear hM M
      refine seq_cut fun M hM => ?_
      walk_at "wp"
      refine ⟨fun q => ?_, fun q => ?_⟩
      · obtain rfl : p = m := Int.ofNat.inj q
        have hlt : o < ts.length := by omega
        have ei : (2 : Int) + (o : Int) = ((o + 1 + 1 : Nat) : Int) := by omega
        have hd := qdeps_le (List.getElem_mem hlt)
        rw [qFx_at (List.getElem?_eq_getElem hlt)] at h
        refine ⟨qD ts[o], ?_, ws, oc, p, o, ts[o], rfl, hts _ (List.getElem_mem hlt), hw, ho, by omega, ret_same h⟩
        rw [ei]
        exact atI_nat (by rw [List.getElem?_cons_succ, List.getElem?_cons_succ, qDs_map, List.getElem?_map, List.getElem?_eq_getElem hlt]; rfl)
      · have hne : p ≠ m := fun z => q (by rw [z])
        rw [qFx_ne hne] at h
        rw [hM]; clear hM M
        walk_at "wps"
        refine ⟨_, rfl, _, rfl, ?_⟩
        rw [List.drop_succ_cons, List.drop_succ_cons, List.drop_zero]
        refine lcG_mapN (fun i => qD (qFx m o (ts.getD i (.tell 0)))) (by rw [e1]; omega) (fun i d μ2 X hi hsub hx => ?_) ?_
        · obtain ⟨hil, rfl⟩ := qDs_get hi
          have hd := qdeps_le (List.getElem_mem hil)
          rw [List.getD_eq_getElem?_getD, List.getElem?_eq_getElem hil] at hx
          walk_at "wps"
          exact ⟨ws, oc, m, o, ts[i], rfl, hts _ (List.getElem_mem hil), hw, ho, by omega, hx⟩
        · have ec : DW.cutD (D.str "look" :: D.int (p : Int) :: qDs ts) none (some 2) = [D.str "look", D.int (p : Int)] := by rw [show (2 : Int) = ((2 : Nat) : Int) from rfl, cut_to]; rfl
          rw [e1, ec, rangeQ (fun t => qD (qFx m o t)) ts]
          refine ⟨_, .lst _, by rw [List.length_map]; show 2 + _ ≤ _; omega, ret_same ?_⟩
          rw [qD, qDs_map, List.map_map] at h
          exact h
def c_Query___init__ (C Q L : Addr) : Con := fun ds μ Φ Ψ => ∃ (x : Addr) (ws : List Int) (oc : Nat) (t : QT), ds = [.hd (.ref x), qD t, .tup (ws.map .int), .int (oc : Int)] ∧ μ x = some (.ins C [] []) ∧ WsOk ws ∧ 1 ≤ oc ∧ oc ≤ 4 ∧ QOk ws oc t ∧ (qPl t).length ≤ 5000 ∧ (qMs (qPl t)).length ≤ 60 ∧
  (match qMk ws t with
    | .made => Φ .non (sset μ x (.ins C NS_Query [qD t, .tup (ws.map .int), .int (oc : Int)]))
    | .deep p => Ψ (.mk Q (some (["path"], [.tup (nI p)]))) μ
    | .large => Ψ (.mk L none) μ)
theorem len_Query___init__ {C Q L ds μ Φ Ψ} (h : c_Query___init__ C Q L ds μ Φ Ψ) : ds.length = 4 := by obtain ⟨_, _, _, _, rfl, _⟩ := h; rfl
theorem ok_Query___init__ (T : Txt P w K mg) : FnOk P w K mg base (L2N.CX P w) 32 T.f_Query___init__ T.d_Query___init__ ["self", "term", "widths", "outcomes"] (spOf K (c_Query___init__ T.c_Query T.c_InvalidQuery T.c_TooLarge)) := by
  refine def_okC T.F_Query___init__ sc_Query___init__ _ (fun ds μ Φ Ψ h => len_Query___init__ h) (fun cdv A outer s H E B hW hr =>
    have tk : L2N.Takes (cxOf (L2N.CX P w) P w K mg base N_Query___init__ "Query.__init__" (defScope s_Query___init__) T.f_Query___init__ cdv A outer s H E) (fun cls d _ H => E cls d H) := L2N.takes_of rfl rfl rfl rfl
    ⟨_, (pss_cons (ps_expr (pe_callS (ok_require_form T) (hr.mono (by decide)) rfl T.g_require_form T.F_require_form.kp T.b_require_form (fun σ => L2N.passAt tk σ) (pa_cons (pv 2) (pa_cons (pv 3) pa_nil))))
      (pss_cons (ps_set (i := 4) sc_Query___init__.nd rfl (Or.inl rfl) (pe_call (ok_wrong_query T) (hr.mono (by decide)) rfl T.g_wrong_query T.F_wrong_query.kp T.b_wrong_query .nil passN (pa_cons (pv 1) (pa_cons (pv 2) (pa_cons (pv 3) (pa_cons pe_int pa_nil))))))
      (pss_cons (ps_if (pt_cmpR op_notN (pv 4) pe_non (nomark _)) (pss_one (L2N.ps_raise rfl tk (pmk_sup T.ox_InvalidQuery T.ic_InvalidQuery T.ti_InvalidQuery T.no_InvalidQuery T.in_InvalidQuery (hr.mono (by decide)) T.bi_InvalidQuery passN rfl T.g_InvalidQuery (pa_cons (pv 4) pa_nil)))) pss_nil)
      (pss_cons (ps_expr (pe_callS (ok_require_few T) (hr.mono (by decide)) rfl T.g_require_few T.F_require_few.kp T.b_require_few (fun σ => L2N.passAt tk σ) (pa_cons (pe_call (ok_places_of T) (hr.mono (by decide)) rfl T.g_places_of T.F_places_of.kp T.b_places_of .nil passN (pa_cons (pv 1) pa_nil)) (pa_cons (pv 2) pa_nil))))
      (pss_cons (ps_fld (pv 0) (pv 1) rfl)
      (pss_cons (ps_fld (pv 0) (pv 2) rfl)
      (pss_one (ps_fld (pv 0) (pv 3) rfl)))))))),
      (sSeq (sDrop (sCallSW (W := fun cls d _ H => E cls d H) (by exact hW) (sCons sVar (sCons sVar sNil))))
      (sSeq (sAsg (sCall (sCons sVar (sCons sVar (sCons sVar (sCons sInt sNil))))) sName)
      (sSeq (sIfS (sTest (sOp roNotN sVar sNon)) (sRaise1 (W := fun cls d _ H => E cls d H) (C := T.c_InvalidQuery) (fld := "path") (by exact hW) okdPath_ok sVar) sNext)
      (sSeq (sDrop (sCallSW (W := fun cls d _ H => E cls d H) (by exact hW) (sCons (sCall (sCons sVar sNil)) (sCons sVar sNil))))
      (sSeq (sSetF T.cls_Query T.na_Query_term sVar sVar)
      (sSeq (sSetF T.cls_Query T.na_Query_widths sVar sVar)
      (sSetF T.cls_Query T.na_Query_outcomes sVar sVar)))))))⟩) (fun ds μ Φ Ψ h => ?hv)
  case hv =>
    obtain ⟨x, ws, oc, t, rfl, hx, hw, o1, o4, ok, hb, h60, h⟩ := h
    refine seq_cut fun M hM => ?_
    walk_at "wp"
    refine ⟨ws, oc, rfl, hw, o1, o4, ?_⟩
    rw [hM]; clear hM M
    refine seq_cut fun M hM => ?_
    walk_at "wp"
    refine ⟨ws, oc, 0, t, rfl, hw, ok, by omega, by omega, ?_⟩
    walk_at "wp"
    rw [hM]; clear hM M
    refine seq_cut fun M hM => ?_
    unfold qMk at h
    rw [show 20 - 0 = 20 from rfl]
    cases e : qTD t 20 with
    | some p =>
      rw [e] at h
      have hp := qTD_len _ _ _ e
      have hi := qTD_idx ws hw oc _ _ _ ok e
      simp only [pN]
      walk_at "wp"
      refine ⟨⟨p.map fun (n : Nat) => (n : Int), by rw [nI_ints], fun i hm => ?_, by rw [List.length_map]; omega⟩, μ, Sub.refl, h⟩
      obtain ⟨q, hq, rfl⟩ := List.mem_map.mp hm
      have := hi q hq
      exact Nat.lt_of_lt_of_le (PySem.Flt.log2_lt_of (n := ((q : Nat) : Int).natAbs) (by decide : 0 < 100) (by omega)) (by decide)
    | none =>
      rw [e] at h
      simp only [pN]
      walk_at "wp"
      rw [hM]; clear hM M
      refine seq_cut fun M hM => ?_
      walk_at "wp"
      refine ⟨ws, oc, t, rfl, ok, by have := (qTD_dep t 20).mp e; omega, hb, ws, qPl t, rfl, hw, hb, h60, QOk.pl t ok, fun w1 w2 => ?_, fun w => ?_⟩
      · simp only at h
        rw [if_pos ⟨w1, w2⟩] at h
        rw [hM]; clear hM M
        walk_at "wps"
        refine ⟨_, _, _, rfl, hx, by decide, by decide, _, _, _, rfl, sset_same, by decide, by decide, _, _, _, rfl, sset_same, by decide, by decide, ?_⟩
        walk_at "wps"
        exact ret_same h
      · simp only at h
        rw [if_neg w] at h
        exact ⟨_, Sub.refl, h⟩
def c_Query___call__ (C R : Addr) : Con := fun ds μ Φ _ => ∃ (ws : List Int) (oc : Nat) (ps : List Nat) (t : QT) (r : Rw), ds = [qO C t ws oc, rwO R r] ∧ QRun ws oc ps t ∧ RwOk r ∧ RFit ws r ∧ Φ (.int (qA (rF r) t : Int)) μ
theorem len_Query___call__ {C R ds μ Φ Ψ} (h : c_Query___call__ C R ds μ Φ Ψ) : ds.length = 2 := by obtain ⟨i, _, _, _, _, rfl, _⟩ := h; rfl
theorem ok_Query___call__ (T : Txt P w K mg) : FnOk P w K mg base (L2N.CX P w) 5 T.f_Query___call__ T.d_Query___call__ ["self", "row"] (spOf K (c_Query___call__ T.c_Query T.c_Row)) := by
  refine def_okC T.F_Query___call__ sc_Query___call__ _ (fun ds μ Φ Ψ h => len_Query___call__ h) (fun cdv A outer s H E B hW hr =>
    have tk : L2N.Takes (cxOf (L2N.CX P w) P w K mg base N_Query___call__ "Query.__call__" (defScope s_Query___call__) T.f_Query___call__ cdv A outer s H E) (fun cls d _ H => E cls d H) := L2N.takes_of rfl rfl rfl rfl
    ⟨_, (pss_one (ps_ret (pe_ix ix_tup (pe_callS (ok_followed T) hr rfl T.g_followed T.F_followed.kp T.b_followed (fun σ => L2N.passAt tk σ) (pa_cons (pv 0) (pa_cons (pv 1) pa_nil))) pe_int (fun _ _ => rfl)))),
      (sRet (sOp roIxT (sCallSW (W := fun cls d _ H => E cls d H) (by exact hW) (sCons sVar (sCons sVar sNil))) sInt))⟩) (fun ds μ Φ Ψ h => ?hv)
  case hv =>
    obtain ⟨ws, oc, ps, t, r, rfl, hq, hr, hf, h⟩ := h
    walk_at "wps"
    refine ⟨ws, oc, ps, t, r, rfl, hq, hr, hf, fun pl => ?_⟩
    walk_at "wps"
    exact ret_same h
end
section
variable {P : Program} {w : World} {K : Fg} {mg : Str → Option Value} {base : Heap}
def NOk (n k : Nat) (l : List Int) : Prop := l.length = n ∧ ∀ x ∈ l, 0 ≤ x ∧ x < (k : Int)
def c_wrong_numbers : Con := fun ds μ Φ _ => ∃ (n k : Nat) (l : List Int), ds = [.tup (l.map .int), .int n, .int k] ∧ l.length ≤ 1000 ∧ (NOk n k l → Φ .non μ) ∧ (¬ NOk n k l → ∀ xs, Φ (.tup xs) μ)
theorem len_wrong_numbers {ds μ Φ Ψ} (h : c_wrong_numbers ds μ Φ Ψ) : ds.length = 3 := by obtain ⟨_, _, _, rfl, _⟩ := h; rfl
theorem ok_wrong_numbers (T : Txt P w K mg) : FnOk P w K mg base (L2N.CX P w) 3 T.f_wrong_numbers T.d_wrong_numbers ["item", "length", "limit"] (spOf K c_wrong_numbers) := by
  refine def_okC T.F_wrong_numbers sc_wrong_numbers _ (fun ds μ Φ Ψ h => len_wrong_numbers h) (fun cdv A outer s H E B hW hr =>
    have tk : L2N.Takes (cxOf (L2N.CX P w) P w K mg base N_wrong_numbers "wrong_numbers" (defScope s_wrong_numbers) T.f_wrong_numbers cdv A outer s H E) (fun cls d _ H => E cls d H) := L2N.takes_of rfl rfl rfl rfl
    ⟨_, (pss_cons (ps_if (PW.pt (pw_or (pt_not (pt_val (pe_callB call_isi (by rfl) T.z_isinstance (by decide +kernel) (pa_cons (pv 0) (pa_cons (pe_bltn (v := .ty "tuple") rfl T.z_tuple (by decide +kernel) rfl) pa_nil))))) (pw_or1 (pt_cmpR op_ne (pe_callB call_len_seq (by rfl) T.z_len PySem.boot_len (pa_cons (pv 0) pa_nil)) (pv 1) (nomark _))))) (pss_one (ps_ret (pe_tupN pa_nil))) pss_nil)
      (pss_cons (ps_for (passes_of rfl) rfl (pi_enumT (by rfl) T.z_enumerate (pa_cons (pv 0) pa_nil)) (pg_tup (n := 2) rfl (pgs_cons (pg_name (i := 3) sc_wrong_numbers.nd rfl (Or.inl rfl)) (pgs_cons (pg_name (i := 4) sc_wrong_numbers.nd rfl (Or.inl rfl)) pgs_nil))) (pss_one (ps_if (pt_not (pt_val (pe_call (ok_is_below T) hr rfl T.g_is_below T.F_is_below.kp T.b_is_below .nil passN (pa_cons (pv 4) (pa_cons (pv 2) pa_nil))))) (pss_one (ps_ret (pe_tupN (pa_cons (pv 3) pa_nil)))) pss_nil)))
      (pss_one (ps_ret pe_non)))),
      (sSeq (sIfS (sOr (sNot (sB (sCB (rcIsi (T := "tuple")) (sCons sVar (sCons sHd sNil))))) (sTest (sOp roNe (sCB rcLen (sCons sVar sNil)) sVar))) (sRet (sTup sNil)) sNext)
      (sSeq (sFor (siEnumT sVar) (fun _ _ _ => (sgTup (sgCons sName (sgCons sName sgNil)))) (fun _ _ _ => (sIfS (sNot (sB (sCall (sCons sVar (sCons sVar sNil))))) (sRet (sTup (sCons sVar sNil))) sNext)))
      (sRet sNon)))⟩) (fun ds μ Φ Ψ h => ?hv)
  case hv =>
    obtain ⟨n, k, l, rfl, hz, h1, h2⟩ := h
    walk_at "wps"
    refine ⟨fun z => ⟨by omega, ret_same (h2 (fun w => by have := w.1; rw [this] at z; simp at z) _)⟩, fun z => ⟨fun i δ' μ' => μ' = μ ∧ (∀ j y, j < i → l[j]? = some y → 0 ≤ y ∧ y < (k : Int)) ∧ ∃ x y, δ' = [some (.tup (l.map .int)), some (.int n), some (.int k), x, y], ⟨rfl, fun j y hj => absurd hj (Nat.not_lt_zero _), _, _, rfl⟩, ?_, ?_⟩⟩
    · rintro i d δ' μ' hi ⟨rfl, hpre, x, y, rfl⟩
      obtain ⟨z2, hz2, rfl⟩ := en_get hi
      walk_at "wps"
      simp only [w_is_below]
      walk_at "wps"
      by_cases q : 0 ≤ z2 ∧ z2 < (k : Int)
      · rw [decide_eq_true q]
        walk_at "wps"
        refine ⟨fun j y hj e => ?_, _, _, rfl⟩
        by_cases e2 : j = i
        · subst e2; rw [hz2] at e; cases e; exact q
        · exact hpre j y (by omega) e
      · rw [decide_eq_false q]
        walk_at "wps"
        exact ⟨by decide, ret_same (h2 (fun w => q (w.2 z2 (List.mem_of_getElem? hz2))) _)⟩
    · rintro δ' μ' ⟨rfl, hpre, x, y, rfl⟩
      have z2 : (l.length : Int) = n := by simpa using z
      refine ret_same (h1 ⟨by omega, fun x hx => ?_⟩)
      obtain ⟨j, hj⟩ := List.getElem?_of_mem hx
      exact hpre j x (by have := (List.getElem?_eq_some_iff.mp hj).1; simpa using this) hj
def c_lowered_term (n : Nat) : Con := fun ds μ Φ _ => ∃ (ws : List Int) (oc : Nat) (t : QT), ds = [qD t] ∧ QOk ws oc t ∧ WsOk ws ∧ 0 ∉ qPl t ∧ qDep t < n ∧ Φ (qD (qLow t)) μ
theorem len_lowered_term {n ds μ Φ Ψ} (h : c_lowered_term n ds μ Φ Ψ) : ds.length = 1 := by obtain ⟨_, _, _, rfl, _⟩ := h; rfl
theorem step_lowered_term (T : Txt P w K mg) {k : Nat} (hk : 4 ≤ k) (n : Nat) (ih_lowered_term : FnOk P w K mg base (L2N.CX P w) k T.f_lowered_term T.d_lowered_term ["term"] (spOf K (c_lowered_term n))) : FnOk P w K mg base (L2N.CX P w) (k + 1) T.f_lowered_term T.d_lowered_term ["term"] (spOf K (c_lowered_term (n + 1))) := by
  refine def_okC T.F_lowered_term sc_lowered_term _ (fun ds μ Φ Ψ h => len_lowered_term h) (fun cdv A outer s H E B hW hr =>
    have tk : L2N.Takes (cxOf (L2N.CX P w) P w K mg base N_lowered_term "lowered_term" (defScope s_lowered_term) T.f_lowered_term cdv A outer s H E) (fun cls d _ H => E cls d H) := L2N.takes_of rfl rfl rfl rfl
    ⟨_, (pss_cons (ps_if (pt_cmpR op_eq (pe_ix ix_tup (pv 0) pe_int (fun _ _ => rfl)) pe_str (nomark _)) (pss_one (ps_ret (pv 0))) pss_nil)
      (pss_one (ps_ret (pe_op op_catN (pe_tupN (pa_cons pe_str (pa_cons (pe_op op_sub (pe_ix ix_tup (pv 0) pe_int (fun _ _ => rfl)) pe_int) pa_nil))) (pe_callTy call_tupleN (by rfl) T.z_tuple (by decide +kernel) (pa_cons (pe_lc (own := [("below", 1)]) rfl sc_lowered_term.nd (pi_tup (pe_call (ok_terms_behind T) (hr.mono (by omega)) rfl T.g_terms_behind T.F_terms_behind.kp T.b_terms_behind .nil passN (pa_cons (pv 0) pa_nil))) (blkOk_by (N := N_lowered_term) (sc := defScope s_lowered_term) (by decide +kernel)) (fun _ _ _ _ _ => (pg_name (i := 1) sc_lowered_term.nd rfl (Or.inl rfl))) (fun _ _ _ _ _ => pts_nil) (fun _ _ _ _ _ => (pe_call ih_lowered_term hr rfl T.g_lowered_term T.F_lowered_term.kp T.b_lowered_term .nil passN (pa_cons (pv 1) pa_nil)))) pa_nil)))))),
      (sSeq (sIfS (sTest (sOp roEq (sOp roIxT sVar sInt) sStr)) (sRet sVar) sNext)
      (sRet (sOp roCatT (sTup (sCons sStr (sCons (sOp roInt0 (sOp roIxT sVar sInt) sInt) sNil))) (sCB rcTuple (sCons (sLc (siT (sCall (sCons sVar sNil))) (gwName List.mem_cons_self) (fun _ _ _ => sName) (fun _ _ _ => sYes) (fun _ _ _ => (sCall (sCons sVar sNil)))) sNil)))))⟩) (fun ds μ Φ Ψ h => ?hv)
  case hv =>
    obtain ⟨ws, oc, t, rfl, ht, hw, h0, hn, h⟩ := h
    cases t with
    | tell x =>
      rw [qD]
      refine seq_cut fun M hM => ?_
      walk_at "wp"
      exact ⟨ret_same h, fun z => absurd trivial z⟩
    | look p ts =>
      obtain ⟨hp, hlen, hts⟩ := ht
      rw [qoks_iff] at hts
      rw [qDep] at hn
      rw [qPl] at h0
      have hw1 := hw.wd1 p
      have hp0 : p ≠ 0 := fun z => h0 (by rw [z]; exact List.mem_cons_self)
      have e1 : (qDs ts).length = ts.length := qDs_len ts
      rw [qD]
      refine seq_cut fun M hM => ?_
      walk_at "wp"
      refine ⟨fun q => absurd q (by decide), fun _ => ?_⟩
      rw [hM]; clear hM M
      walk_at "wps"
      refine ⟨by decide, _, rfl, _, rfl, ?_⟩
      rw [List.drop_succ_cons, List.drop_succ_cons, List.drop_zero]
      refine lcG_mapN (fun i => qD (qLow (ts.getD i (.tell 0)))) (by rw [e1]; omega) (fun i d μ2 X hi hsub hx => ?_) ?_
      · obtain ⟨hil, rfl⟩ := qDs_get hi
        have hd := qdeps_le (List.getElem_mem hil)
        rw [List.getD_eq_getElem?_getD, List.getElem?_eq_getElem hil] at hx
        walk_at "wps"
        exact ⟨ws, oc, ts[i], rfl, hts _ (List.getElem_mem hil), hw, fun q => h0 (List.mem_cons_of_mem _ (qpls_mem.mpr ⟨_, List.getElem_mem hil, q⟩)), by omega, hx⟩
      · rw [e1, rangeQ (fun t => qD (qLow t)) ts, show (p : Int) - 1 = ((p - 1 : Nat) : Int) by omega]
        refine ⟨_, .lst _, by rw [List.length_map]; show 2 + _ ≤ _; omega, ret_same ?_⟩
        rw [qLow_look, qD, qDs_map, List.map_map] at h
        exact h
def c_term_with_tells (n : Nat) : Con := fun ds μ Φ _ => ∃ (ws : List Int) (oc : Nat) (t : QT) (ss : List QT), ds = [qD t, .tup (qDs ss)] ∧ QOk ws oc t ∧ WsOk ws ∧ oc ≤ ss.length ∧ qDep t < n ∧ Φ (qD (qSub ss t)) μ
theorem len_term_with_tells {n ds μ Φ Ψ} (h : c_term_with_tells n ds μ Φ Ψ) : ds.length = 2 := by obtain ⟨_, _, _, _, rfl, _⟩ := h; rfl
theorem qDs_idx {ss : List QT} {o : Nat} (h : o < ss.length) : atI (qDs ss) (o : Int) = some (qD ss[o]) := atI_nat (by rw [qDs_map, List.getElem?_map, List.getElem?_eq_getElem h]; rfl)
theorem step_term_with_tells (T : Txt P w K mg) {k : Nat} (hk : 4 ≤ k) (n : Nat) (ih_term_with_tells : FnOk P w K mg base (L2N.CX P w) k T.f_term_with_tells T.d_term_with_tells ["term", "terms"] (spOf K (c_term_with_tells n))) : FnOk P w K mg base (L2N.CX P w) (k + 1) T.f_term_with_tells T.d_term_with_tells ["term", "terms"] (spOf K (c_term_with_tells (n + 1))) := by
  refine def_okC T.F_term_with_tells sc_term_with_tells _ (fun ds μ Φ Ψ h => len_term_with_tells h) (fun cdv A outer s H E B hW hr =>
    have tk : L2N.Takes (cxOf (L2N.CX P w) P w K mg base N_term_with_tells "term_with_tells" (defScope s_term_with_tells) T.f_term_with_tells cdv A outer s H E) (fun cls d _ H => E cls d H) := L2N.takes_of rfl rfl rfl rfl
    ⟨_, (pss_cons (ps_if (pt_cmpR op_eq (pe_ix ix_tup (pv 0) pe_int (fun _ _ => rfl)) pe_str (nomark _)) (pss_one (ps_ret (pe_ix ix_tup (pv 1) (pe_ix ix_tup (pv 0) pe_int (fun _ _ => rfl)) (fun _ _ => rfl)))) pss_nil)
      (pss_one (ps_ret (pe_op op_catN (pe_slice sl_tupN (pv 0) po_none (po_some (pe_glob (v := .int 2) rfl T.g_ITEMS_BEFORE.choose_spec ⟨_, rfl⟩))) (pe_callTy call_tupleN (by rfl) T.z_tuple (by decide +kernel) (pa_cons (pe_lc (own := [("below", 2)]) rfl sc_term_with_tells.nd (pi_tup (pe_call (ok_terms_behind T) (hr.mono (by omega)) rfl T.g_terms_behind T.F_terms_behind.kp T.b_terms_behind .nil passN (pa_cons (pv 0) pa_nil))) (blkOk_by (N := N_term_with_tells) (sc := defScope s_term_with_tells) (by decide +kernel)) (fun _ _ _ _ _ => (pg_name (i := 2) sc_term_with_tells.nd rfl (Or.inl rfl))) (fun _ _ _ _ _ => pts_nil) (fun _ _ _ _ _ => (pe_call ih_term_with_tells hr rfl T.g_term_with_tells T.F_term_with_tells.kp T.b_term_with_tells .nil passN (pa_cons (pv 2) (pa_cons (pv 1) pa_nil))))) pa_nil)))))),
      (sSeq (sIfS (sTest (sOp roEq (sOp roIxT sVar sInt) sStr)) (sRet (sOp roIxT sVar (sOp roIxT sVar sInt))) sNext)
      (sRet (sOp roCatT (sSlT sVar sNoPart (sPart sInt)) (sCB rcTuple (sCons (sLc (siT (sCall (sCons sVar sNil))) (gwName List.mem_cons_self) (fun _ _ _ => sName) (fun _ _ _ => sYes) (fun _ _ _ => (sCall (sCons sVar (sCons sVar sNil))))) sNil)))))⟩) (fun ds μ Φ Ψ h => ?hv)
  case hv =>
    obtain ⟨ws, oc, t, ss, rfl, ht, hw, hs, hn, h⟩ := h
    cases t with
    | tell x =>
      have hx : x < oc := ht
      rw [qD]
      refine seq_cut fun M hM => ?_
      walk_at "wp"
      rw [qSub_tell (by omega)] at h
      exact ⟨⟨_, qDs_idx (by omega), ret_same h⟩, fun z => absurd trivial z⟩
    | look p ts =>
      obtain ⟨hp, hlen, hts⟩ := ht
      rw [qoks_iff] at hts
      rw [qDep] at hn
      have hw1 := hw.wd1 p
      have e1 : (qDs ts).length = ts.length := qDs_len ts
      rw [qD]
      refine seq_cut fun M hM => ?_
      walk_at "wp"
      refine ⟨fun q => absurd q (by decide), fun _ => ?_⟩
      rw [hM]; clear hM M
      walk_at "wps"
      refine ⟨_, rfl, _, rfl, ?_⟩
      rw [List.drop_succ_cons, List.drop_succ_cons, List.drop_zero]
      refine lcG_mapN (fun i => qD (qSub ss (ts.getD i (.tell 0)))) (by rw [e1]; omega) (fun i d μ2 X hi hsub hx => ?_) ?_
      · obtain ⟨hil, rfl⟩ := qDs_get hi
        have hd := qdeps_le (List.getElem_mem hil)
        rw [List.getD_eq_getElem?_getD, List.getElem?_eq_getElem hil] at hx
        walk_at "wps"
        exact ⟨ws, oc, ts[i], ss, rfl, hts _ (List.getElem_mem hil), hw, hs, by omega, hx⟩
      · have ec : DW.cutD (D.str "look" :: D.int (p : Int) :: qDs ts) none (some 2) = [D.str "look", D.int (p : Int)] := by rw [show (2 : Int) = ((2 : Nat) : Int) from rfl, cut_to]; rfl
        rw [e1, ec, rangeQ (fun t => qD (qSub ss t)) ts]
        refine ⟨_, .lst _, by rw [List.length_map]; show 2 + _ ≤ _; omega, ret_same ?_⟩
        rw [qSub_look, qD, qDs_map, List.map_map] at h
        exact h
end
section
variable {P : Program} {w : World} {K : Fg} {mg : Str → Option Value} {base : Heap}
section
variable {P : Program} {w : World} {K : Fg} {mg : Str → Option Value} {base : Heap}
theorem okN_lowered_term (T : Txt P w K mg) : ∀ n, FnOk P w K mg base (L2N.CX P w) (4 + n) T.f_lowered_term T.d_lowered_term ["term"] (spOf K (c_lowered_term n))
  | 0 => fn_never fun ds μ Φ Ψ h => by obtain ⟨_, _, _, _, _, _, _, h, _⟩ := h; omega
  | n + 1 => step_lowered_term T (k := 4 + n) (by omega) n (okN_lowered_term T n)
theorem ok_lowered_term (T : Txt P w K mg) : FnOk P w K mg base (L2N.CX P w) 40 T.f_lowered_term T.d_lowered_term ["term"] (spOf K (c_lowered_term 36)) := okN_lowered_term T 36
theorem okN_term_with_tells (T : Txt P w K mg) : ∀ n, FnOk P w K mg base (L2N.CX P w) (4 + n) T.f_term_with_tells T.d_term_with_tells ["term", "terms"] (spOf K (c_term_with_tells n))
  | 0 => fn_never fun ds μ Φ Ψ h => by obtain ⟨_, _, _, _, _, _, _, _, h, _⟩ := h; omega
  | n + 1 => step_term_with_tells T (k := 4 + n) (by omega) n (okN_term_with_tells T n)
theorem ok_term_with_tells (T : Txt P w K mg) : FnOk P w K mg base (L2N.CX P w) 40 T.f_term_with_tells T.d_term_with_tells ["term", "terms"] (spOf K (c_term_with_tells 36)) := okN_term_with_tells T 36
end
def tellsQ (os : List Nat) : List QT := os.map .tell
theorem tellsQ_D (os : List Nat) : qDs (tellsQ os) = os.map fun (o : Nat) => D.tup [.str "tell", .int (o : Int)] := by
  unfold tellsQ
  rw [qDs_map, List.map_map]
  rfl
def c_term_with_outcomes : Con := fun ds μ Φ _ => ∃ (ws : List Int) (oc : Nat) (t : QT) (os : List Nat), ds = [qD t, .tup (nI os)] ∧ QOk ws oc t ∧ WsOk ws ∧ oc ≤ os.length ∧ os.length ≤ 1000 ∧ qDep t < 36 ∧ Φ (qD (qSub (tellsQ os) t)) μ
theorem len_term_with_outcomes {ds μ Φ Ψ} (h : c_term_with_outcomes ds μ Φ Ψ) : ds.length = 2 := by obtain ⟨_, _, _, _, rfl, _⟩ := h; rfl
theorem ok_term_with_outcomes (T : Txt P w K mg) : FnOk P w K mg base (L2N.CX P w) 41 T.f_term_with_outcomes T.d_term_with_outcomes ["term", "outcomes"] (spOf K c_term_with_outcomes) := by
  refine def_okC T.F_term_with_outcomes sc_term_with_outcomes _ (fun ds μ Φ Ψ h => len_term_with_outcomes h) (fun cdv A outer s H E B hW hr =>
    have tk : L2N.Takes (cxOf (L2N.CX P w) P w K mg base N_term_with_outcomes "term_with_outcomes" (defScope s_term_with_outcomes) T.f_term_with_outcomes cdv A outer s H E) (fun cls d _ H => E cls d H) := L2N.takes_of rfl rfl rfl rfl
    ⟨_, (pss_one (ps_ret (pe_call (ok_term_with_tells T) hr rfl T.g_term_with_tells T.F_term_with_tells.kp T.b_term_with_tells .nil passN (pa_cons (pv 0) (pa_cons (pe_callTy call_tupleN (by rfl) T.z_tuple (by decide +kernel) (pa_cons (pe_lc (own := [("outcome", 2)]) rfl sc_term_with_outcomes.nd (pi_tup (pv 1)) (blkOk_by (N := N_term_with_outcomes) (sc := defScope s_term_with_outcomes) (by decide +kernel)) (fun _ _ _ _ _ => (pg_name (i := 2) sc_term_with_outcomes.nd rfl (Or.inl rfl))) (fun _ _ _ _ _ => pts_nil) (fun _ _ _ _ _ => (pe_tupN (pa_cons pe_str (pa_cons (pv 2) pa_nil))))) pa_nil)) pa_nil))))),
      (sRet (sCall (sCons sVar (sCons (sCB rcTuple (sCons (sLc (siT sVar) (gwName List.mem_cons_self) (fun _ _ _ => sName) (fun _ _ _ => sYes) (fun _ _ _ => (sTup (sCons sStr (sCons sVar sNil))))) sNil)) sNil))))⟩) (fun ds μ Φ Ψ h => ?hv)
  case hv =>
    obtain ⟨ws, oc, t, os, rfl, ht, hw, hs, hb, hn, h⟩ := h
    walk_at "wps"
    refine lcG_mapN (fun i => .tup [.str "tell", .int ((os.getD i 0 : Nat) : Int)]) (by rw [nI_len]; omega) (fun i d μ2 X hi hsub hx => ?_) ?_
    · obtain ⟨hil, rfl⟩ := nI_get hi
      rw [List.getD_eq_getElem?_getD, List.getElem?_eq_getElem hil] at hx
      walk_at "wps"
      exact ⟨by decide, hx⟩
    · rw [nI_len]
      have e : (List.range os.length).map (fun i => D.tup [.str "tell", .int ((os.getD i 0 : Nat) : Int)]) = qDs (tellsQ os) := by
        rw [tellsQ_D]
        refine List.ext_getElem (by rw [List.length_map, List.length_range, List.length_map]) fun i h1 h2 => ?_
        have hi : i < os.length := by rw [List.length_map] at h2; exact h2
        rw [List.getElem_map, List.getElem_range, List.getElem_map, List.getD_eq_getElem?_getD, List.getElem?_eq_getElem hi]
        rfl
      rw [e]
      refine ⟨_, .lst _, ws, oc, t, tellsQ os, rfl, ht, hw, by unfold tellsQ; rw [List.length_map]; exact hs, hn, ret_same h⟩
theorem sideI (l : List Int) : EqSide (.tup (l.map .int)) := by
  refine ⟨?_, ?_⟩
  · rw [eqOk]
    induction l with
    | nil => rfl
    | cons x l ih => rw [List.map_cons, eqOks, ih]; rfl
  · rw [dpt]
    have : dpts (l.map D.int) = 0 := by
      induction l with
      | nil => rfl
      | cons x l ih => rw [List.map_cons, dpts, ih]; rfl
    omega
def c_require_same_widths (C S : Addr) : Con := fun ds μ Φ Ψ => ∃ (ws ws' : List Int) (oc oc' : Nat) (t t' : QT), ds = [qO C t ws oc, qO C t' ws' oc'] ∧ (ws = ws' → Φ .non μ) ∧ (ws ≠ ws' → Ψ (.mk S none) μ)
theorem len_require_same_widths {C S ds μ Φ Ψ} (h : c_require_same_widths C S ds μ Φ Ψ) : ds.length = 2 := by obtain ⟨_, _, _, _, _, _, rfl, _⟩ := h; rfl
theorem ok_require_same_widths (T : Txt P w K mg) : FnOk P w K mg base (L2N.CX P w) 1 T.f_require_same_widths T.d_require_same_widths ["first", "second"] (spOf K (c_require_same_widths T.c_Query T.c_SizeMismatch)) := by
  refine def_okC T.F_require_same_widths sc_require_same_widths _ (fun ds μ Φ Ψ h => len_require_same_widths h) (fun cdv A outer s H E B hW hr =>
    have tk : L2N.Takes (cxOf (L2N.CX P w) P w K mg base N_require_same_widths "require_same_widths" (defScope s_require_same_widths) T.f_require_same_widths cdv A outer s H E) (fun cls d _ H => E cls d H) := L2N.takes_of rfl rfl rfl rfl
    ⟨_, (pss_one (ps_if (pt_cmpR (op_neD hr.units) (pe_fld (pv 0) rfl) (pe_fld (pv 1) rfl) (nomark _)) (pss_one (L2N.ps_raise rfl tk (L2N.pmk_own PySem.F.excBase_ValueError T.x_SizeMismatch T.g_SizeMismatch T.k_SizeMismatch (raises_own T.e_SizeMismatch T.t_SizeMismatch) rfl))) pss_nil)),
      (sIfS (sTest (sOp roNeD (sFldO (NS := NS_Query) (i := 1) T.cls_Query T.na_Query_widths rfl (by decide) sVar) (sFldO (NS := NS_Query) (i := 1) T.cls_Query T.na_Query_widths rfl (by decide) sVar))) (sRaise0W (W := fun cls d _ H => E cls d H) (C := T.c_SizeMismatch) (by exact hW)) sNext)⟩) (fun ds μ Φ Ψ h => ?hv)
  case hv =>
    obtain ⟨ws, ws', oc, oc', t, t', rfl, h1, h2⟩ := h
    have e1 : ∀ t ws oc, qO T.c_Query t ws oc = D.obj T.c_Query NS_Query [qD t, .tup (ws.map .int), .int (oc : Int)] := fun _ _ _ => rfl
    rw [e1, e1]
    walk_at "wps"
    refine ⟨sideI _, sideI _, _, rfl, fun q => ?_, fun q => ?_⟩
    · rw [eqD_ints] at q
      exact ⟨_, Sub.refl, h2 fun z => by rw [decide_eq_true z] at q; cases q⟩
    · rw [eqD_ints] at q
      refine ret_same (h1 ?_)
      by_cases z : ws = ws'
      · exact z
      · rw [decide_eq_false z] at q; cases q
def c_require_two_outcomes (C S : Addr) : Con := fun ds μ Φ Ψ => ∃ (ws : List Int) (oc : Nat) (t : QT), ds = [qO C t ws oc] ∧ (oc = 2 → Φ .non μ) ∧ (oc ≠ 2 → Ψ (.mk S none) μ)
theorem len_require_two_outcomes {C S ds μ Φ Ψ} (h : c_require_two_outcomes C S ds μ Φ Ψ) : ds.length = 1 := by obtain ⟨_, _, _, rfl, _⟩ := h; rfl
theorem ok_require_two_outcomes (T : Txt P w K mg) : FnOk P w K mg base (L2N.CX P w) 1 T.f_require_two_outcomes T.d_require_two_outcomes ["query"] (spOf K (c_require_two_outcomes T.c_Query T.c_SizeMismatch)) := by
  refine def_okC T.F_require_two_outcomes sc_require_two_outcomes _ (fun ds μ Φ Ψ h => len_require_two_outcomes h) (fun cdv A outer s H E B hW hr =>
    have tk : L2N.Takes (cxOf (L2N.CX P w) P w K mg base N_require_two_outcomes "require_two_outcomes" (defScope s_require_two_outcomes) T.f_require_two_outcomes cdv A outer s H E) (fun cls d _ H => E cls d H) := L2N.takes_of rfl rfl rfl rfl
    ⟨_, (pss_one (ps_if (pt_cmpR op_ne (pe_fld (pv 0) rfl) (pe_glob (v := .int 2) rfl T.g_TWO_OUTCOMES.choose_spec ⟨_, rfl⟩) (nomark _)) (pss_one (L2N.ps_raise rfl tk (L2N.pmk_own PySem.F.excBase_ValueError T.x_SizeMismatch T.g_SizeMismatch T.k_SizeMismatch (raises_own T.e_SizeMismatch T.t_SizeMismatch) rfl))) pss_nil)),
      (sIfS (sTest (sOp roNe (sFldO (NS := NS_Query) (i := 2) T.cls_Query T.na_Query_outcomes rfl (by decide) sVar) sInt)) (sRaise0W (W := fun cls d _ H => E cls d H) (C := T.c_SizeMismatch) (by exact hW)) sNext)⟩) (fun ds μ Φ Ψ h => ?hv)
  case hv =>
    obtain ⟨ws, oc, t, rfl, h1, h2⟩ := h
    have e1 : ∀ t ws oc, qO T.c_Query t ws oc = D.obj T.c_Query NS_Query [qD t, .tup (ws.map .int), .int (oc : Int)] := fun _ _ _ => rfl
    rw [e1]
    walk_at "wps"
    by_cases z : oc = 2
    · rw [decide_eq_true (show (oc : Int) = 2 by omega)]
      walk_at "wps"
      exact ret_same (h1 z)
    · rw [decide_eq_false (show ¬ (oc : Int) = 2 by omega)]
      walk_at "wps"
      exact ⟨_, Sub.refl, h2 z⟩
end
section
variable {P : Program} {w : World} {K : Fg} {mg : Str → Option Value} {base : Heap}
def c_require_combined (C S : Addr) : Con := fun ds μ Φ Ψ => ∃ (ws ws' : List Int) (oc oc' : Nat) (t t' : QT), ds = [qO C t ws oc, qO C t' ws' oc'] ∧ (oc = 2 → oc' = 2 → ws = ws' → Φ .non μ) ∧ (¬ (oc = 2 ∧ oc' = 2 ∧ ws = ws') → Ψ (.mk S none) μ)
theorem len_require_combined {C S ds μ Φ Ψ} (h : c_require_combined C S ds μ Φ Ψ) : ds.length = 2 := by obtain ⟨_, _, _, _, _, _, rfl, _⟩ := h; rfl
theorem ok_require_combined (T : Txt P w K mg) : FnOk P w K mg base (L2N.CX P w) 2 T.f_require_combined T.d_require_combined ["first", "second"] (spOf K (c_require_combined T.c_Query T.c_SizeMismatch)) := by
  refine def_okC T.F_require_combined sc_require_combined _ (fun ds μ Φ Ψ h => len_require_combined h) (fun cdv A outer s H E B hW hr =>
    have tk : L2N.Takes (cxOf (L2N.CX P w) P w K mg base N_require_combined "require_combined" (defScope s_require_combined) T.f_require_combined cdv A outer s H E) (fun cls d _ H => E cls d H) := L2N.takes_of rfl rfl rfl rfl
    ⟨_, (pss_cons (ps_expr (pe_callS (ok_require_two_outcomes T) hr rfl T.g_require_two_outcomes T.F_require_two_outcomes.kp T.b_require_two_outcomes (fun σ => L2N.passAt tk σ) (pa_cons (pv 0) pa_nil)))
      (pss_cons (ps_expr (pe_callS (ok_require_two_outcomes T) hr rfl T.g_require_two_outcomes T.F_require_two_outcomes.kp T.b_require_two_outcomes (fun σ => L2N.passAt tk σ) (pa_cons (pv 1) pa_nil)))
      (pss_one (ps_expr (pe_callS (ok_require_same_widths T) hr rfl T.g_require_same_widths T.F_require_same_widths.kp T.b_require_same_widths (fun σ => L2N.passAt tk σ) (pa_cons (pv 0) (pa_cons (pv 1) pa_nil))))))),
      (sSeq (sDrop (sCallSW (W := fun cls d _ H => E cls d H) (by exact hW) (sCons sVar sNil)))
      (sSeq (sDrop (sCallSW (W := fun cls d _ H => E cls d H) (by exact hW) (sCons sVar sNil)))
      (sDrop (sCallSW (W := fun cls d _ H => E cls d H) (by exact hW) (sCons sVar (sCons sVar sNil))))))⟩) (fun ds μ Φ Ψ h => ?hv)
  case hv =>
    obtain ⟨ws, ws', oc, oc', t, t', rfl, h1, h2⟩ := h
    walk_at "wps"
    refine ⟨ws, oc, t, rfl, fun a => ⟨ws', oc', t', rfl, fun b => ⟨ws, ws', oc, oc', t, t', rfl, fun c => ret_same (h1 a b c), fun c => ⟨_, Sub.refl, h2 fun z => c z.2.2⟩⟩, fun b => ⟨_, Sub.refl, h2 fun z => b z.2.1⟩⟩, fun a => ⟨_, Sub.refl, h2 fun z => a z.1⟩⟩
/-- what comes of making a query -/
def MkR (C Q L : Addr) (ws : List Int) (oc : Nat) (t : QT) (Φ : DK) (Ψ : XD → Sto → Prop) (μ : Sto) : Prop := match qMk ws t with
  | .made => Φ (qO C t ws oc) μ
  | .deep p => Ψ (.mk Q (some (["path"], [.tup (nI p)]))) μ
  | .large => Ψ (.mk L none) μ
/-- a term of which a query may be tried to be made -/
structure QTry (ws : List Int) (oc : Nat) (t : QT) : Prop where
  w : WsOk ws
  o1 : 1 ≤ oc
  o4 : oc ≤ 4
  ok : QOk ws oc t
  len : (qPl t).length ≤ 5000
  few : (qMs (qPl t)).length ≤ 60
theorem mk_q {C Q L x : Addr} {ws : List Int} {oc : Nat} {t : QT} {μ : Sto} {Φ Φ' : DK} {Ψ : XD → Sto → Prop} (hx : μ x = none) (q : QTry ws oc t) (h : MkR C Q L ws oc t Φ Ψ μ) (hΦ : Φ (qO C t ws oc) μ → Φ' (.obj C NS_Query [qD t, .tup (ws.map .int), .int (oc : Int)]) μ) :
    c_Query___init__ C Q L [.hd (.ref x), qD t, .tup (ws.map .int), .int (oc : Int)] (sset μ x (.ins C [] [])) (fun d μ2 => d = .non ∧ ∃ ns es, μ2 x = some (.ins C ns es) ∧ Φ' (.obj C ns es) (sdel μ2 x)) (fun y μ2 => ∃ μ3, Sub μ3 μ2 ∧ Ψ y μ3) := by
  refine ⟨x, ws, oc, t, rfl, sset_same, q.w, q.o1, q.o4, q.ok, q.len, q.few, ?_⟩
  unfold MkR at h
  cases e : qMk ws t with
  | made =>
    rw [e] at h
    refine ⟨rfl, NS_Query, _, sset_same, ?_⟩
    rw [sset_sset, sdel_sset hx]
    exact hΦ h
  | deep p => rw [e] at h; exact ⟨μ, Sub.set Sub.refl hx, h⟩
  | large => rw [e] at h; exact ⟨μ, Sub.set Sub.refl hx, h⟩
def c_Query___invert__ (C Q L S : Addr) : Con := fun ds μ Φ Ψ => ∃ (ws : List Int) (oc : Nat) (t : QT), ds = [qO C t ws oc] ∧ QOk ws oc t ∧ qDep t < 36 ∧ WsOk ws ∧ (oc ≠ 2 → Ψ (.mk S none) μ) ∧ (oc = 2 → QTry ws 2 (qSub (tellsQ [1, 0]) t) ∧ MkR C Q L ws 2 (qSub (tellsQ [1, 0]) t) Φ Ψ μ)
theorem len_Query___invert__ {C Q L S ds μ Φ Ψ} (h : c_Query___invert__ C Q L S ds μ Φ Ψ) : ds.length = 1 := by obtain ⟨_, _, _, rfl, _⟩ := h; rfl
theorem ok_Query___invert__ (T : Txt P w K mg) : FnOk P w K mg base (L2N.CX P w) 42 T.f_Query___invert__ T.d_Query___invert__ ["self"] (spOf K (c_Query___invert__ T.c_Query T.c_InvalidQuery T.c_TooLarge T.c_SizeMismatch)) := by
  refine def_okC T.F_Query___invert__ sc_Query___invert__ _ (fun ds μ Φ Ψ h => len_Query___invert__ h) (fun cdv A outer s H E B hW hr =>
    have tk : L2N.Takes (cxOf (L2N.CX P w) P w K mg base N_Query___invert__ "Query.__invert__" (defScope s_Query___invert__) T.f_Query___invert__ cdv A outer s H E) (fun cls d _ H => E cls d H) := L2N.takes_of rfl rfl rfl rfl
    ⟨_, (pss_cons (ps_expr (pe_callS (ok_require_two_outcomes T) (hr.mono (by decide)) rfl T.g_require_two_outcomes T.F_require_two_outcomes.kp T.b_require_two_outcomes (fun σ => L2N.passAt tk σ) (pa_cons (pv 0) pa_nil)))
      (pss_one (ps_ret (pe_makeS T.mk_Query (ok_Query___init__ T) (hr.mono (by decide)) rfl T.g_Query T.b_Query___init__ (fun σ => L2N.passAt tk σ) (pa_cons (pe_call (ok_term_with_outcomes T) hr rfl T.g_term_with_outcomes T.F_term_with_outcomes.kp T.b_term_with_outcomes .nil passN (pa_cons (pe_fld (pv 0) rfl) (pa_cons (pe_tupN (pa_cons pe_int (pa_cons pe_int pa_nil))) pa_nil))) (pa_cons (pe_fld (pv 0) rfl) (pa_cons (pe_fld (pv 0) rfl) pa_nil))))))),
      (sSeq (sDrop (sCallSW (W := fun cls d _ H => E cls d H) (by exact hW) (sCons sVar sNil)))
      (sRet (sMakeSW (W := fun cls d _ H => E cls d H) (by exact hW) (sCons (sCall (sCons (sFldO (NS := NS_Query) (i := 0) T.cls_Query T.na_Query_term rfl (by decide) sVar) (sCons (sTup (sCons sInt (sCons sInt sNil))) sNil))) (sCons (sFldO (NS := NS_Query) (i := 1) T.cls_Query T.na_Query_widths rfl (by decide) sVar) (sCons (sFldO (NS := NS_Query) (i := 2) T.cls_Query T.na_Query_outcomes rfl (by decide) sVar) sNil))))))⟩) (fun ds μ Φ Ψ h => ?hv)
  case hv =>
    obtain ⟨ws, oc, t, rfl, ht, hn, hw, h1, h2⟩ := h
    have e1 : ∀ t ws oc, qO T.c_Query t ws oc = D.obj T.c_Query NS_Query [qD t, .tup (ws.map .int), .int (oc : Int)] := fun _ _ _ => rfl
    rw [e1]
    walk_at "wps"
    refine ⟨ws, oc, t, rfl, fun z => ?_, fun z => ⟨_, Sub.refl, h1 z⟩⟩
    subst z
    obtain ⟨q, h⟩ := h2 rfl
    walk_at "wps"
    refine ⟨by decide, ws, 2, t, [1, 0], rfl, ht, hw, by decide, by decide, hn, fun x hx => ?_⟩
    exact mk_q (Φ' := fun d μ2 => ∃ μ3, Sub μ3 μ2 ∧ Φ d μ3) hx q h fun z => ret_same z
def c_Query___and__ (C Q L S : Addr) : Con := fun ds μ Φ Ψ => ∃ (ws ws' : List Int) (oc oc' : Nat) (t t' : QT), ds = [qO C t ws oc, qO C t' ws' oc'] ∧ QOk ws oc t ∧ qDep t < 36 ∧ WsOk ws ∧ (¬ (oc = 2 ∧ oc' = 2 ∧ ws = ws') → Ψ (.mk S none) μ) ∧ (oc = 2 → oc' = 2 → ws = ws' → QTry ws 2 (qSub [.tell 0, t'] t) ∧ MkR C Q L ws 2 (qSub [.tell 0, t'] t) Φ Ψ μ)
theorem len_Query___and__ {C Q L S ds μ Φ Ψ} (h : c_Query___and__ C Q L S ds μ Φ Ψ) : ds.length = 2 := by obtain ⟨_, _, _, _, _, _, rfl, _⟩ := h; rfl
theorem ok_Query___and__ (T : Txt P w K mg) : FnOk P w K mg base (L2N.CX P w) 42 T.f_Query___and__ T.d_Query___and__ ["self", "other"] (spOf K (c_Query___and__ T.c_Query T.c_InvalidQuery T.c_TooLarge T.c_SizeMismatch)) := by
  refine def_okC T.F_Query___and__ sc_Query___and__ _ (fun ds μ Φ Ψ h => len_Query___and__ h) (fun cdv A outer s H E B hW hr =>
    have tk : L2N.Takes (cxOf (L2N.CX P w) P w K mg base N_Query___and__ "Query.__and__" (defScope s_Query___and__) T.f_Query___and__ cdv A outer s H E) (fun cls d _ H => E cls d H) := L2N.takes_of rfl rfl rfl rfl
    ⟨_, (pss_cons (ps_expr (pe_callS (ok_require_combined T) (hr.mono (by decide)) rfl T.g_require_combined T.F_require_combined.kp T.b_require_combined (fun σ => L2N.passAt tk σ) (pa_cons (pv 0) (pa_cons (pv 1) pa_nil))))
      (pss_one (ps_ret (pe_makeS T.mk_Query (ok_Query___init__ T) (hr.mono (by decide)) rfl T.g_Query T.b_Query___init__ (fun σ => L2N.passAt tk σ) (pa_cons (pe_call (ok_term_with_tells T) (hr.mono (by decide)) rfl T.g_term_with_tells T.F_term_with_tells.kp T.b_term_with_tells .nil passN (pa_cons (pe_fld (pv 0) rfl) (pa_cons (pe_tupN (pa_cons (pe_tupN (pa_cons pe_str (pa_cons pe_int pa_nil))) (pa_cons (pe_fld (pv 1) rfl) pa_nil))) pa_nil))) (pa_cons (pe_fld (pv 0) rfl) (pa_cons (pe_fld (pv 0) rfl) pa_nil))))))),
      (sSeq (sDrop (sCallSW (W := fun cls d _ H => E cls d H) (by exact hW) (sCons sVar (sCons sVar sNil))))
      (sRet (sMakeSW (W := fun cls d _ H => E cls d H) (by exact hW) (sCons (sCall (sCons (sFldO (NS := NS_Query) (i := 0) T.cls_Query T.na_Query_term rfl (by decide) sVar) (sCons (sTup (sCons (sTup (sCons sStr (sCons sInt sNil))) (sCons (sFldO (NS := NS_Query) (i := 0) T.cls_Query T.na_Query_term rfl (by decide) sVar) sNil))) sNil))) (sCons (sFldO (NS := NS_Query) (i := 1) T.cls_Query T.na_Query_widths rfl (by decide) sVar) (sCons (sFldO (NS := NS_Query) (i := 2) T.cls_Query T.na_Query_outcomes rfl (by decide) sVar) sNil))))))⟩) (fun ds μ Φ Ψ h => ?hv)
  case hv =>
    obtain ⟨ws, ws', oc, oc', t, t', rfl, ht, hn, hw, h1, h2⟩ := h
    have e1 : ∀ t ws oc, qO T.c_Query t ws oc = D.obj T.c_Query NS_Query [qD t, .tup (ws.map .int), .int (oc : Int)] := fun _ _ _ => rfl
    rw [e1, e1]
    walk_at "wps"
    refine ⟨ws, ws', oc, oc', t, t', rfl, fun a b c => ?_, fun z => ⟨_, Sub.refl, h1 z⟩⟩
    subst a b c
    obtain ⟨q, h⟩ := h2 rfl rfl rfl
    walk_at "wps"
    refine ⟨by decide, by decide, ws, 2, t, [.tell 0, t'], rfl, ht, hw, Nat.le_refl 2, hn, fun x hx => ?_⟩
    exact mk_q (Φ' := fun d μ2 => ∃ μ3, Sub μ3 μ2 ∧ Φ d μ3) hx q h fun z => ret_same z
end
section
variable {P : Program} {w : World} {K : Fg} {mg : Str → Option Value} {base : Heap}
def c_Query___or__ (C Q L S : Addr) : Con := fun ds μ Φ Ψ => ∃ (ws ws' : List Int) (oc oc' : Nat) (t t' : QT), ds = [qO C t ws oc, qO C t' ws' oc'] ∧ QOk ws oc t ∧ qDep t < 36 ∧ WsOk ws ∧ (¬ (oc = 2 ∧ oc' = 2 ∧ ws = ws') → Ψ (.mk S none) μ) ∧ (oc = 2 → oc' = 2 → ws = ws' → QTry ws 2 (qSub [t', .tell 1] t) ∧ MkR C Q L ws 2 (qSub [t', .tell 1] t) Φ Ψ μ)
theorem len_Query___or__ {C Q L S ds μ Φ Ψ} (h : c_Query___or__ C Q L S ds μ Φ Ψ) : ds.length = 2 := by obtain ⟨_, _, _, _, _, _, rfl, _⟩ := h; rfl
theorem ok_Query___or__ (T : Txt P w K mg) : FnOk P w K mg base (L2N.CX P w) 42 T.f_Query___or__ T.d_Query___or__ ["self", "other"] (spOf K (c_Query___or__ T.c_Query T.c_InvalidQuery T.c_TooLarge T.c_SizeMismatch)) := by
  refine def_okC T.F_Query___or__ sc_Query___or__ _ (fun ds μ Φ Ψ h => len_Query___or__ h) (fun cdv A outer s H E B hW hr =>
    have tk : L2N.Takes (cxOf (L2N.CX P w) P w K mg base N_Query___or__ "Query.__or__" (defScope s_Query___or__) T.f_Query___or__ cdv A outer s H E) (fun cls d _ H => E cls d H) := L2N.takes_of rfl rfl rfl rfl
    ⟨_, (pss_cons (ps_expr (pe_callS (ok_require_combined T) (hr.mono (by decide)) rfl T.g_require_combined T.F_require_combined.kp T.b_require_combined (fun σ => L2N.passAt tk σ) (pa_cons (pv 0) (pa_cons (pv 1) pa_nil))))
      (pss_one (ps_ret (pe_makeS T.mk_Query (ok_Query___init__ T) (hr.mono (by decide)) rfl T.g_Query T.b_Query___init__ (fun σ => L2N.passAt tk σ) (pa_cons (pe_call (ok_term_with_tells T) (hr.mono (by decide)) rfl T.g_term_with_tells T.F_term_with_tells.kp T.b_term_with_tells .nil passN (pa_cons (pe_fld (pv 0) rfl) (pa_cons (pe_tupN (pa_cons (pe_fld (pv 1) rfl) (pa_cons (pe_tupN (pa_cons pe_str (pa_cons pe_int pa_nil))) pa_nil))) pa_nil))) (pa_cons (pe_fld (pv 0) rfl) (pa_cons (pe_fld (pv 0) rfl) pa_nil))))))),
      (sSeq (sDrop (sCallSW (W := fun cls d _ H => E cls d H) (by exact hW) (sCons sVar (sCons sVar sNil))))
      (sRet (sMakeSW (W := fun cls d _ H => E cls d H) (by exact hW) (sCons (sCall (sCons (sFldO (NS := NS_Query) (i := 0) T.cls_Query T.na_Query_term rfl (by decide) sVar) (sCons (sTup (sCons (sFldO (NS := NS_Query) (i := 0) T.cls_Query T.na_Query_term rfl (by decide) sVar) (sCons (sTup (sCons sStr (sCons sInt sNil))) sNil))) sNil))) (sCons (sFldO (NS := NS_Query) (i := 1) T.cls_Query T.na_Query_widths rfl (by decide) sVar) (sCons (sFldO (NS := NS_Query) (i := 2) T.cls_Query T.na_Query_outcomes rfl (by decide) sVar) sNil))))))⟩) (fun ds μ Φ Ψ h => ?hv)
  case hv =>
    obtain ⟨ws, ws', oc, oc', t, t', rfl, ht, hn, hw, h1, h2⟩ := h
    have e1 : ∀ t ws oc, qO T.c_Query t ws oc = D.obj T.c_Query NS_Query [qD t, .tup (ws.map .int), .int (oc : Int)] := fun _ _ _ => rfl
    rw [e1, e1]
    walk_at "wps"
    refine ⟨ws, ws', oc, oc', t, t', rfl, fun a b c => ?_, fun z => ⟨_, Sub.refl, h1 z⟩⟩
    subst a b c
    obtain ⟨q, h⟩ := h2 rfl rfl rfl
    walk_at "wps"
    refine ⟨by decide, by decide, ws, 2, t, [t', .tell 1], rfl, ht, hw, Nat.le_refl 2, hn, fun x hx => ?_⟩
    exact mk_q (Φ' := fun d μ2 => ∃ μ3, Sub μ3 μ2 ∧ Φ d μ3) hx q h fun z => ret_same z
def c_Query___xor__ (C Q L S : Addr) : Con := fun ds μ Φ Ψ => ∃ (ws ws' : List Int) (oc oc' : Nat) (t t' : QT), ds = [qO C t ws oc, qO C t' ws' oc'] ∧ QOk ws oc t ∧ qDep t < 36 ∧ QOk ws' oc' t' ∧ qDep t' < 36 ∧ WsOk ws ∧ (¬ (oc = 2 ∧ oc' = 2 ∧ ws = ws') → Ψ (.mk S none) μ) ∧ (oc = 2 → oc' = 2 → ws = ws' → QTry ws 2 (qSub [t', qSub (tellsQ [1, 0]) t'] t) ∧ MkR C Q L ws 2 (qSub [t', qSub (tellsQ [1, 0]) t'] t) Φ Ψ μ)
theorem len_Query___xor__ {C Q L S ds μ Φ Ψ} (h : c_Query___xor__ C Q L S ds μ Φ Ψ) : ds.length = 2 := by obtain ⟨_, _, _, _, _, _, rfl, _⟩ := h; rfl
theorem ok_Query___xor__ (T : Txt P w K mg) : FnOk P w K mg base (L2N.CX P w) 42 T.f_Query___xor__ T.d_Query___xor__ ["self", "other"] (spOf K (c_Query___xor__ T.c_Query T.c_InvalidQuery T.c_TooLarge T.c_SizeMismatch)) := by
  refine def_okC T.F_Query___xor__ sc_Query___xor__ _ (fun ds μ Φ Ψ h => len_Query___xor__ h) (fun cdv A outer s H E B hW hr =>
    have tk : L2N.Takes (cxOf (L2N.CX P w) P w K mg base N_Query___xor__ "Query.__xor__" (defScope s_Query___xor__) T.f_Query___xor__ cdv A outer s H E) (fun cls d _ H => E cls d H) := L2N.takes_of rfl rfl rfl rfl
    ⟨_, (pss_cons (ps_expr (pe_callS (ok_require_combined T) (hr.mono (by decide)) rfl T.g_require_combined T.F_require_combined.kp T.b_require_combined (fun σ => L2N.passAt tk σ) (pa_cons (pv 0) (pa_cons (pv 1) pa_nil))))
      (pss_cons (ps_set (i := 2) sc_Query___xor__.nd rfl (Or.inl rfl) (pe_call (ok_term_with_outcomes T) hr rfl T.g_term_with_outcomes T.F_term_with_outcomes.kp T.b_term_with_outcomes .nil passN (pa_cons (pe_fld (pv 1) rfl) (pa_cons (pe_tupN (pa_cons pe_int (pa_cons pe_int pa_nil))) pa_nil))))
      (pss_one (ps_ret (pe_makeS T.mk_Query (ok_Query___init__ T) (hr.mono (by decide)) rfl T.g_Query T.b_Query___init__ (fun σ => L2N.passAt tk σ) (pa_cons (pe_call (ok_term_with_tells T) (hr.mono (by decide)) rfl T.g_term_with_tells T.F_term_with_tells.kp T.b_term_with_tells .nil passN (pa_cons (pe_fld (pv 0) rfl) (pa_cons (pe_tupN (pa_cons (pe_fld (pv 1) rfl) (pa_cons (pv 2) pa_nil))) pa_nil))) (pa_cons (pe_fld (pv 0) rfl) (pa_cons (pe_fld (pv 0) rfl) pa_nil)))))))),
      (sSeq (sDrop (sCallSW (W := fun cls d _ H => E cls d H) (by exact hW) (sCons sVar (sCons sVar sNil))))
      (sSeq (sAsg (sCall (sCons (sFldO (NS := NS_Query) (i := 0) T.cls_Query T.na_Query_term rfl (by decide) sVar) (sCons (sTup (sCons sInt (sCons sInt sNil))) sNil))) sName)
      (sRet (sMakeSW (W := fun cls d _ H => E cls d H) (by exact hW) (sCons (sCall (sCons (sFldO (NS := NS_Query) (i := 0) T.cls_Query T.na_Query_term rfl (by decide) sVar) (sCons (sTup (sCons (sFldO (NS := NS_Query) (i := 0) T.cls_Query T.na_Query_term rfl (by decide) sVar) (sCons sVar sNil))) sNil))) (sCons (sFldO (NS := NS_Query) (i := 1) T.cls_Query T.na_Query_widths rfl (by decide) sVar) (sCons (sFldO (NS := NS_Query) (i := 2) T.cls_Query T.na_Query_outcomes rfl (by decide) sVar) sNil)))))))⟩) (fun ds μ Φ Ψ h => ?hv)
  case hv =>
    obtain ⟨ws, ws', oc, oc', t, t', rfl, ht, hn, ht', hn', hw, h1, h2⟩ := h
    have e1 : ∀ t ws oc, qO T.c_Query t ws oc = D.obj T.c_Query NS_Query [qD t, .tup (ws.map .int), .int (oc : Int)] := fun _ _ _ => rfl
    rw [e1, e1]
    walk_at "wps"
    refine ⟨ws, ws', oc, oc', t, t', rfl, fun a b c => ?_, fun z => ⟨_, Sub.refl, h1 z⟩⟩
    subst a b c
    obtain ⟨q, h⟩ := h2 rfl rfl rfl
    walk_at "wps"
    refine ⟨by decide, ws, 2, t', [1, 0], rfl, ht', hw, by decide, by decide, hn', ?_⟩
    walk_at "wps"
    refine ⟨by decide, ws, 2, t, [t', qSub (tellsQ [1, 0]) t'], rfl, ht, hw, Nat.le_refl 2, hn, fun x hx => ?_⟩
    exact mk_q (Φ' := fun d μ2 => ∃ μ3, Sub μ3 μ2 ∧ Φ d μ3) hx q h fun z => ret_same z
section
variable {P : Program} {w : World} {K : Fg} {mg : Str → Option Value} {base : Heap}
theorem okN_fixed_term (T : Txt P w K mg) : ∀ n, FnOk P w K mg base (L2N.CX P w) (4 + n) T.f_fixed_term T.d_fixed_term ["term", "place", "option"] (spOf K (c_fixed_term n))
  | 0 => fn_never fun ds μ Φ Ψ h => by obtain ⟨_, _, _, _, _, _, _, _, _, h, _⟩ := h; omega
  | n + 1 => step_fixed_term T (k := 4 + n) (by omega) n (okN_fixed_term T n)
theorem ok_fixed_term (T : Txt P w K mg) : FnOk P w K mg base (L2N.CX P w) 30 T.f_fixed_term T.d_fixed_term ["term", "place", "option"] (spOf K (c_fixed_term 26)) := okN_fixed_term T 26
end
def c_fix_place (C O : Addr) : Con := fun ds μ Φ Ψ => ∃ (ws : List Int) (oc : Nat) (ps : List Nat) (t : QT) (p x : Int), ds = [qO C t ws oc, .int p, .int x] ∧ QFit ws oc ps t ∧ (¬ (0 ≤ p ∧ p < 100 ∧ 0 ≤ x ∧ x < (wd ws p.toNat : Int)) → Ψ (.mk O none) μ) ∧ (∀ (q o : Nat), p = q → x = o → q < 100 → o < wd ws q → Φ (qO C (qFx q o t) ws oc) μ)
theorem len_fix_place {C O ds μ Φ Ψ} (h : c_fix_place C O ds μ Φ Ψ) : ds.length = 3 := by obtain ⟨_, _, _, _, _, _, rfl, _⟩ := h; rfl
theorem QFit.fix {ws : List Int} {oc : Nat} {ps : List Nat} {t : QT} {m o : Nat} (h : QFit ws oc ps t) (ho : o < wd ws m) : QFit ws oc ps (qFx m o t) :=
  ⟨h.w, h.o1, h.o4, qFx_ok ho t h.ok, h.sorted, h.most, h.few, fun q hq => h.pl q (qFx_pl ho t h.ok q hq).1, Nat.le_trans (qFx_len ho t h.ok) h.looks, Nat.le_trans (qFx_dep t h.ok ho) h.dep⟩
theorem QFit.try_ {ws : List Int} {oc : Nat} {ps : List Nat} {t : QT} (h : QFit ws oc ps t) : QTry ws oc t :=
  ⟨h.w, h.o1, h.o4, h.ok, by have := h.looks; omega, by
    have := (wpr_mono h.w (qMs_sorted (qPl t)) h.sorted fun q hq => h.pl q ((qMs_mem (QOk.pl t h.ok) q).mp hq)).2
    have := h.most
    omega⟩
theorem QFit.mkr {C Q L : Addr} {ws : List Int} {oc : Nat} {ps : List Nat} {t : QT} {Φ : DK} {Ψ : XD → Sto → Prop} {μ : Sto} (h : QFit ws oc ps t) (k : Φ (qO C t ws oc) μ) : MkR C Q L ws oc t Φ Ψ μ := by
  unfold MkR
  rw [h.mk_]
  exact k
theorem ok_fix_place (T : Txt P w K mg) : FnOk P w K mg base (L2N.CX P w) 42 T.f_fix_place T.d_fix_place ["query", "place", "option"] (spOf K (c_fix_place T.c_Query T.c_OutOfRange)) := by
  refine def_okC T.F_fix_place sc_fix_place _ (fun ds μ Φ Ψ h => len_fix_place h) (fun cdv A outer s H E B hW hr =>
    have tk : L2N.Takes (cxOf (L2N.CX P w) P w K mg base N_fix_place "fix_place" (defScope s_fix_place) T.f_fix_place cdv A outer s H E) (fun cls d _ H => E cls d H) := L2N.takes_of rfl rfl rfl rfl
    ⟨_, (pss_cons (ps_if (PW.pt (pw_or (pt_not (pt_val (pe_call (ok_is_below T) (hr.mono (by decide)) rfl T.g_is_below T.F_is_below.kp T.b_is_below .nil passN (pa_cons (pv 1) (pa_cons (pe_glob (v := .int 100) rfl T.g_PLACES.choose_spec ⟨_, rfl⟩) pa_nil))))) (pw_or1 (pt_not (pt_val (pe_call (ok_is_below T) (hr.mono (by decide)) rfl T.g_is_below T.F_is_below.kp T.b_is_below .nil passN (pa_cons (pv 2) (pa_cons (pe_call (ok_width_at T) (hr.mono (by decide)) rfl T.g_width_at T.F_width_at.kp T.b_width_at .nil passN (pa_cons (pe_fld (pv 0) rfl) (pa_cons (pv 1) pa_nil))) pa_nil)))))))) (pss_one (L2N.ps_raise rfl tk (L2N.pmk_own PySem.F.excBase_ValueError T.x_OutOfRange T.g_OutOfRange T.k_OutOfRange (raises_own T.e_OutOfRange T.t_OutOfRange) rfl))) pss_nil)
      (pss_one (ps_ret (pe_makeS T.mk_Query (ok_Query___init__ T) (hr.mono (by decide)) rfl T.g_Query T.b_Query___init__ (fun σ => L2N.passAt tk σ) (pa_cons (pe_call (ok_fixed_term T) (hr.mono (by decide)) rfl T.g_fixed_term T.F_fixed_term.kp T.b_fixed_term .nil passN (pa_cons (pe_fld (pv 0) rfl) (pa_cons (pv 1) (pa_cons (pv 2) pa_nil)))) (pa_cons (pe_fld (pv 0) rfl) (pa_cons (pe_fld (pv 0) rfl) pa_nil))))))),
      (sSeq (sIfS (sOr (sNot (sB (sCall (sCons sVar (sCons sInt sNil))))) (sNot (sB (sCall (sCons sVar (sCons (sCall (sCons (sFldO (NS := NS_Query) (i := 1) T.cls_Query T.na_Query_widths rfl (by decide) sVar) (sCons sVar sNil))) sNil)))))) (sRaise0W (W := fun cls d _ H => E cls d H) (C := T.c_OutOfRange) (by exact hW)) sNext)
      (sRet (sMakeSW (W := fun cls d _ H => E cls d H) (by exact hW) (sCons (sCall (sCons (sFldO (NS := NS_Query) (i := 0) T.cls_Query T.na_Query_term rfl (by decide) sVar) (sCons sVar (sCons sVar sNil)))) (sCons (sFldO (NS := NS_Query) (i := 1) T.cls_Query T.na_Query_widths rfl (by decide) sVar) (sCons (sFldO (NS := NS_Query) (i := 2) T.cls_Query T.na_Query_outcomes rfl (by decide) sVar) sNil))))))⟩) (fun ds μ Φ Ψ h => ?hv)
  case hv =>
    obtain ⟨ws, oc, ps, t, p, x, rfl, hq, h1, h2⟩ := h
    have e1 : ∀ t ws oc, qO T.c_Query t ws oc = D.obj T.c_Query NS_Query [qD t, .tup (ws.map .int), .int (oc : Int)] := fun _ _ _ => rfl
    rw [e1]
    refine seq_cut fun M hM => ?_
    walk_at "wp"
    simp only [w_is_below]
    walk_at "wp"
    by_cases c : 0 ≤ p ∧ p < 100
    · obtain ⟨q, rfl⟩ : ∃ q : Nat, p = (q : Int) := ⟨p.toNat, by omega⟩
      rw [decide_eq_true c]
      walk_at "wp"
      refine ⟨ws, q, rfl, hq.w, ?_⟩
      simp only [w_is_below]
      walk_at "wp"
      by_cases d : 0 ≤ x ∧ x < (wd ws q : Int)
      · obtain ⟨o, rfl⟩ : ∃ o : Nat, x = (o : Int) := ⟨x.toNat, by omega⟩
        rw [decide_eq_true d]
        walk_at "wp"
        rw [hM]; clear hM M
        walk_at "wps"
        have ho : o < wd ws q := by omega
        refine ⟨ws, oc, q, o, t, rfl, hq.ok, hq.w, ho, by have := hq.dep; omega, fun x hx => ?_⟩
        exact mk_q (Φ' := fun d μ2 => ∃ μ3, Sub μ3 μ2 ∧ Φ d μ3) hx (hq.fix ho).try_ ((hq.fix ho).mkr (h2 q o rfl rfl (by omega) ho)) fun z => ret_same z
      · rw [decide_eq_false d]
        walk_at "wp"
        exact ⟨_, Sub.refl, h1 fun z => d ⟨z.2.2.1, by simpa using z.2.2.2⟩⟩
    · rw [decide_eq_false c]
      walk_at "wp"
      exact ⟨_, Sub.refl, h1 fun z => c ⟨z.1, z.2.1⟩⟩
end
section
variable {P : Program} {w : World} {K : Fg} {mg : Str → Option Value} {base : Heap}
def c_query_tail (C O : Addr) : Con := fun ds μ Φ Ψ => ∃ (ws : List Int) (oc : Nat) (ps : List Nat) (t : QT) (x : Int), ds = [qO C t ws oc, .int x] ∧ QFit ws oc ps t ∧ (¬ (0 ≤ x ∧ x < (wd ws 0 : Int)) → Ψ (.mk O none) μ) ∧ (∀ o : Nat, x = o → o < wd ws 0 → Φ (qO C (qLow (qFx 0 o t)) (rotW ws) oc) μ)
theorem len_query_tail {C O ds μ Φ Ψ} (h : c_query_tail C O ds μ Φ Ψ) : ds.length = 2 := by obtain ⟨_, _, _, _, _, rfl, _⟩ := h; rfl
theorem wpr_low {ws : List Int} (hw : WsOk ws) : ∀ l : List Nat, (∀ q ∈ l, q ≠ 0) → wpr (rotW ws) (l.map (· - 1)) = wpr ws l
  | [], _ => rfl
  | p :: l, h => by
    have hp := h p List.mem_cons_self
    rw [List.map_cons, wpr, wpr, wpr_low hw l fun q hq => h q (List.mem_cons_of_mem _ hq), wd_rot hw, show p - 1 + 1 = p by omega]
theorem QFit.low {ws : List Int} {oc : Nat} {ps : List Nat} {t : QT} (h : QFit ws oc ps t) (h0 : 0 ∉ qPl t) : QFit (rotW ws) oc ((ps.filter fun q => decide (q ≠ 0)).map (· - 1)) (qLow t) := by
  have hs : (ps.filter fun q => decide (q ≠ 0)).Pairwise (· < ·) := h.sorted.sublist List.filter_sublist
  have hn : ∀ q ∈ ps.filter fun q => decide (q ≠ 0), q ≠ 0 := fun q hq => of_decide_eq_true (List.mem_filter.mp hq).2
  have hw := wpr_mono h.w hs h.sorted fun q hq => (List.mem_filter.mp hq).1
  refine ⟨rotW_ok h.w, h.o1, h.o4, qLow_ok h.w t h.ok h0, ?_, ?_, ?_, fun q hq => ?_, by rw [qLow_pl, List.length_map]; exact h.looks, by rw [qLow_dep]; exact h.dep⟩
  · rw [List.pairwise_map]
    exact hs.imp_of_mem fun {a b} ha hb hab => by have := hn a ha; omega
  · rw [List.length_map]; have := h.most; omega
  · rw [wpr_low h.w _ hn]; have := h.few; omega
  · rw [qLow_pl] at hq
    obtain ⟨r, hr, rfl⟩ := List.mem_map.mp hq
    exact List.mem_map.mpr ⟨r, List.mem_filter.mpr ⟨h.pl r hr, decide_eq_true fun z => h0 (z ▸ hr)⟩, rfl⟩
theorem cut_rot (ws : List Int) : DW.cutD (ws.map D.int) (some 1) none ++ DW.cutD (ws.map D.int) none (some 1) = (rotW ws).map D.int := by
  rw [show (1 : Int) = ((1 : Nat) : Int) from rfl, cut_from, cut_to]
  unfold rotW
  rw [List.map_append, List.map_drop, List.map_take]
theorem ok_query_tail (T : Txt P w K mg) : FnOk P w K mg base (L2N.CX P w) 43 T.f_query_tail T.d_query_tail ["query", "option"] (spOf K (c_query_tail T.c_Query T.c_OutOfRange)) := by
  refine def_okC T.F_query_tail sc_query_tail _ (fun ds μ Φ Ψ h => len_query_tail h) (fun cdv A outer s H E B hW hr =>
    have tk : L2N.Takes (cxOf (L2N.CX P w) P w K mg base N_query_tail "query_tail" (defScope s_query_tail) T.f_query_tail cdv A outer s H E) (fun cls d _ H => E cls d H) := L2N.takes_of rfl rfl rfl rfl
    ⟨_, (pss_cons (ps_set (i := 2) sc_query_tail.nd rfl (Or.inl rfl) (pe_callS (ok_fix_place T) hr rfl T.g_fix_place T.F_fix_place.kp T.b_fix_place (fun σ => L2N.passAt tk σ) (pa_cons (pv 0) (pa_cons pe_int (pa_cons (pv 1) pa_nil)))))
      (pss_one (ps_ret (pe_makeS T.mk_Query (ok_Query___init__ T) (hr.mono (by decide)) rfl T.g_Query T.b_Query___init__ (fun σ => L2N.passAt tk σ) (pa_cons (pe_call (ok_lowered_term T) (hr.mono (by decide)) rfl T.g_lowered_term T.F_lowered_term.kp T.b_lowered_term .nil passN (pa_cons (pe_fld (pv 2) rfl) pa_nil)) (pa_cons (pe_op op_catN (pe_slice sl_tupN (pe_fld (pv 0) rfl) (po_some pe_int) po_none) (pe_slice sl_tupN (pe_fld (pv 0) rfl) po_none (po_some pe_int))) (pa_cons (pe_fld (pv 0) rfl) pa_nil))))))),
      (sSeq (sAsg (sCallSW (W := fun cls d _ H => E cls d H) (by exact hW) (sCons sVar (sCons sInt (sCons sVar sNil)))) sName)
      (sRet (sMakeSW (W := fun cls d _ H => E cls d H) (by exact hW) (sCons (sCall (sCons (sFldO (NS := NS_Query) (i := 0) T.cls_Query T.na_Query_term rfl (by decide) sVar) sNil)) (sCons (sOp roCatT (sSlT (sFldO (NS := NS_Query) (i := 1) T.cls_Query T.na_Query_widths rfl (by decide) sVar) (sPart sInt) sNoPart) (sSlT (sFldO (NS := NS_Query) (i := 1) T.cls_Query T.na_Query_widths rfl (by decide) sVar) sNoPart (sPart sInt))) (sCons (sFldO (NS := NS_Query) (i := 2) T.cls_Query T.na_Query_outcomes rfl (by decide) sVar) sNil))))))⟩) (fun ds μ Φ Ψ h => ?hv)
  case hv =>
    obtain ⟨ws, oc, ps, t, x, rfl, hq, h1, h2⟩ := h
    have e1 : ∀ t ws oc, qO T.c_Query t ws oc = D.obj T.c_Query NS_Query [qD t, .tup (ws.map .int), .int (oc : Int)] := fun _ _ _ => rfl
    refine seq_cut fun M hM => ?_
    walk_at "wp"
    refine ⟨ws, oc, ps, t, 0, x, rfl, hq, fun z => ⟨_, Sub.refl, h1 fun w => z ⟨by omega, by omega, w.1, w.2⟩⟩, fun q o e0 eo hq100 ho => ?_⟩
    have hq0 : q = 0 := by omega
    subst hq0
    have hf := hq.fix ho
    have h0 : 0 ∉ qPl (qFx 0 o t) := fun z => (qFx_pl ho t hq.ok 0 z).2 rfl
    rw [hM]; clear hM M
    rw [e1, e1]
    walk_at "wps"
    refine ⟨ws, oc, _, rfl, hf.ok, hq.w, h0, by have := hf.dep; omega, ?_⟩
    walk_at "wps"
    rw [cut_rot]
    refine ⟨by rw [← List.length_append, cut_rot, List.length_map, rotW_len]; have := hq.w.l1; omega, fun x hx => ?_⟩
    exact mk_q (Φ' := fun d μ2 => ∃ μ3, Sub μ3 μ2 ∧ Φ d μ3) hx (hf.low h0).try_ ((hf.low h0).mkr (h2 o eo ho)) fun z => ret_same z
/-- the terms in which the tells are those of a row of the table -/
def joinT (tb : List (List Nat)) (s : QT) : List QT := tb.map fun os => qSub (tellsQ os) s
/-- a table for two queries -/
structure TbOk (a b k : Nat) (tb : List (List Nat)) : Prop where
  l : tb.length = a
  r : ∀ os ∈ tb, os.length = b ∧ ∀ o ∈ os, o < k
def tbD (tb : List (List Int)) : D := .tup (tb.map fun r => .tup (r.map .int))
def natT (tb : List (List Nat)) : List (List Int) := tb.map fun r => r.map fun (n : Nat) => (n : Int)
def c_join_queries (C Q L S O : Addr) : Con := fun ds μ Φ Ψ => ∃ (ws ws' : List Int) (oc oc' : Nat) (t t' : QT) (tb : List (List Int)) (k : Int), ds = [qO C t ws oc, qO C t' ws' oc', tbD tb, .int k] ∧ QOk ws oc t ∧ qDep t < 36 ∧ QOk ws' oc' t' ∧ qDep t' < 36 ∧ WsOk ws ∧ tb.length ≤ 100 ∧ (∀ r ∈ tb, r.length ≤ 100) ∧ -5 ≤ k ∧ k ≤ 100 ∧
  (ws ≠ ws' → Ψ (.mk S none) μ) ∧
  (ws = ws' → ¬ (1 ≤ k ∧ k ≤ 4 ∧ ∃ nb, tb = natT nb ∧ TbOk oc oc' k.toNat nb) → Ψ (.mk O none) μ) ∧
  (ws = ws' → ∀ (m : Nat) (nb : List (List Nat)), k = m → 1 ≤ m → m ≤ 4 → tb = natT nb → TbOk oc oc' m nb → QTry ws m (qSub (joinT nb t') t) ∧ MkR C Q L ws m (qSub (joinT nb t') t) Φ Ψ μ)
theorem len_join_queries {C Q L S O ds μ Φ Ψ} (h : c_join_queries C Q L S O ds μ Φ Ψ) : ds.length = 4 := by obtain ⟨_, _, _, _, _, _, _, _, rfl, _⟩ := h; rfl
theorem ok_join_queries (T : Txt P w K mg) : FnOk P w K mg base (L2N.CX P w) 43 T.f_join_queries T.d_join_queries ["first", "second", "table", "outcomes"] (spOf K (c_join_queries T.c_Query T.c_InvalidQuery T.c_TooLarge T.c_SizeMismatch T.c_OutOfRange)) := by
  refine def_okC T.F_join_queries sc_join_queries _ (fun ds μ Φ Ψ h => len_join_queries h) (fun cdv A outer s H E B hW hr =>
    have tk : L2N.Takes (cxOf (L2N.CX P w) P w K mg base N_join_queries "join_queries" (defScope s_join_queries) T.f_join_queries cdv A outer s H E) (fun cls d _ H => E cls d H) := L2N.takes_of rfl rfl rfl rfl
    ⟨_, (pss_cons (ps_expr (pe_callS (ok_require_same_widths T) (hr.mono (by decide)) rfl T.g_require_same_widths T.F_require_same_widths.kp T.b_require_same_widths (fun σ => L2N.passAt tk σ) (pa_cons (pv 0) (pa_cons (pv 1) pa_nil))))
      (pss_cons (ps_if (PW.pt (pw_or (pt_not (pt_val (pe_call (ok_has_outcomes T) (hr.mono (by decide)) rfl T.g_has_outcomes T.F_has_outcomes.kp T.b_has_outcomes .nil passN (pa_cons (pv 3) pa_nil)))) (pw_or1 (pt_cmpR op_ne (pe_callB call_len_seq (by rfl) T.z_len PySem.boot_len (pa_cons (pv 2) pa_nil)) (pe_fld (pv 0) rfl) (nomark _))))) (pss_one (L2N.ps_raise rfl tk (L2N.pmk_own PySem.F.excBase_ValueError T.x_OutOfRange T.g_OutOfRange T.k_OutOfRange (raises_own T.e_OutOfRange T.t_OutOfRange) rfl))) pss_nil)
      (pss_cons (ps_for (passes_of rfl) rfl (pi_tup (pv 2)) (pg_name (i := 4) sc_join_queries.nd rfl (Or.inl rfl)) (pss_one (ps_if (pt_cmpR op_notN (pe_call (ok_wrong_numbers T) (hr.mono (by decide)) rfl T.g_wrong_numbers T.F_wrong_numbers.kp T.b_wrong_numbers .nil passN (pa_cons (pv 4) (pa_cons (pe_fld (pv 1) rfl) (pa_cons (pv 3) pa_nil)))) pe_non (nomark _)) (pss_one (L2N.ps_raise rfl tk (L2N.pmk_own PySem.F.excBase_ValueError T.x_OutOfRange T.g_OutOfRange T.k_OutOfRange (raises_own T.e_OutOfRange T.t_OutOfRange) rfl))) pss_nil)))
      (pss_cons (ps_set (i := 5) sc_join_queries.nd rfl (Or.inl rfl) (pe_callTy call_tupleN (by rfl) T.z_tuple (by decide +kernel) (pa_cons (pe_lc (own := [("entries", 4)]) rfl sc_join_queries.nd (pi_tup (pv 2)) (blkOk_by (N := N_join_queries) (sc := defScope s_join_queries) (by decide +kernel)) (fun _ _ _ _ _ => (pg_name (i := 4) sc_join_queries.nd rfl (Or.inl rfl))) (fun _ _ _ _ _ => pts_nil) (fun _ _ _ _ _ => (pe_call (ok_term_with_outcomes T) (hr.mono (by decide)) rfl T.g_term_with_outcomes T.F_term_with_outcomes.kp T.b_term_with_outcomes .nil passN (pa_cons (pe_fld (pv 1) rfl) (pa_cons (pv 4) pa_nil))))) pa_nil)))
      (pss_one (ps_ret (pe_makeS T.mk_Query (ok_Query___init__ T) (hr.mono (by decide)) rfl T.g_Query T.b_Query___init__ (fun σ => L2N.passAt tk σ) (pa_cons (pe_call (ok_term_with_tells T) (hr.mono (by decide)) rfl T.g_term_with_tells T.F_term_with_tells.kp T.b_term_with_tells .nil passN (pa_cons (pe_fld (pv 0) rfl) (pa_cons (pv 5) pa_nil))) (pa_cons (pe_fld (pv 0) rfl) (pa_cons (pv 3) pa_nil)))))))))),
      (sSeq (sDrop (sCallSW (W := fun cls d _ H => E cls d H) (by exact hW) (sCons sVar (sCons sVar sNil))))
      (sSeq (sIfS (sOr (sNot (sB (sCall (sCons sVar sNil)))) (sTest (sOp roNe (sCB rcLen (sCons sVar sNil)) (sFldO (NS := NS_Query) (i := 2) T.cls_Query T.na_Query_outcomes rfl (by decide) sVar)))) (sRaise0W (W := fun cls d _ H => E cls d H) (C := T.c_OutOfRange) (by exact hW)) sNext)
      (sSeq (sFor (siT sVar) (fun _ _ _ => sName) (fun _ _ _ => (sIfS (sTest (sOp roNotN (sCall (sCons sVar (sCons (sFldO (NS := NS_Query) (i := 2) T.cls_Query T.na_Query_outcomes rfl (by decide) sVar) (sCons sVar sNil)))) sNon)) (sRaise0W (W := fun cls d _ H => E cls d H) (C := T.c_OutOfRange) (by exact hW)) sNext)))
      (sSeq (sAsg (sCB rcTuple (sCons (sLc (siT sVar) (gwName List.mem_cons_self) (fun _ _ _ => sName) (fun _ _ _ => sYes) (fun _ _ _ => (sCall (sCons (sFldO (NS := NS_Query) (i := 0) T.cls_Query T.na_Query_term rfl (by decide) sVar) (sCons sVar sNil))))) sNil)) sName)
      (sRet (sMakeSW (W := fun cls d _ H => E cls d H) (by exact hW) (sCons (sCall (sCons (sFldO (NS := NS_Query) (i := 0) T.cls_Query T.na_Query_term rfl (by decide) sVar) (sCons sVar sNil))) (sCons (sFldO (NS := NS_Query) (i := 1) T.cls_Query T.na_Query_widths rfl (by decide) sVar) (sCons sVar sNil)))))))))⟩) (fun ds μ Φ Ψ h => ?hv)
  case hv =>
    obtain ⟨ws, ws', oc, oc', t, t', tb, k, rfl, ht, hn, ht', hn', hw, hb1, hb2, k1, k2, h1, h2, h3⟩ := h
    have e1 : ∀ t ws oc, qO T.c_Query t ws oc = D.obj T.c_Query NS_Query [qD t, .tup (ws.map .int), .int (oc : Int)] := fun _ _ _ => rfl
    refine seq_cut fun M hM => ?_
    walk_at "wp"
    refine ⟨ws, ws', oc, oc', t, t', rfl, fun e => ?_, fun e => ⟨_, Sub.refl, h1 e⟩⟩
    subst e
    have h2 := h2 rfl
    have h3 := h3 rfl
    rw [hM]; clear hM M
    rw [e1, e1]
    refine seq_cut fun M hM => ?_
    walk_at "wp"
    simp only [w_has_outcomes]
    walk_at "wp"
    by_cases c : 1 ≤ k ∧ k ≤ 4
    · obtain ⟨m, rfl⟩ : ∃ m : Nat, k = (m : Int) := ⟨k.toNat, by omega⟩
      rw [decide_eq_true c]
      unfold tbD
      walk_at "wp"
      by_cases cl : tb.length = oc
      · rw [decide_eq_true (show (tb.length : Int) = (oc : Int) by omega)]
        walk_at "wp"
        rw [hM]; clear hM M
        refine seq_cut fun M hM => ?_
        walk_at "wp"
        have hall : (∀ r ∈ tb, NOk oc' m r) → ∃ nb, tb = natT nb ∧ TbOk oc oc' m nb := fun hr => by
          refine ⟨tb.map fun r => r.map Int.toNat, ?_, by rw [List.length_map]; exact cl, fun os ho => ?_⟩
          · unfold natT
            rw [List.map_map]
            refine ((List.map_congr_left fun r h => ?_).trans (List.map_id _)).symm
            show (r.map Int.toNat).map (fun (n : Nat) => (n : Int)) = r
            rw [List.map_map]
            refine (List.map_congr_left fun x hx => ?_).trans (List.map_id _)
            have := ((hr r h).2 x hx).1
            show ((x.toNat : Nat) : Int) = x
            omega
          · obtain ⟨r, h, rfl⟩ := List.mem_map.mp ho
            refine ⟨by rw [List.length_map]; exact (hr r h).1, fun o ho => ?_⟩
            obtain ⟨x, hx, rfl⟩ := List.mem_map.mp ho
            have := (hr r h).2 x hx
            omega
        refine ⟨fun i δ' μ' => μ' = μ ∧ (∀ j (hj : j < tb.length), j < i → NOk oc' m tb[j]) ∧ ∃ x y, δ' = [some (D.obj T.c_Query NS_Query [qD t, .tup (ws.map .int), .int (oc : Int)]), some (D.obj T.c_Query NS_Query [qD t', .tup (ws.map .int), .int (oc' : Int)]), some (.tup (tb.map fun r => .tup (r.map .int))), some (.int (m : Int)), x, y], ⟨rfl, fun j _ hj => absurd hj (Nat.not_lt_zero _), none, none, rfl⟩, ?_, ?_⟩
        · rintro i d δ' μ' hi ⟨rfl, hpre, x, y, rfl⟩
          rw [List.getElem?_map, Option.map_eq_some_iff] at hi
          obtain ⟨r, hr, rfl⟩ := hi
          obtain ⟨hil, er⟩ := List.getElem?_eq_some_iff.mp hr
          walk_at "wps"
          refine ⟨oc', m, r, rfl, by have := hb2 r (List.mem_of_getElem? hr); omega, fun w => ?_, fun w xs => ?_⟩
          · walk_at "wps"
            refine ⟨fun j hj hji => ?_, _, _, rfl⟩
            by_cases e : j = i
            · subst e; rw [er]; exact w
            · exact hpre j hj (by omega)
          · walk_at "wps"
            refine ⟨_, Sub.refl, h2 fun z => ?_⟩
            obtain ⟨_, _, nb, e, hnb⟩ := z
            refine w ?_
            have hm := List.mem_of_getElem? hr
            rw [e] at hm
            unfold natT at hm
            obtain ⟨os, ho, rfl⟩ := List.mem_map.mp hm
            obtain ⟨a, b⟩ := hnb.r os ho
            refine ⟨by rw [List.length_map]; exact a, fun x hx => ?_⟩
            obtain ⟨o, ho, rfl⟩ := List.mem_map.mp hx
            have := b o ho
            omega
        · rintro δ' μ' ⟨rfl, hpre, x, y, rfl⟩
          obtain ⟨nb, enb, hnb⟩ := hall fun r hr => by
            obtain ⟨j, hj, rfl⟩ := List.mem_iff_getElem.mp hr
            exact hpre j hj (by simpa using hj)
          obtain ⟨q, h⟩ := h3 m nb rfl (by omega) (by omega) enb hnb
          have hr2 : ∀ os ∈ nb, os.length ≤ 100 := fun os ho => by
            have := hb2 (os.map fun (n : Nat) => (n : Int)) (by rw [enb]; unfold natT; exact List.mem_map.mpr ⟨os, ho, rfl⟩)
            rw [List.length_map] at this
            exact this
          have en : tb.length = nb.length := by rw [enb]; unfold natT; rw [List.length_map]
          rw [hM]; clear hM M
          walk_at "wps"
          refine lcG_mapN (fun i => qD (qSub (tellsQ (nb.getD i [])) t')) (by rw [List.length_map]; omega) (fun i d μ2 X hi hsub hx => ?_) ?_
          · rw [enb] at hi
            unfold natT at hi
            rw [List.map_map, List.getElem?_map, Option.map_eq_some_iff] at hi
            obtain ⟨os, hos, rfl⟩ := hi
            have hm := List.mem_of_getElem? hos
            rw [List.getD_eq_getElem?_getD, hos] at hx
            walk_at "wps"
            refine ⟨ws, oc', t', os, by show [qD t', D.tup ((os.map fun (n : Nat) => (n : Int)).map D.int)] = _; rw [← nI_ints], ht', hw, by rw [(hnb.r os hm).1]; exact Nat.le_refl _, by have := hr2 os hm; omega, hn', hx⟩
          · have ej : (List.range (List.map (fun r => D.tup (List.map D.int r)) tb).length).map (fun i => qD (qSub (tellsQ (nb.getD i [])) t')) = qDs (joinT nb t') := by
              rw [List.length_map, en, qDs_map]
              unfold joinT
              rw [List.map_map]
              refine List.ext_getElem (by rw [List.length_map, List.length_range, List.length_map]) fun i a b => ?_
              have hi : i < nb.length := by rw [List.length_map] at b; exact b
              rw [List.getElem_map, List.getElem_range, List.getElem_map, List.getD_eq_getElem?_getD, List.getElem?_eq_getElem hi]
              rfl
            rw [ej]
            refine ⟨_, .lst _, ?_⟩
            walk_at "wps"
            refine ⟨ws, oc, t, joinT nb t', rfl, ht, hw, by unfold joinT; rw [List.length_map, hnb.l]; exact Nat.le_refl _, hn, fun x hx => ?_⟩
            exact mk_q (Φ' := fun d μ2 => ∃ μ3, Sub μ3 μ2 ∧ Φ d μ3) hx q h fun z => ret_same z
      · rw [decide_eq_false (show ¬ (tb.length : Int) = (oc : Int) by omega)]
        walk_at "wp"
        refine ⟨_, Sub.refl, h2 fun z => ?_⟩
        obtain ⟨_, _, nb, e, hnb⟩ := z
        refine cl ?_
        rw [e, ← hnb.l]
        unfold natT
        rw [List.length_map]
    · rw [decide_eq_false c]
      walk_at "wp"
      exact ⟨_, Sub.refl, h2 fun z => c ⟨z.1, z.2.1⟩⟩
end
section
variable {P : Program} {w : World} {K : Fg} {mg : Str → Option Value} {base : Heap}
def c_shortest_cycle : Con := fun ds μ Φ _ => ∃ (c : List Int) (d : Nat), ds = [.tup (c.map .int)] ∧ c ≠ [] ∧ c.length ≤ 1000 ∧ MinPer c d ∧ Φ (.tup ((c.take d).map .int)) μ
theorem len_shortest_cycle {ds μ Φ Ψ} (h : c_shortest_cycle ds μ Φ Ψ) : ds.length = 1 := by obtain ⟨_, _, rfl, _⟩ := h; rfl
theorem ok_shortest_cycle (T : Txt P w K mg) : FnOk P w K mg base (L2N.CX P w) 1 T.f_shortest_cycle T.d_shortest_cycle ["cycle"] (spOf K c_shortest_cycle) := by
  refine def_okC T.F_shortest_cycle sc_shortest_cycle _ (fun ds μ Φ Ψ h => len_shortest_cycle h) (fun cdv A outer s H E B hW hr =>
    have tk : L2N.Takes (cxOf (L2N.CX P w) P w K mg base N_shortest_cycle "shortest_cycle" (defScope s_shortest_cycle) T.f_shortest_cycle cdv A outer s H E) (fun cls d _ H => E cls d H) := L2N.takes_of rfl rfl rfl rfl
    ⟨_, (pss_cons (ps_set (i := 1) sc_shortest_cycle.nd rfl (Or.inl rfl) pe_int)
      (pss_cons (ps_while (passes_of rfl) (pt_cmpR (op_neD hr.units) (pe_op op_repA (pe_slice sl_tupN (pv 0) po_none (po_some (pv 1))) (pe_op op_fdivW (pe_callB call_len_seq (by rfl) T.z_len PySem.boot_len (pa_cons (pv 0) pa_nil)) (pv 1))) (pv 0) (nomark _)) (pss_one (ps_aug (i := 1) sc_shortest_cycle.nd rfl (Or.inl rfl) pe_int ip_add)))
      (pss_one (ps_ret (pe_slice sl_tupN (pv 0) po_none (po_some (pv 1))))))),
      (sSeq (sAsg sInt sName)
      (sSeq (sWhile (sTest (sOp roNeD (sOp roRepT (sSlT sVar sNoPart (sPart sVar)) (sOp roInt (sCB rcLen (sCons sVar sNil)) sVar)) sVar)) (sAug roIp sInt))
      (sRet (sSlT sVar sNoPart (sPart sVar)))))⟩) (fun ds μ Φ Ψ h => ?hv)
  case hv =>
    obtain ⟨c, d, rfl, hc, hl, hd, h⟩ := h
    refine seq_cut fun M hM => ?_
    walk_at "wp"
    rw [hM]; clear hM M
    refine seq_cut fun M hM => ?_
    walk_at "wp"
    have d1 := hd.d1
    have dn := hd.le hc
    refine ⟨fun m δ' μ' => ∃ L : Nat, μ' = μ ∧ 1 ≤ L ∧ L ≤ d ∧ m = d - L ∧ δ' = [some (.tup (c.map .int)), some (.int L)], ⟨_, 1, rfl, Nat.le_refl _, d1, rfl, rfl⟩, ?_⟩
    rintro m δ' μ' ⟨L, rfl, L1, Ld, rfl, rfl⟩
    walk_at "wp"
    have eq : ((c.length : Int) / (L : Int)) = ((c.length / L : Nat) : Int) := rfl
    have hq : c.length / L ≤ 1000 := Nat.le_trans (Nat.div_le_self _ _) hl
    have hq2 : (((c.length / L : Nat) : Int)) ≤ 1000 := Int.ofNat_le.mpr hq
    have hq3 : (-1000000 : Int) ≤ ((c.length / L : Nat) : Int) := Int.le_trans (by decide) (Int.natCast_nonneg _)
    refine ⟨wide_div (b := 11) (by omega) (by rw [Int.natAbs_natCast]; exact Nat.lt_of_le_of_lt (show L ≤ 1000 by omega) (by decide)) (by decide) (by decide), by rw [eq]; exact hq2, by rw [eq]; exact hq3, by rw [List.length_take]; omega, ?_⟩
    rw [eq, Int.toNat_natCast, show (List.replicate (c.length / L) ((c.map D.int).take L)).flatten = ((List.replicate (c.length / L) (c.take L)).flatten).map D.int by rw [List.map_flatten, List.map_replicate, List.map_take]]
    refine ⟨side_ints _, side_ints _, _, rfl, fun q => ?_, fun q => ?_⟩
    · rw [eqD_ints, Bool.not_eq_true', decide_eq_false_iff_not, rep_per L1 (by omega)] at q
      have hne : L ≠ d := fun e => q ⟨by rw [e]; exact hd.dvd (per_len c), by rw [e]; exact hd.per⟩
      exact ⟨_, by omega, L + 1, rfl, by omega, by omega, rfl, rfl⟩
    · rw [eqD_ints, Bool.not_eq_false', decide_eq_true_eq, rep_per L1 (by omega)] at q
      have hLd : L = d := Classical.byContradiction fun z => hd.min L L1 (by omega) q.2
      subst hLd
      rw [hM]; clear hM M
      walk_at "wps"
      rw [← List.map_take]
      exact ret_same h
def c_turned_cycle : Con := fun ds μ Φ _ => ∃ (c : List Int) (k : Int), ds = [.tup (c.map .int), .int k] ∧ c ≠ [] ∧ c.length ≤ 1000 ∧ Φ (.tup ((rot c (k % (c.length : Int)).toNat).map .int)) μ
theorem len_turned_cycle {ds μ Φ Ψ} (h : c_turned_cycle ds μ Φ Ψ) : ds.length = 2 := by obtain ⟨_, _, rfl, _⟩ := h; rfl
theorem ok_turned_cycle (T : Txt P w K mg) : FnOk P w K mg base (L2N.CX P w) 1 T.f_turned_cycle T.d_turned_cycle ["cycle", "count"] (spOf K c_turned_cycle) := by
  refine def_okC T.F_turned_cycle sc_turned_cycle _ (fun ds μ Φ Ψ h => len_turned_cycle h) (fun cdv A outer s H E B hW hr =>
    have tk : L2N.Takes (cxOf (L2N.CX P w) P w K mg base N_turned_cycle "turned_cycle" (defScope s_turned_cycle) T.f_turned_cycle cdv A outer s H E) (fun cls d _ H => E cls d H) := L2N.takes_of rfl rfl rfl rfl
    ⟨_, (pss_cons (ps_set (i := 2) sc_turned_cycle.nd rfl (Or.inl rfl) (pe_op op_mod (pv 1) (pe_callB call_len_seq (by rfl) T.z_len PySem.boot_len (pa_cons (pv 0) pa_nil))))
      (pss_one (ps_ret (pe_op op_catN (pe_slice sl_tupN (pv 0) (po_some (pv 2)) po_none) (pe_slice sl_tupN (pv 0) po_none (po_some (pv 2))))))),
      (sSeq (sAsg (sOp roInt sVar (sCB rcLen (sCons sVar sNil))) sName)
      (sRet (sOp roCatT (sSlT sVar (sPart sVar) sNoPart) (sSlT sVar sNoPart (sPart sVar)))))⟩) (fun ds μ Φ Ψ h => ?hv)
  case hv =>
    obtain ⟨c, k, rfl, hc, hl, h⟩ := h
    refine seq_cut fun M hM => ?_
    walk_at "wp"
    have hn : 0 < c.length := List.length_pos_iff.mpr hc
    have h0 := Int.emod_nonneg k (show (c.length : Int) ≠ 0 by omega)
    have h1 := Int.emod_lt_of_pos k (show (0 : Int) < c.length by omega)
    refine ⟨by omega, ?_⟩
    obtain ⟨s, hs⟩ : ∃ s : Nat, k % (c.length : Int) = (s : Int) := ⟨_, (Int.toNat_of_nonneg h0).symm⟩
    rw [hs, Int.toNat_natCast] at h
    rw [hs]
    rw [hM]; clear hM M
    walk_at "wps"
    have ec : DW.cutD (c.map D.int) (some (s : Int)) none ++ (c.map D.int).take s = (rot c s).map D.int := by
      unfold rot
      rw [cut_from, List.map_append, List.map_drop, List.map_take]
    have hrl : (DW.cutD (c.map D.int) (some (s : Int)) none).length + ((c.map D.int).take s).length ≤ 100000 := by
      rw [cut_from, List.length_drop, List.length_take, List.length_map]; omega
    refine ⟨hrl, ?_⟩
    rw [ec]
    exact ret_same h
theorem at_neg {l : List Int} {s : Nat} (h : s < l.length) : atI (l.map D.int) (-1 - (s : Int)) = some (.int (l.getD (l.length - 1 - s) 0)) := by
  have e : ixN l.length (-1 - (s : Int)) = some (l.length - 1 - s) := by
    unfold ixN
    rw [if_neg (by omega), if_pos (by omega)]
    congr 1
    omega
  unfold atI
  rw [List.length_map, e, Option.bind_some, List.getElem?_map, List.getElem?_eq_getElem (by omega), List.getD_eq_getElem?_getD, List.getElem?_eq_getElem (by omega)]
  rfl
def c_count_spare : Con := fun ds μ Φ _ => ∃ (h c : List Int) (d sp : Nat), ds = [.tup (h.map .int), .tup ((c.take d).map .int)] ∧ c ≠ [] ∧ c.length ≤ 1000 ∧ h.length ≤ 1000 ∧ MinPer c d ∧ ∀ sp, Spare h c d sp → Φ (.int sp) μ
theorem len_count_spare {ds μ Φ Ψ} (h : c_count_spare ds μ Φ Ψ) : ds.length = 2 := by obtain ⟨_, _, _, _, rfl, _⟩ := h; rfl
theorem ok_count_spare (T : Txt P w K mg) : FnOk P w K mg base (L2N.CX P w) 1 T.f_count_spare T.d_count_spare ["head", "cycle"] (spOf K c_count_spare) := by
  refine def_okC T.F_count_spare sc_count_spare _ (fun ds μ Φ Ψ h => len_count_spare h) (fun cdv A outer s H E B hW hr =>
    have tk : L2N.Takes (cxOf (L2N.CX P w) P w K mg base N_count_spare "count_spare" (defScope s_count_spare) T.f_count_spare cdv A outer s H E) (fun cls d _ H => E cls d H) := L2N.takes_of rfl rfl rfl rfl
    ⟨_, (pss_cons (ps_set (i := 2) sc_count_spare.nd rfl (Or.inl rfl) pe_int)
      (pss_cons (ps_while (passes_of rfl) (PW.pt (pw_and (pt_cmpR op_lt (pv 2) (pe_callB call_len_seq (by rfl) T.z_len PySem.boot_len (pa_cons (pv 0) pa_nil)) (nomark _)) (pw_and1 (pt_cmpR op_eq (pe_ix ix_tup (pv 0) (pe_op op_sub (pe_un un_neg pe_int) (pv 2)) (fun _ _ => rfl)) (pe_ix ix_tup (pv 1) (pe_op op_sub (pe_un un_neg pe_int) (pe_op op_mod (pv 2) (pe_callB call_len_seq (by rfl) T.z_len PySem.boot_len (pa_cons (pv 1) pa_nil)))) (fun _ _ => rfl)) (nomark _))))) (pss_one (ps_aug (i := 2) sc_count_spare.nd rfl (Or.inl rfl) pe_int ip_add)))
      (pss_one (ps_ret (pv 2))))),
      (sSeq (sAsg sInt sName)
      (sSeq (sWhile (sAnd (sTest (sOp roBl0 sVar (sCB rcLen (sCons sVar sNil)))) (sTest (sOp roEq (sOp roIxT sVar (sOp roInt0 (sUn ruInt sInt) sVar)) (sOp roIxT sVar (sOp roInt0 (sUn ruInt sInt) (sOp roInt sVar (sCB rcLen (sCons sVar sNil)))))))) (sAug roIp sInt))
      (sRet sVar)))⟩) (fun ds μ Φ Ψ h => ?hv)
  case hv =>
    obtain ⟨hd, c, d, sp, rfl, hc, hl, hl2, hm, h⟩ := h
    refine seq_cut fun M hM => ?_
    walk_at "wp"
    rw [hM]; clear hM M
    refine seq_cut fun M hM => ?_
    walk_at "wp"
    have d1 := hm.d1
    have dn := hm.le hc
    have hdl : (c.take d).length = d := by rw [List.length_take]; omega
    refine ⟨fun m δ' μ' => ∃ s : Nat, μ' = μ ∧ s ≤ hd.length ∧ (∀ j, j < s → hd.getD (hd.length - 1 - j) 0 = cyc c (d - 1 - j % d)) ∧ m = hd.length - s ∧ δ' = [some (.tup (hd.map .int)), some (.tup ((c.take d).map .int)), some (.int s)], ⟨_, 0, rfl, Nat.zero_le _, nofun, rfl, rfl⟩, ?_⟩
    rintro m δ' μ' ⟨s, rfl, hs, hy, rfl, rfl⟩
    walk_at "wp"
    refine ⟨fun q => ?_, fun q => ?_⟩
    · have hsl : s < hd.length := by omega
      have hmd := Nat.mod_lt s d1
      refine ⟨_, at_neg hsl, by rw [hdl]; omega, _, by rw [hdl]; exact at_neg (s := s % d) (by rw [hdl]; exact hmd), ?_⟩
      have ev : (c.take d).getD ((c.take d).length - 1 - s % d) 0 = cyc c (d - 1 - s % d) := by
        rw [hdl, List.getD_eq_getElem?_getD, List.getElem?_take, if_pos (by omega), self_at (by omega)]; rfl
      rw [ev]
      walk_at "wp"
      refine ⟨fun q => ⟨hd.length - (s + 1), by omega, s + 1, by omega, fun j hj => ?_, rfl, rfl⟩, fun q => ?_⟩
      · rcases Nat.lt_or_ge j s with hj2 | hj2
        · exact hy j hj2
        · obtain rfl : j = s := by omega
          exact q
      · rw [hM]; clear hM M
        walk_at "wps"
        exact ret_same (h s ⟨hs, hy, fun _ => q⟩)
    · rw [hM]; clear hM M
      walk_at "wps"
      exact ret_same (h s ⟨hs, hy, fun z => absurd z (by omega)⟩)
def c_Row_least (C : Addr) : Con := fun ds μ Φ _ => ∃ (r : Rw), ds = [rwO C r] ∧ RwOk r ∧ ∀ a, IsLeast r a → Φ (rwO C a) μ
theorem len_Row_least {C ds μ Φ Ψ} (h : c_Row_least C ds μ Φ Ψ) : ds.length = 1 := by obtain ⟨_, rfl, _⟩ := h; rfl
theorem ok_Row_least (T : Txt P w K mg) : FnOk P w K mg base (L2N.CX P w) 4 T.f_Row_least T.d_Row_least ["self"] (spOf K (c_Row_least T.c_Row)) := by
  refine def_okC T.F_Row_least sc_Row_least _ (fun ds μ Φ Ψ h => len_Row_least h) (fun cdv A outer s H E B hW hr =>
    have tk : L2N.Takes (cxOf (L2N.CX P w) P w K mg base N_Row_least "Row.least" (defScope s_Row_least) T.f_Row_least cdv A outer s H E) (fun cls d _ H => E cls d H) := L2N.takes_of rfl rfl rfl rfl
    ⟨_, (pss_cons (ps_set (i := 1) sc_Row_least.nd rfl (Or.inl rfl) (pe_call (ok_shortest_cycle T) (hr.mono (by decide)) rfl T.g_shortest_cycle T.F_shortest_cycle.kp T.b_shortest_cycle .nil passN (pa_cons (pe_fld (pv 0) rfl) pa_nil)))
      (pss_cons (ps_set (i := 2) sc_Row_least.nd rfl (Or.inl rfl) (pe_call (ok_count_spare T) (hr.mono (by decide)) rfl T.g_count_spare T.F_count_spare.kp T.b_count_spare .nil passN (pa_cons (pe_fld (pv 0) rfl) (pa_cons (pv 1) pa_nil))))
      (pss_one (ps_ret (pe_makeS T.mk_Row (ok_Row___init__ T) (hr.mono (by decide)) rfl T.g_Row T.b_Row___init__ (fun σ => L2N.passAt tk σ) (pa_cons (pe_slice sl_tupN (pe_fld (pv 0) rfl) po_none (po_some (pe_op op_sub (pe_callB call_len_seq (by rfl) T.z_len PySem.boot_len (pa_cons (pe_fld (pv 0) rfl) pa_nil)) (pv 2)))) (pa_cons (pe_call (ok_turned_cycle T) (hr.mono (by decide)) rfl T.g_turned_cycle T.F_turned_cycle.kp T.b_turned_cycle .nil passN (pa_cons (pv 1) (pa_cons (pe_un un_neg (pv 2)) pa_nil))) pa_nil))))))),
      (sSeq (sAsg (sCall (sCons (sFldO (NS := NS_Row) (i := 1) T.cls_Row T.na_Row_cycle rfl (by decide) sVar) sNil)) sName)
      (sSeq (sAsg (sCall (sCons (sFldO (NS := NS_Row) (i := 0) T.cls_Row T.na_Row_head rfl (by decide) sVar) (sCons sVar sNil))) sName)
      (sRet (sMakeSW (W := fun cls d _ H => E cls d H) (by exact hW) (sCons (sSlT (sFldO (NS := NS_Row) (i := 0) T.cls_Row T.na_Row_head rfl (by decide) sVar) sNoPart (sPart (sOp roInt0 (sCB rcLen (sCons (sFldO (NS := NS_Row) (i := 0) T.cls_Row T.na_Row_head rfl (by decide) sVar) sNil)) sVar))) (sCons (sCall (sCons sVar (sCons (sUn ruInt sVar) sNil))) sNil))))))⟩) (fun ds μ Φ Ψ h => ?hv)
  case hv =>
    obtain ⟨r, rfl, hr, h⟩ := h
    have e1 : rwO T.c_Row r = D.obj T.c_Row NSA [.tup (r.h.map .int), .tup (r.c.map .int)] := rfl
    refine seq_cut fun M hM => ?_
    rw [e1]
    walk_at "wp"
    obtain ⟨d, hd⟩ := minper_ex hr.c0
    have d1 := hd.d1
    have dn := hd.le hr.c0
    have hcl := hr.cl
    have hhl := hr.hl
    have hdl : (r.c.take d).length = d := by rw [List.length_take]; omega
    refine ⟨r.c, d, rfl, hr.c0, hr.cl, hd, ?_⟩
    rw [hM]; clear hM M
    refine seq_cut fun M hM => ?_
    walk_at "wp"
    refine ⟨r.h, r.c, d, 0, rfl, hr.c0, hr.cl, hr.hl, hd, fun sp hsp => ?_⟩
    have hle := hsp.le
    rw [hM]; clear hM M
    walk_at "wps"
    refine ⟨r.c.take d, -(sp : Int), rfl, fun z => by rw [z] at hdl; simp at hdl; omega, by omega, ?_⟩
    rw [hdl]
    have z0 := Int.emod_nonneg (-(sp : Int)) (show (d : Int) ≠ 0 by omega)
    have z1 := Int.emod_lt_of_pos (-(sp : Int)) (show (0 : Int) < d by omega)
    obtain ⟨st, hst⟩ : ∃ st : Nat, (-(sp : Int)) % (d : Int) = (st : Int) := ⟨_, (Int.toNat_of_nonneg z0).symm⟩
    rw [hst, Int.toNat_natCast]
    have hstd : st < d := by omega
    have hz : (st + sp) % d = 0 := by
      apply Nat.mod_eq_zero_of_dvd
      have e := Int.mul_ediv_add_emod (-(sp : Int)) (d : Int)
      rw [hst] at e
      have e2 : ((st + sp : Nat) : Int) = (d : Int) * (-(-(sp : Int) / (d : Int))) := by rw [Int.mul_neg]; omega
      exact Int.natCast_dvd_natCast.mp ⟨_, e2⟩
    have hil := isleast_prog (r := r) hr.c0 hd hsp hstd hz
    obtain ⟨ho, _, _⟩ := hr.least hil
    intro y hy
    have eh : DW.cutD (r.h.map D.int) none (some ((r.h.length : Int) - (sp : Int))) = (r.h.take (r.h.length - sp)).map D.int := by
      rw [show (r.h.length : Int) - (sp : Int) = ((r.h.length - sp : Nat) : Int) by omega, cut_to, List.map_take]
    rw [eh]
    refine ⟨y, _, _, rfl, by rw [List.length_take]; omega, ho.cl, sset_same, fun z => absurd ⟨ho.c0, fun v hv => (List.mem_append.mp hv).elim (ho.hp v) (ho.cp v)⟩ z, fun _ => ⟨rfl, NSA, _, sset_same, ?_⟩⟩
    rw [sset_sset, sdel_sset hy]
    exact ret_same (h _ hil)
def c_Row_after (C O : Addr) : Con := fun ds μ Φ Ψ => ∃ (r : Rw) (i : Int), ds = [rwO C r, .int i] ∧ RwOk r ∧ (i < 0 → Ψ (.mk O none) μ) ∧ (∀ (n : Nat) a, i = (n : Int) → IsLeast (aft r n) a → Φ (rwO C a) μ)
theorem len_Row_after {C O ds μ Φ Ψ} (h : c_Row_after C O ds μ Φ Ψ) : ds.length = 2 := by obtain ⟨_, _, rfl, _⟩ := h; rfl
theorem ok_Row_after (T : Txt P w K mg) : FnOk P w K mg base (L2N.CX P w) 6 T.f_Row_after T.d_Row_after ["self", "count"] (spOf K (c_Row_after T.c_Row T.c_OutOfRange)) := by
  refine def_okC T.F_Row_after sc_Row_after _ (fun ds μ Φ Ψ h => len_Row_after h) (fun cdv A outer s H E B hW hr =>
    have tk : L2N.Takes (cxOf (L2N.CX P w) P w K mg base N_Row_after "Row.after" (defScope s_Row_after) T.f_Row_after cdv A outer s H E) (fun cls d _ H => E cls d H) := L2N.takes_of rfl rfl rfl rfl
    ⟨_, (pss_cons (ps_if (pt_cmpR op_lt (pv 1) pe_int (nomark _)) (pss_one (L2N.ps_raise rfl tk (L2N.pmk_own PySem.F.excBase_ValueError T.x_OutOfRange T.g_OutOfRange T.k_OutOfRange (raises_own T.e_OutOfRange T.t_OutOfRange) rfl))) pss_nil)
      (pss_cons (ps_set (i := 2) sc_Row_after.nd rfl (Or.inl rfl) (pe_callB (call_max2 rfl) (by rfl) T.z_max (by decide +kernel) (pa_cons pe_int (pa_cons (pe_op op_sub (pv 1) (pe_callB call_len_seq (by rfl) T.z_len PySem.boot_len (pa_cons (pe_fld (pv 0) rfl) pa_nil))) pa_nil))))
      (pss_one (ps_ret (pe_methX0 (pl := _) (pe_makeS T.mk_Row (ok_Row___init__ T) (hr.mono (by decide)) rfl T.g_Row T.b_Row___init__ (fun σ => L2N.passAt tk σ) (pa_cons (pe_slice sl_tupN (pe_fld (pv 0) rfl) (po_some (pv 1)) po_none) (pa_cons (pe_call (ok_turned_cycle T) (hr.mono (by decide)) rfl T.g_turned_cycle T.F_turned_cycle.kp T.b_turned_cycle .nil passN (pa_cons (pe_fld (pv 0) rfl) (pa_cons (pv 2) pa_nil))) pa_nil))) T.cls_Row T.me_Row_least (ok_Row_least T) (hr.mono (by decide)) T.b_Row_least (fun σ => L2N.passAt tk σ)))))),
      (sSeq (sIfS (sTest (sOp roBl0 sVar sInt)) (sRaise0W (W := fun cls d _ H => E cls d H) (C := T.c_OutOfRange) (by exact hW)) sNext)
      (sSeq (sAsg (sCB rcMax2 (sCons sInt (sCons (sOp roInt0 sVar (sCB rcLen (sCons (sFldO (NS := NS_Row) (i := 0) T.cls_Row T.na_Row_head rfl (by decide) sVar) sNil))) sNil))) sName)
      (sRet (sMethXW (NS := NS_Row) (W := fun cls d _ H => E cls d H) (by decide) (by exact hW) (sMakeSW (W := fun cls d _ H => E cls d H) (by exact hW) (sCons (sSlT (sFldO (NS := NS_Row) (i := 0) T.cls_Row T.na_Row_head rfl (by decide) sVar) (sPart sVar) sNoPart) (sCons (sCall (sCons (sFldO (NS := NS_Row) (i := 1) T.cls_Row T.na_Row_cycle rfl (by decide) sVar) (sCons sVar sNil))) sNil))) sNil))))⟩) (fun ds μ Φ Ψ h => ?hv)
  case hv =>
    obtain ⟨r, i, rfl, hr, h1, h2⟩ := h
    have e1 : rwO T.c_Row r = D.obj T.c_Row NSA [.tup (r.h.map .int), .tup (r.c.map .int)] := rfl
    refine seq_cut fun M hM => ?_
    rw [e1]
    walk_at "wp"
    refine ⟨fun q => ⟨_, Sub.refl, h1 q⟩, fun q => ?_⟩
    obtain ⟨n, rfl⟩ : ∃ n : Nat, i = (n : Int) := ⟨i.toNat, by omega⟩
    have h2 := fun a => h2 n a rfl
    show M [some (.obj T.c_Row NSA [.tup (r.h.map .int), .tup (r.c.map .int)]), some (.int n), none] μ
    rw [hM]; clear hM M
    refine seq_cut fun M hM => ?_
    walk_at "wp"
    refine ⟨_, _, rfl, ?_⟩
    have hcn : 0 < r.c.length := List.length_pos_iff.mpr hr.c0
    have hcl := hr.cl
    have hhl := hr.hl
    obtain ⟨ps, hps⟩ : ∃ ps : Nat, ps = n - r.h.length := ⟨_, rfl⟩
    rw [show (if (n : Int) - (r.h.length : Int) > 0 then (n : Int) - (r.h.length : Int) else 0) = (ps : Int) by split <;> omega]
    have ep : (((ps : Int) % (r.c.length : Int)).toNat) = ps % r.c.length := rfl
    rw [hM]; clear hM M
    walk_at "wps"
    refine ⟨r.c, ps, rfl, hr.c0, hr.cl, ?_⟩
    rw [ep]
    intro y hy
    have ha : aft r n = ⟨r.h.drop n, rot r.c (ps % r.c.length)⟩ := by
      unfold aft
      split
      · have : ps = 0 := by omega
        rw [this, Nat.zero_mod]
        unfold rot
        simp
      · rw [List.drop_eq_nil_of_le (by omega), hps]
    obtain ⟨ho, ho1, ho2⟩ := hr.aft n
    rw [ha] at ho ho1 ho2 h2
    rw [show DW.cutD (r.h.map D.int) (some (n : Int)) none = (r.h.drop n).map D.int by rw [cut_from, List.map_drop]]
    refine ⟨y, _, _, rfl, by rw [List.length_drop]; omega, ho.cl, sset_same, fun z => absurd ⟨ho.c0, fun v hv => (List.mem_append.mp hv).elim (ho.hp v) (ho.cp v)⟩ z, fun _ => ⟨rfl, NSA, _, sset_same, ?_⟩⟩
    rw [sset_sset, sdel_sset hy]
    exact ⟨_, rfl, ⟨r.h.drop n, rot r.c (ps % r.c.length)⟩, rfl, ho, fun a ha => ret_same (h2 a ha)⟩
end
section
variable {P : Program} {w : World} {K : Fg} {mg : Str → Option Value} {base : Heap}
structure StC (ns : List Int) (c : List D) : Prop where
  ex : ∃ seed idx rest : Int, c = [.int seed, .lst (ns.map .int), .int idx, .int rest] ∧ 0 ≤ seed ∧ seed < 2147483647 ∧ 0 ≤ idx ∧ 0 ≤ rest
def c__law_pick : Con := fun ds μ Φ _ => ∃ st ns c n, ds = [.hd (.ref st), .int n] ∧ μ st = some (.lst c) ∧ StC ns c ∧ 0 < n ∧ n.natAbs.log2 < 9000 ∧ ∀ r c', 0 ≤ r → r < n → StC ns c' → Φ (.int r) (sset μ st (.lst c'))
theorem len__law_pick {ds μ Φ Ψ} (h : c__law_pick ds μ Φ Ψ) : ds.length = 2 := by obtain ⟨i, _, _, _, rfl, _⟩ := h; rfl
theorem pick_cell {ns : List Int} {idx : Int} {P : D → Prop} (h0 : 0 ≤ idx) (h1 : idx < ns.length) (k : ∀ z, P (.int z)) : ∃ d, atI (ns.map D.int) idx = some d ∧ P d := by
  obtain ⟨j, rfl⟩ : ∃ j : Nat, idx = (j : Int) := ⟨idx.toNat, by omega⟩
  have hj : j < ns.length := by omega
  exact ⟨.int ns[j], atI_nat (by rw [List.getElem?_map, List.getElem?_eq_getElem hj]; rfl), k _⟩
theorem ok__law_pick {cx : CXT} (T : Txt P w K mg) : FnOk P w K mg base cx 1 T.f__law_pick T.d__law_pick ["_law_state", "_law_limit"] (spOf K c__law_pick) := by
  refine def_okC T.F__law_pick sc__law_pick _ (fun ds μ Φ Ψ h => len__law_pick h) (fun cdv A outer s H E B hW hr =>
    ⟨_, (pss_cons (ps_if (pt_cmpR op_ge (pe_ix ix_list (pv 0) pe_int (fun _ _ => rfl)) (pv 1) (nomark _)) (pss_cons (ps_set (i := 4) sc__law_pick.nd rfl (Or.inl rfl) (pe_callTy call_int1 (by rfl) T.z_int (by decide +kernel) (pa_cons (pe_ix ix_list (pv 0) pe_int (fun _ _ => rfl)) pa_nil)))
      (pss_cons (ps_asg (pe_op op_fdivW (pv 4) (pv 1)) (pg_sub (pv 0) pe_int set_list))
      (pss_one (ps_ret (pe_op op_mod (pv 4) (pv 1)))))) pss_nil)
      (pss_cons (ps_set (i := 2) sc__law_pick.nd rfl (Or.inl rfl) pe_int)
      (pss_cons (ps_if (pt_cmpR op_lt (pe_ix ix_list (pv 0) pe_int (fun _ _ => rfl)) (pe_callB call_len_seq (by rfl) T.z_len PySem.boot_len (pa_cons (pe_ix ix_list (pv 0) pe_int (fun _ _ => rfl)) pa_nil)) (nomark _)) (pss_cons (ps_set (i := 2) sc__law_pick.nd rfl (Or.inl rfl) (pe_callTy call_int1 (by rfl) T.z_int (by decide +kernel) (pa_cons (pe_ix ix_list (pe_ix ix_list (pv 0) pe_int (fun _ _ => rfl)) (pe_ix ix_list (pv 0) pe_int (fun _ _ => rfl)) (fun _ _ => rfl)) pa_nil)))
      (pss_cons (ps_asg (pe_op op_add (pe_ix ix_list (pv 0) pe_int (fun _ _ => rfl)) pe_int) (pg_sub (pv 0) pe_int set_list))
      (pss_cons (ps_if (pt_cmpR op_lt (pv 2) pe_int (nomark _)) (pss_one (ps_set (i := 2) sc__law_pick.nd rfl (Or.inl rfl) (pe_op op_sub pe_int (pv 2)))) pss_nil)
      (pss_one (ps_if (pt_cmpR op_ge (pv 2) (pe_op op_pow pe_int pe_int) (nomark _)) (pss_cons (ps_asg (pe_op op_fdivW (pv 2) (pv 1)) (pg_sub (pv 0) pe_int set_list))
      (pss_one (ps_ret (pe_op op_mod (pv 2) (pv 1))))) pss_nil))))) pss_nil)
      (pss_cons (ps_set (i := 3) sc__law_pick.nd rfl (Or.inl rfl) (pe_op op_mod (pe_op op_mulX (pe_op op_add (pe_op op_add (pe_callTy call_int1 (by rfl) T.z_int (by decide +kernel) (pa_cons (pe_ix ix_list (pv 0) pe_int (fun _ _ => rfl)) pa_nil)) (pe_op op_mod (pv 2) pe_int)) pe_int) pe_int) pe_int))
      (pss_cons (ps_asg (pe_op op_mod (pe_op op_add (pe_op op_mulX (pv 3) pe_int) pe_int) pe_int) (pg_sub (pv 0) pe_int set_list))
      (pss_one (ps_ret (pe_op op_mod (pe_op op_fdivW (pe_callTy call_int1 (by rfl) T.z_int (by decide +kernel) (pa_cons (pe_ix ix_list (pv 0) pe_int (fun _ _ => rfl)) pa_nil)) pe_int) (pv 1))))))))),
      (sSeq (sIfS (sTest (sOp roBl0 (sOp roIxL sVar sInt) sVar)) (sSeq (sAsg (sCB rcInt (sCons (sOp roIxL sVar sInt) sNil)) sName)
      (sSeq (sAsgS (sOp roInt sVar sVar) sVar sInt)
      (sRet (sOp roInt sVar sVar)))) sNext)
      (sSeq (sAsg sInt sName)
      (sSeq (sIfS (sTest (sOp roBl0 (sOp roIxL sVar sInt) (sCB rcLen (sCons (sOp roIxL sVar sInt) sNil)))) (sSeq (sAsg (sCB rcInt (sCons (sOp roIxL (sOp roIxL sVar sInt) (sOp roIxL sVar sInt)) sNil)) sName)
      (sSeq (sAsgS (sOp roInt0 (sOp roIxL sVar sInt) sInt) sVar sInt)
      (sSeq (sIfS (sTest (sOp roBl0 sVar sInt)) (sAsg (sOp roInt0 sInt sVar) sName) sNext)
      (sIfS (sTest (sOp roBl0 sVar (sOp roInt sInt sInt))) (sSeq (sAsgS (sOp roInt sVar sVar) sVar sInt)
      (sRet (sOp roInt sVar sVar))) sNext)))) sNext)
      (sSeq (sAsg (sOp roInt (sOp roInt (sOp roInt0 (sOp roInt0 (sCB rcInt (sCons (sOp roIxL sVar sInt) sNil)) (sOp roInt sVar sInt)) sInt) sInt) sInt) sName)
      (sSeq (sAsgS (sOp roInt (sOp roInt0 (sOp roInt sVar sInt) sInt) sInt) sVar sInt)
      (sRet (sOp roInt (sOp roInt (sCB rcInt (sCons (sOp roIxL sVar sInt) sNil)) sInt) sVar)))))))⟩) (fun ds μ Φ Ψ h => ?hv)
  case hv =>
    obtain ⟨st, ns, c, n, rfl, hc, ⟨seed, idx, rest, rfl, h1, h2, h3, h4⟩, hn, hl, h⟩ := h
    have hmod : ∀ a : Int, 0 ≤ a % n ∧ a % n < n := fun a => ⟨Int.emod_nonneg _ (by omega), Int.emod_lt_of_pos _ hn⟩
    have hM : ∀ a : Int, 0 ≤ a % 2147483647 ∧ a % 2147483647 < 2147483647 := fun a => ⟨Int.emod_nonneg _ (by omega), Int.emod_lt_of_pos _ (by omega)⟩
    -- what stands at the end, whatever the cell is
    have tail : ∀ (μ' : Sto) (cell idx' : Int) (x4 : Option D), (∀ c', sset μ' st (.lst c') = sset μ st (.lst c')) → μ' st = some (.lst [.int seed, .lst (ns.map .int), .int idx', .int rest]) → 0 ≤ idx' → (dSeq
      (dAsg
        (dOp (oI (fun x j => 0 < j) fun i j => D.int (i % j))
          (dOp (oI CMulX fun i j => D.int (i * j))
            (dOp (oI0 fun i j => D.int (i + j))
              (dOp (oI0 fun i j => D.int (i + j)) (dCB cInt (dCons (dOp oIxL (dVar 0) (dC (D.int 0))) dNil))
                (dOp (oI (fun x j => 0 < j) fun i j => D.int (i % j)) (dVar 2) (dC (D.int 2147483647))))
              (dC (D.int 1)))
            (dC (D.int 48271)))
          (dC (D.int 2147483647)))
        (eName 3))
      (dSeq
        (dAsgS
          (dOp (oI (fun x j => 0 < j) fun i j => D.int (i % j))
            (dOp (oI0 fun i j => D.int (i + j)) (dOp (oI CMulX fun i j => D.int (i * j)) (dVar 3) (dC (D.int 69621)))
              (dC (D.int 12345)))
            (dC (D.int 2147483647)))
          (dVar 0) (dC (D.int 0)))
        (dRet
          (dOp (oI (fun x j => 0 < j) fun i j => D.int (i % j))
            (dOp (oI CDivW fun i j => D.int (i / j)) (dCB cInt (dCons (dOp oIxL (dVar 0) (dC (D.int 0))) dNil))
              (dC (D.int 7)))
            (dVar 1))))) (goalX Ψ) (goalE Φ) [some (.hd (.ref st)), some (.int n), some (.int cell), none, x4] μ' := by
      intro μ' cell idx' x4 hs hc' hi'
      have b1 := hM cell
      have b2 := hM ((seed + cell % 2147483647 + 1) * 48271)
      have b3 := hM ((seed + cell % 2147483647 + 1) * 48271 % 2147483647 * 69621 + 12345)
      clear hM hc
      walk_at "wps"
      simp only [hc']
      walk_at "wp"
      simp only [hc']
      walk_at "wp"
      refine ⟨by decide, mulx 33 17 (by omega) (by decide) (by decide), by decide, mulx 31 18 (by omega) (by decide) (by decide), by decide, wide_div (b := 3) (by decide) (by decide) (by decide) (by decide), hn, ?_⟩
      rw [hs]
      exact ret_same (h _ _ (hmod _).1 (hmod _).2 ⟨_, _, _, rfl, b3.1, b3.2, hi', h4⟩)
    refine q_seq fun nx hnx => ?_
    walk_at "wp"
    simp only [hc]
    walk_at "wp"
    refine ⟨fun c1 => ?_, fun c1 => ?_⟩
    · walk_at "wps"
      simp only [hc]
      walk_at "wp"
      simp only [hc]
      walk_at "wp"
      exact ⟨⟨hn, hl⟩, hn, ret_same (h _ _ (hmod _).1 (hmod _).2 ⟨_, _, _, rfl, h1, h2, h3, Int.ediv_nonneg h4 (by omega)⟩)⟩
    · subst hnx
      refine q_seq fun nx hnx => ?_
      walk_at "wp"
      subst hnx
      refine q_seq fun nx hnx => ?_
      walk_at "wp"
      simp only [hc]
      walk_at "wp"
      refine ⟨fun c2 => ?_, fun c2 => ?_⟩
      · refine q_seq fun nx2 hnx2 => ?_
        walk_at "wp"
        simp only [hc]
        walk_at "wp"
        refine pick_cell h3 c2 fun z => ?_
        walk_at "wp"
        subst hnx2
        refine q_seq fun nx2 hnx2 => ?_
        walk_at "wp"
        simp only [hc]
        walk_at "wp"
        simp only [hc]
        walk_at "wp"
        subst hnx2
        have hc2 : sset μ st (.lst [.int seed, .lst (ns.map .int), .int (idx + 1), .int rest]) st = some (.lst [.int seed, .lst (ns.map .int), .int (idx + 1), .int rest]) := sset_same
        have fin : ∀ z : Int, 0 ≤ z → dIfS (dTest (dOp (oI0 fun i j => D.bl (decide (j ≤ i))) (dVar 2) (dOp (oI CPow fun i j => D.int (i ^ j.toNat)) (dC (D.int 10)) (dC (D.int 18))))) (dSeq (dAsgS (dOp (oI CDivW fun i j => D.int (i / j)) (dVar 2) (dVar 1)) (dVar 0) (dC (D.int 3))) (dRet (dOp (oI (fun x j => 0 < j) fun i j => D.int (i % j)) (dVar 2) (dVar 1)))) dNext
            (goalX Ψ) ⟨nx, (goalE Φ).rt, (goalE Φ).bk, (goalE Φ).ct⟩ [some (.hd (.ref st)), some (.int n), some (.int z), none, none] (sset μ st (.lst [.int seed, .lst (ns.map .int), .int (idx + 1), .int rest])) := by
          intro z hz
          walk_at "wp"
          refine ⟨⟨by decide, by decide, by decide⟩, fun c3 => ?_, fun c3 => ?_⟩
          · walk_at "wps"
            exact ⟨⟨hn, hl⟩, hn, ret_same (h _ _ (hmod _).1 (hmod _).2 ⟨_, _, _, rfl, h1, h2, by omega, Int.ediv_nonneg hz (by omega)⟩)⟩
          · subst hnx
            exact tail _ z (idx + 1) none (fun c' => sset_sset) sset_same (by omega)
        refine q_seq fun nx2 hnx2 => ?_
        walk_at "wp"
        subst hnx2
        refine ⟨fun c3 => ?_, fun c3 => ?_⟩
        · exact fin _ (by omega)
        · exact fin _ (by omega)
      · subst hnx
        exact tail μ 11 idx none (fun _ => rfl) hc h3
def c__law_start : Con := fun ds μ Φ _ => ∃ ns, ds = [.scr ns] ∧ ns.length ≤ 63 ∧ ∀ p c, μ p = none → StC ns c → Φ (.hd (.ref p)) (sset μ p (.lst c))
theorem len__law_start {ds μ Φ Ψ} (h : c__law_start ds μ Φ Ψ) : ds.length = 1 := by obtain ⟨i, rfl, _⟩ := h; rfl
theorem ok__law_start {cx : CXT} (T : Txt P w K mg) : FnOk P w K mg base cx 1 T.f__law_start T.d__law_start ["_law_script"] (spOf K c__law_start) := by
  refine def_okC T.F__law_start sc__law_start _ (fun ds μ Φ Ψ h => len__law_start h) (fun cdv A outer s H E B hW hr =>
    ⟨_, (pss_cons (ps_set (i := 1) sc__law_start.nd rfl (Or.inl rfl) pe_int)
      (pss_cons (ps_for (passes_of rfl) rfl (pi_range1 rfl T.z_range (pa_cons (pe_callB call_len_seq (by rfl) T.z_len PySem.boot_len (pa_cons (pv 0) pa_nil)) pa_nil)) (pg_name (i := 2) sc__law_start.nd rfl (Or.inl rfl)) (pss_one (ps_set (i := 1) sc__law_start.nd rfl (Or.inl rfl) (pe_op op_mod (pe_op op_add (pe_op op_add (pe_op op_add (pe_op op_mulX (pv 1) pe_int) (pe_op op_mod (pe_callTy call_int1 (by rfl) T.z_int (by decide +kernel) (pa_cons (pe_ix ix_list (pv 0) (pv 2) (fun _ _ => rfl)) pa_nil)) pe_int)) (pv 2)) pe_int) pe_int))))
      (pss_one (ps_ret (pe_lst (pa_cons (pv 1) (pa_cons (pe_callTy call_list_of (by rfl) T.z_list (by decide +kernel) (pa_cons (pv 0) pa_nil)) (pa_cons pe_int (pa_cons pe_int pa_nil))))))))),
      (sSeq (sAsg sInt sName)
      (sSeq (sFor (siR1 (sCB rcLen (sCons sVar sNil))) (fun _ _ _ => sName) (fun _ _ _ => (sAsg (sOp roInt (sOp roInt0 (sOp roInt0 (sOp roInt0 (sOp roInt sVar sInt) (sOp roInt (sCB rcInt (sCons (sOp roIxL sVar sVar) sNil)) sInt)) sVar) sInt) sInt) sName)))
      (sRet (sOwn (sCons sVar (sCons (sCB rcList (sCons sVar sNil)) (sCons sInt (sCons sInt sNil))))))))⟩) (fun ds μ Φ Ψ h => ?hv)
  case hv =>
    obtain ⟨ns, rfl, hl, h⟩ := h
    have hM : ∀ a : Int, 0 ≤ a % 2147483647 ∧ a % 2147483647 < 2147483647 := fun a => ⟨Int.emod_nonneg _ (by omega), Int.emod_lt_of_pos _ (by omega)⟩
    walk_at "wps"
    refine ⟨by omega, by omega, fun i δ' μ' => μ' = μ ∧ ∃ seed x, 0 ≤ seed ∧ seed < 2147483647 ∧ δ' = [some (.scr ns), some (.int seed), x], ⟨rfl, 7, none, by omega, by omega, rfl⟩, ?_, ?_⟩
    · rintro i d δ' μ' hi ⟨rfl, seed, x, h1, h2, rfl⟩
      obtain ⟨hj, rfl⟩ := rngD_get hi
      walk_at "wps"
      refine ⟨mulx 31 17 (by omega) (by decide) (by decide), .int ns[i], ?_, ?_⟩
      · exact atI_nat (by rw [List.getElem?_map, List.getElem?_eq_getElem hj]; rfl)
      · walk_at "wps"
        exact ⟨by decide, by decide, _, _, (hM _).1, (hM _).2, rfl⟩ -- (hM _).1, (hM _).2, rfl⟩
    · rintro δ' μ' ⟨rfl, seed, x, h1, h2, rfl⟩
      walk_at "wps"
      exact ⟨by decide, fun p hp => ret_same (h p _ hp ⟨seed, 0, 0, rfl, h1, h2, by omega, by omega⟩)⟩
mutual
/-- what the law compares: plain data -/
def plainD : D → Bool
  | .non => true
  | .bl _ => true
  | .int _ => true
  | .str _ => true
  | .tup ds => plainDs ds && decide (ds.length ≤ 100000)
  | _ => false
def plainDs : List D → Bool
  | [] => true
  | d :: ds => plainD d && plainDs ds
end
mutual
def depD : D → Nat
  | .tup ds => depDs ds + 1
  | _ => 1
def depDs : List D → Nat
  | [] => 0
  | d :: ds => max (depD d) (depDs ds)
end
mutual
def sameD : D → D → Bool
  | a, .tup ds => match a with
    | .tup es => sameDs es ds
    | _ => false
  | a, .non => match a with
    | .non => true
    | _ => false
  | a, .str s => match a with
    | .str t => decide (t = s)
    | _ => false
  | a, .bl s => match a with
    | .bl t => decide (t = s)
    | _ => false
  | a, .int s => match a with
    | .int t => decide (t = s)
    | _ => false
  | _, _ => false
def sameDs : List D → List D → Bool
  | [], [] => true
  | e :: es, d :: ds => sameD e d && sameDs es ds
  | _, _ => false
end
/-- what may be handed to it -/
def c__law_same : Nat → Con
  | 0 => fun _ _ _ _ => False
  | n + 1 => fun ds μ Φ _ => ∃ a d, ds = [a, d] ∧ plainD a = true ∧ plainD d = true ∧ depD d ≤ n + 1 ∧ Φ (.bl (sameD a d)) μ
theorem len__law_same {n ds μ Φ Ψ} (h : c__law_same n ds μ Φ Ψ) : ds.length = 2 := by
  cases n with
  | zero => exact h.elim
  | succ n => obtain ⟨i, _, rfl, _⟩ := h; rfl
theorem depD_pos (d : D) : 0 < depD d := by cases d <;> simp [depD]
theorem same_at {n a d μ Φ Ψ} (pa : plainD a = true) (pd : plainD d = true) (hd : depD d ≤ n) (h : Φ (.bl (sameD a d)) μ) : c__law_same n [a, d] μ Φ Ψ := by
  cases n with
  | zero => have := depD_pos d; omega
  | succ n => exact ⟨a, d, rfl, pa, pd, hd, h⟩
theorem plain_get : ∀ {ds : List D} {i : Nat} {d : D}, plainDs ds = true → ds[i]? = some d → plainD d = true
  | [], i, d, _, e => by cases e
  | x :: xs, 0, d, h, e => by cases e; simp [plainDs] at h; exact h.1
  | x :: xs, i + 1, d, h, e => by simp [plainDs] at h; exact plain_get h.2 e
theorem dep_get : ∀ {ds : List D} {i : Nat} {d : D}, ds[i]? = some d → depD d ≤ depDs ds
  | [], i, d, e => by cases e
  | x :: xs, 0, d, e => by cases e; simp only [depDs]; omega
  | x :: xs, i + 1, d, e => by have := dep_get (ds := xs) (i := i) e; simp only [depDs]; omega
theorem sameDs_len : ∀ {es ds : List D}, es.length ≠ ds.length → sameDs es ds = false
  | [], [], h => absurd rfl h
  | [], _ :: _, h => by simp [sameDs]
  | _ :: _, [], h => by simp [sameDs]
  | e :: es, d :: ds, h => by simp [sameDs]; intro _; exact sameDs_len (by simpa using h)
theorem sameDs_all : ∀ {es ds : List D}, es.length = ds.length → ((List.range ds.length).map fun i => sameD (es.getD i .non) (ds.getD i .non)).all id = sameDs es ds
  | [], [], h => by simp [sameDs]
  | [], _ :: _, h => by simp at h
  | _ :: _, [], h => by simp at h
  | e :: es, d :: ds, h => by
    have ih := sameDs_all (es := es) (ds := ds) (by simpa using h)
    rw [List.length_cons, List.range_succ_eq_map, List.map_cons, List.map_map, List.all_cons, sameDs, ← ih]
    rfl
theorem step__law_same (T : Txt P w K mg) {k : Nat} (hk : 0 ≤ k) (n : Nat) (ih__law_same : FnOk P w K mg base (L2N.CX P w) k T.f__law_same T.d__law_same ["_law_actual", "_law_due_here"] (spOf K (c__law_same n))) : FnOk P w K mg base (L2N.CX P w) (k + 1) T.f__law_same T.d__law_same ["_law_actual", "_law_due_here"] (spOf K (c__law_same (n + 1))) := by
  refine def_okC T.F__law_same sc__law_same _ (fun ds μ Φ Ψ h => len__law_same h) (fun cdv A outer s H E B hW hr =>
    have tk : L2N.Takes (cxOf (L2N.CX P w) P w K mg base N__law_same "_law_same" (defScope s__law_same) T.f__law_same cdv A outer s H E) (fun cls d _ H => E cls d H) := L2N.takes_of rfl rfl rfl rfl
    ⟨_, (pss_cons (ps_if (pt_val (pe_callB call_isi (by rfl) T.z_isinstance (by decide +kernel) (pa_cons (pv 1) (pa_cons (pe_bltn (v := .ty "tuple") rfl T.z_tuple (by decide +kernel) rfl) pa_nil)))) (pss_cons (ps_if (PW.pt (pw_or (pt_not (pt_val (pe_callB call_isi (by rfl) T.z_isinstance (by decide +kernel) (pa_cons (pv 0) (pa_cons (pe_bltn (v := .ty "tuple") rfl T.z_tuple (by decide +kernel) rfl) pa_nil))))) (pw_or1 (pt_cmpR op_ne (pe_callB call_len_seq (by rfl) T.z_len PySem.boot_len (pa_cons (pv 0) pa_nil)) (pe_callB call_len_seq (by rfl) T.z_len PySem.boot_len (pa_cons (pv 1) pa_nil)) (nomark _))))) (pss_one (ps_ret pe_bl)) pss_nil)
      (pss_one (ps_ret (pe_callB (cr_all rfl) (by rfl) T.z_all (by decide +kernel) (pa_cons (pe_lc (own := [("_law_p", 2)]) rfl sc__law_same.nd (pi_range1 rfl T.z_range (pa_cons (pe_callB call_len_seq (by rfl) T.z_len PySem.boot_len (pa_cons (pv 1) pa_nil)) pa_nil)) (blkOk_by (N := N__law_same) (sc := defScope s__law_same) (by decide +kernel)) (fun _ _ _ _ _ => (pg_name (i := 2) sc__law_same.nd rfl (Or.inl rfl))) (fun _ _ _ _ _ => pts_nil) (fun _ _ _ _ _ => (pe_call ih__law_same hr rfl T.g__law_same T.F__law_same.kp T.b__law_same .nil passN (pa_cons (pe_ix ix_tup (pv 0) (pv 2) (fun _ _ => rfl)) (pa_cons (pe_ix ix_tup (pv 1) (pv 2) (fun _ _ => rfl)) pa_nil))))) pa_nil))))) pss_nil)
      (pss_cons (ps_if (pt_cmpR op_isN (pv 1) pe_non (nomark _)) (pss_one (ps_ret (pe_cmpR op_isN (pv 0) pe_non (nomark _)))) pss_nil)
      (pss_cons (ps_if (pt_val (pe_callB call_isi (by rfl) T.z_isinstance (by decide +kernel) (pa_cons (pv 1) (pa_cons (pe_bltn (v := .ty "str") rfl T.z_str (by decide +kernel) rfl) pa_nil)))) (pss_one (ps_ret (pe_and (pe_callB call_isi (by rfl) T.z_isinstance (by decide +kernel) (pa_cons (pv 0) (pa_cons (pe_bltn (v := .ty "str") rfl T.z_str (by decide +kernel) rfl) pa_nil))) (pe_one (pe_cmpR op_eq (pv 0) (pv 1) (nomark _)))))) pss_nil)
      (pss_cons (ps_if (pt_val (pe_callB call_isi (by rfl) T.z_isinstance (by decide +kernel) (pa_cons (pv 1) (pa_cons (pe_bltn (v := .ty "bool") rfl T.z_bool (by decide +kernel) rfl) pa_nil)))) (pss_one (ps_ret (pe_and (pe_callB call_isi (by rfl) T.z_isinstance (by decide +kernel) (pa_cons (pv 0) (pa_cons (pe_bltn (v := .ty "bool") rfl T.z_bool (by decide +kernel) rfl) pa_nil))) (pe_one (pe_cmpR op_eq (pv 0) (pv 1) (nomark _)))))) pss_nil)
      (pss_one (ps_ret (pe_and (pe_callB call_isi (by rfl) T.z_isinstance (by decide +kernel) (pa_cons (pv 0) (pa_cons (pe_bltn (v := .ty "int") rfl T.z_int (by decide +kernel) rfl) pa_nil))) (pe_and (pe_not (pe_callB call_isi (by rfl) T.z_isinstance (by decide +kernel) (pa_cons (pv 0) (pa_cons (pe_bltn (v := .ty "bool") rfl T.z_bool (by decide +kernel) rfl) pa_nil)))) (pe_one (pe_cmpR op_eq (pv 0) (pv 1) (nomark _))))))))))),
      (sSeq (sIfS (sB (sCB (rcIsi (T := "tuple")) (sCons sVar (sCons sHd sNil)))) (sSeq (sIfS (sOr (sNot (sB (sCB (rcIsi (T := "tuple")) (sCons sVar (sCons sHd sNil))))) (sTest (sOp roNe (sCB rcLen (sCons sVar sNil)) (sCB rcLen (sCons sVar sNil))))) (sRet sBl) sNext)
      (sRet (sCB rcAll (sCons (sLc (siR1 (sCB rcLen (sCons sVar sNil))) (gwName List.mem_cons_self) (fun _ _ _ => sName) (fun _ _ _ => sYes) (fun _ _ _ => (sCall (sCons (sOp roIxT sVar sVar) (sCons (sOp roIxT sVar sVar) sNil))))) sNil)))) sNext)
      (sSeq (sIfS (sTest (sOp roIsN sVar sNon)) (sRet (sOp roIsN sVar sNon)) sNext)
      (sSeq (sIfS (sB (sCB (rcIsi (T := "str")) (sCons sVar (sCons sHd sNil)))) (sRet (sAndV (sCB (rcIsi (T := "str")) (sCons sVar (sCons sHd sNil))) (sOp roEq sVar sVar))) sNext)
      (sSeq (sIfS (sB (sCB (rcIsi (T := "bool")) (sCons sVar (sCons sHd sNil)))) (sRet (sAndV (sCB (rcIsi (T := "bool")) (sCons sVar (sCons sHd sNil))) (sOp roEq sVar sVar))) sNext)
      (sRet (sAndV (sCB (rcIsi (T := "int")) (sCons sVar (sCons sHd sNil))) (sAndV (sNotV (sCB (rcIsi (T := "bool")) (sCons sVar (sCons sHd sNil)))) (sOp roEq sVar sVar))))))))⟩) (fun ds μ Φ Ψ h => ?hv)
  case hv =>
    obtain ⟨a, d, rfl, pa, pd, hd, h⟩ := h
    cases d with
    | tup ds =>
      cases a with
      | tup es =>
        walk_at "wps"
        refine ⟨fun c => ?_, fun c => ?_⟩
        · have c : es.length ≠ ds.length := by intro z; rw [z] at c; simp at c
          rw [sameD, sameDs_len c] at h
          exact ret_same h
        · have c : es.length = ds.length := by simp at c; omega
          simp [plainD] at pa pd
          refine ⟨by omega, by omega, lcG_mapN (fun i => .bl (sameD (es.getD i .non) (ds.getD i .non))) (by rw [rngD_len]; omega) (fun i d μ2 X hi hsub hx => ?_) ?_⟩
          · obtain ⟨hj, rfl⟩ := rngD_get hi
            have h1 : es[i]? = some es[i] := List.getElem?_eq_getElem (by omega)
            have h2 : ds[i]? = some ds[i] := List.getElem?_eq_getElem (by omega)
            walk_at "wps"
            refine ⟨_, atI_n h1, ?_⟩
            walk_at "wps"
            refine ⟨_, atI_n h2, same_at (plain_get pa.1 h1) (plain_get pd.1 h2) (by have := dep_get h2; simp only [depD] at hd; omega) ?_⟩
            simpa [List.getD_eq_getElem?_getD, h1, h2] using hx
          · rw [rngD_len]
            refine w_allB (P := (List.range ds.length).map fun i => sameD (es.getD i .non) (ds.getD i .non)) (by rw [List.map_map]; rfl) (ret_same ?_)
            rw [sameDs_all c]
            exact h
      | non => walk_at "wps"; exact ret_same h
      | int i => walk_at "wps"; exact ret_same h
      | bl i => walk_at "wps"; exact ret_same h
      | str i => walk_at "wps"; exact ret_same h
      | _ => simp [plainD] at pa
    | non =>
      cases a with
      | tup es => walk_at "wps"; exact ret_same h
      | non => walk_at "wps"; exact ret_same h
      | int i => walk_at "wps"; exact ret_same h
      | bl i => walk_at "wps"; exact ret_same h
      | str i => walk_at "wps"; exact ret_same h
      | _ => simp [plainD] at pa
    | str t =>
      cases a with
      | tup es => walk_at "wps"; exact ret_same h
      | non => walk_at "wps"; exact ret_same h
      | int i => walk_at "wps"; exact ret_same h
      | bl i => walk_at "wps"; exact ret_same h
      | str i => walk_at "wps"; exact ret_same h
      | _ => simp [plainD] at pa
    | bl t =>
      cases a with
      | tup es => walk_at "wps"; exact ret_same h
      | non => walk_at "wps"; exact ret_same h
      | int i => walk_at "wps"; exact ret_same h
      | bl i => walk_at "wps"; exact ret_same h
      | str i => walk_at "wps"; exact ret_same h
      | _ => simp [plainD] at pa
    | int t =>
      cases a with
      | tup es => walk_at "wps"; exact ret_same h
      | non => walk_at "wps"; exact ret_same h
      | int i => walk_at "wps"; exact ret_same h
      | bl i => walk_at "wps"; exact ret_same h
      | str i => walk_at "wps"; exact ret_same h
      | _ => simp [plainD] at pa
    | _ => simp [plainD] at pd
theorem log_small {n : Nat} (h : n ≤ 8000) : (n : Int).natAbs.log2 < 9000 := by rw [Int.natAbs_natCast]; have := Nat.log2_le_self n; omega
theorem lcP {Ψ : XP} {Φ : DK} {n : Nat} {φ : DE} {δw : DEnv} {μ1 : Sto} {m : Nat} {st : Addr} {ns : List Int} {c : List D} (Pd : Nat → Int → Prop) (hm : m ≤ 1000) (hst : μ1 st = some (.lst c)) (h0 : StC ns c)
    (hs : ∀ (i : Nat) (μ2 : Sto) (X : DK) (c : List D), i < m → μ2 st = some (.lst c) → StC ns c → (∀ (y : Int) c', StC ns c' → Pd i y → X (.int y) (sset μ2 st (.lst c'))) → φ Ψ (δw.set n (some (.int (i : Int)))) μ2 X)
    (hd : ∀ (l : List Int) c, l.length = m → (∀ (i : Nat) (h : i < l.length), Pd i l[i]) → StC ns c → Φ (.lst (l.map .int)) (sset μ1 st (.lst c))) : LcG (eName n) dYes φ δw Ψ (rngD 0 m) μ1 Φ := by
  refine lcG_drawN (StC ns) (fun i acc => ∃ l : List Int, acc = l.map .int ∧ l.length = i ∧ ∀ (j : Nat) (h : j < l.length), Pd j l[j]) (by rw [rngD_len]; omega) hst h0 ⟨[], rfl, rfl, fun j h => by simp at h⟩ (fun i d μ2 X acc c2 hi hs2 sc ⟨l, e, hl, hP⟩ hla hx => ?_) (fun acc c2 ⟨l, e, hl, hP⟩ hla sc => ?_)
  · obtain ⟨hj, rfl⟩ := rngD_get hi
    rw [Int.zero_add]
    refine hs i μ2 X c2 hj hs2 sc fun y c' sc' hy => hx _ c' sc' ⟨l ++ [y], by rw [e, List.map_append]; rfl, by rw [List.length_append, hl]; rfl, fun j h => ?_⟩
    by_cases z : j < l.length
    · rw [List.getElem_append_left z]; exact hP j z
    · rw [List.length_append, List.length_singleton] at h
      have : j = l.length := by omega
      subst this
      rw [List.getElem_append_right (Nat.le_refl _)]
      simp only [Nat.sub_self, List.getElem_cons_zero]
      rw [hl]; exact hy
  · rw [rngD_len] at hl
    rw [e]
    exact hd l c2 hl hP sc
theorem all_of_get {l : List Int} {P : Int → Prop} (h : ∀ (i : Nat) (h : i < l.length), P l[i]) : ∀ x ∈ l, P x := fun x hx => by
  obtain ⟨i, hi, rfl⟩ := List.mem_iff_getElem.mp hx
  exact h i hi
def c__law_width : Con := fun ds μ Φ _ => ∃ (ws : List Int) (p : Nat), ds = [.tup (ws.map .int), .int (p : Int)] ∧ WsOk ws ∧ Φ (.int (wd ws p : Int)) μ
theorem len__law_width {ds μ Φ Ψ} (h : c__law_width ds μ Φ Ψ) : ds.length = 2 := by obtain ⟨i, _, rfl, _⟩ := h; rfl
theorem ok__law_width {cx : CXT} (T : Txt P w K mg) : FnOk P w K mg base cx 1 T.f__law_width T.d__law_width ["_law_widths_here", "_law_place"] (spOf K c__law_width) := by
  refine def_okC T.F__law_width sc__law_width _ (fun ds μ Φ Ψ h => len__law_width h) (fun cdv A outer s H E B hW hr =>
    ⟨_, (pss_one (ps_ret (pe_ix ix_tup (pv 0) (pe_op op_mod (pe_callTy call_int1 (by rfl) T.z_int (by decide +kernel) (pa_cons (pv 1) pa_nil)) (pe_callB call_len_seq (by rfl) T.z_len PySem.boot_len (pa_cons (pv 0) pa_nil))) (fun _ _ => rfl)))),
      (sRet (sOp roIxT sVar (sOp roInt (sCB rcInt (sCons sVar sNil)) (sCB rcLen (sCons sVar sNil)))))⟩) (fun ds μ Φ Ψ h => ?hv)
  case hv =>
    obtain ⟨ws, p, rfl, hw, h⟩ := h
    have h0 := hw.l0
    obtain ⟨x, hx, e, x1, x2⟩ := hw.at_ p
    walk_at "wps"
    have em : (p : Int) % (ws.length : Int) = ((p % ws.length : Nat) : Int) := rfl
    rw [em]
    refine ⟨by omega, _, atI_nat (v := .int x) (by rw [List.getElem?_map, hx]; rfl), ret_same ?_⟩
    rw [e]; exact h
def c__law_widths : Con := fun ds μ Φ _ => ∃ st ns c, ds = [.hd (.ref st)] ∧ μ st = some (.lst c) ∧ StC ns c ∧ ∀ ws c', WsOk ws → StC ns c' → Φ (.tup (ws.map .int)) (sset μ st (.lst c'))
theorem len__law_widths {ds μ Φ Ψ} (h : c__law_widths ds μ Φ Ψ) : ds.length = 1 := by obtain ⟨_, _, _, rfl, _⟩ := h; rfl
theorem ok__law_widths {cx : CXT} (T : Txt P w K mg) : FnOk P w K mg base cx 2 T.f__law_widths T.d__law_widths ["_law_state"] (spOf K c__law_widths) := by
  refine def_okC T.F__law_widths sc__law_widths _ (fun ds μ Φ Ψ h => len__law_widths h) (fun cdv A outer s H E B hW hr =>
    ⟨_, (pss_cons (ps_set (i := 1) sc__law_widths.nd rfl (Or.inr rfl) (pe_op op_add pe_int (pe_call (ok__law_pick T) hr rfl T.g__law_pick T.F__law_pick.kp T.b__law_pick .nil passN (pa_cons (pv 0) (pa_cons pe_int pa_nil)))))
      (pss_cons (ps_set (i := 2) sc__law_widths.nd rfl (Or.inl rfl) (pe_op op_add pe_int (pe_call (ok__law_pick T) hr rfl T.g__law_pick T.F__law_pick.kp T.b__law_pick .nil passN (pa_cons (pv 0) (pa_cons (pe_ix ix_list (pe_lst (pa_cons pe_int (pa_cons pe_int (pa_cons pe_int pa_nil)))) (pe_call (ok__law_pick T) hr rfl T.g__law_pick T.F__law_pick.kp T.b__law_pick .nil passN (pa_cons (pv 0) (pa_cons pe_int pa_nil))) (fun _ _ => rfl)) pa_nil)))))
      (pss_one (ps_ret (pe_callTy call_tupleN (by rfl) T.z_tuple (by decide +kernel) (pa_cons (pe_lc (own := [("_law_k", 3)]) rfl sc__law_widths.nd (pi_range1 rfl T.z_range (pa_cons (pv 2) pa_nil)) (blkOk_by (N := N__law_widths) (sc := defScope s__law_widths) (by decide +kernel)) (fun _ _ _ _ _ => (pg_name (i := 3) sc__law_widths.nd rfl (Or.inl rfl))) (fun _ _ _ _ _ => pts_nil) (fun _ _ _ _ _ => (pe_op op_add pe_int (pe_call (ok__law_pick T) hr rfl T.g__law_pick T.F__law_pick.kp T.b__law_pick .nil passN (pa_cons (pv 0) (pa_cons (pv 1) pa_nil)))))) pa_nil)))))),
      (sSeq (sAsg (sOp roInt0 sInt (sCall (sCons sVar (sCons sInt sNil)))) sName)
      (sSeq (sAsg (sOp roInt0 sInt (sCall (sCons sVar (sCons (sOp roIxL (sLst (sCons sInt (sCons sInt (sCons sInt sNil)))) (sCall (sCons sVar (sCons sInt sNil)))) sNil)))) sName)
      (sRet (sCB rcTuple (sCons (sLc (siR1 sVar) (gwName List.mem_cons_self) (fun _ _ _ => sName) (fun _ _ _ => sYes) (fun _ _ _ => (sOp roInt0 sInt (sCall (sCons sVar (sCons sVar sNil)))))) sNil)))))⟩) (fun ds μ Φ Ψ h => ?hv)
  case hv =>
    obtain ⟨st, ns, c, rfl, hc, sc, h⟩ := h
    refine seq_cut fun M hM => ?_
    walk_at "wp"
    refine ⟨st, ns, c, 3, rfl, hc, sc, by decide, by decide, fun y c1 y0 y1 sc => ?_⟩
    walk_at "wp"
    obtain ⟨top, ht, t1, t2⟩ : ∃ top : Nat, (2 : Int) + y = (top : Int) ∧ 2 ≤ top ∧ top ≤ 4 := ⟨(2 + y).toNat, by omega, by omega, by omega⟩
    rw [ht, hM]; clear hM M
    refine seq_cut fun M hM => ?_
    walk_at "wp"
    refine ⟨by decide, st, ns, c1, 3, rfl, sset_same, sc, by decide, by decide, fun y c2 y0 y1 sc => ?_⟩
    rw [sset_sset]
    obtain ⟨n, hn, n1, n6⟩ : ∃ m : Nat, atI [D.int 2, D.int 3, D.int 6] y = some (.int m) ∧ 1 ≤ m ∧ m ≤ 6 := by
      obtain ⟨q, rfl⟩ : ∃ q : Nat, y = (q : Int) := ⟨y.toNat, by omega⟩
      rcases (show q = 0 ∨ q = 1 ∨ q = 2 by omega) with rfl | rfl | rfl
      · exact ⟨2, atI_nat (j := 0) rfl, by decide, by decide⟩
      · exact ⟨3, atI_nat (j := 1) rfl, by decide, by decide⟩
      · exact ⟨6, atI_nat (j := 2) rfl, by decide, by decide⟩
    walk_at "wp"
    refine ⟨_, hn, st, ns, c2, n, rfl, sset_same, sc, by omega, log_small (by omega), fun y c3 y0 y1 sc => ?_⟩
    rw [sset_sset]
    obtain ⟨m, hm, m1, m6⟩ : ∃ s : Nat, (1 : Int) + y = (s : Int) ∧ 1 ≤ s ∧ s ≤ 6 := ⟨(1 + y).toNat, by omega, by omega, by omega⟩
    walk_at "wp"
    rw [hm, hM]; clear hM M
    walk_at "wps"
    refine ⟨by omega, by omega, lcP (fun _ y => 1 ≤ y ∧ y ≤ 4) (by omega) sset_same sc (fun i μ2 X c7 hi hs7 sc7 hx7 => ?_) (fun l c7 hl hP sc => ?_)⟩
    · walk_at "wps"
      exact ⟨st, ns, c7, top, rfl, hs7, sc7, by omega, log_small (by omega), fun y c8 y0 y1 sc8 => by walk_at "wps"; exact hx7 (1 + y) c8 sc8 ⟨by omega, by omega⟩⟩
    · rw [sset_sset]
      exact ⟨_, .lst _, ret_same (h l c7 ⟨by omega, by omega, all_of_get hP⟩ sc)⟩
end
section
variable {P : Program} {w : World} {K : Fg} {mg : Str → Option Value} {base : Heap}
theorem nin_N {z : Nat} {l : List Nat} {y : D} {μ : Sto} {X : DK} (h : Items μ y (nI l) ∧ X (.bl (!l.contains z)) μ) : oIn true (.int (z : Int)) y μ X := by
  obtain ⟨hi, h⟩ := h
  refine ⟨_, hi, rfl, by rw [nI_ints]; exact flat_I _, ?_⟩
  have e : inD (.int (z : Int)) (nI l) = l.contains z := by
    rw [nI_ints, inD_I, Bool.eq_iff_iff, List.contains_iff_mem, List.contains_iff_mem, List.mem_map]
    exact ⟨fun ⟨q, hq, e⟩ => by obtain rfl : q = z := Int.ofNat.inj e; exact hq, fun q => ⟨z, q, rfl⟩⟩
  rw [if_pos rfl, e]
  exact h
theorem sset_idl {μ : Sto} {a : Addr} {c : Cell} (h : μ a = some c) : sset μ a c = μ := by
  funext b
  by_cases e : b = a
  · rw [e, sset_same, h]
  · rw [sset_ne e]
def c__law_look_places : Con := fun ds μ Φ _ => ∃ (st : Addr) (ns : List Int) (c : List D) (ws : List Int) (n m : Nat), ds = [.hd (.ref st), .tup (ws.map .int), .int (n : Int), .int (m : Int)] ∧ μ st = some (.lst c) ∧ StC ns c ∧ WsOk ws ∧ n ≤ 8 ∧ 4 ≤ m ∧ m ≤ 256 ∧
  ∀ (ps : List Nat) c', ps.Nodup → (∀ p ∈ ps, p < 100) → ps.length ≤ n → (∀ i, i ≤ ps.length → wpl ws (ps.take i) ≤ m) → (1 ≤ n → ps ≠ []) → StC ns c' → Φ (.lst (nI ps)) (sset μ st (.lst c'))
theorem len__law_look_places {ds μ Φ Ψ} (h : c__law_look_places ds μ Φ Ψ) : ds.length = 4 := by obtain ⟨_, _, _, _, _, _, rfl, _⟩ := h; rfl
theorem ok__law_look_places {cx : CXT} (T : Txt P w K mg) : FnOk P w K mg base cx 2 T.f__law_look_places T.d__law_look_places ["_law_state", "_law_widths_here", "_law_count", "_law_most"] (spOf K c__law_look_places) := by
  refine def_okC T.F__law_look_places sc__law_look_places _ (fun ds μ Φ Ψ h => len__law_look_places h) (fun cdv A outer s H E B hW hr =>
    ⟨_, (pss_cons (ps_set (i := 4) sc__law_look_places.nd rfl (Or.inl rfl) (pe_lst pa_nil))
      (pss_cons (ps_set (i := 5) sc__law_look_places.nd rfl (Or.inl rfl) pe_int)
      (pss_cons (ps_for (passes_of rfl) rfl (pi_range1 rfl T.z_range (pa_cons (pv 2) pa_nil)) (pg_name (i := 6) sc__law_look_places.nd rfl (Or.inl rfl)) (pss_cons (ps_set (i := 7) sc__law_look_places.nd rfl (Or.inl rfl) (pe_call (ok__law_pick T) hr rfl T.g__law_pick T.F__law_pick.kp T.b__law_pick .nil passN (pa_cons (pv 0) (pa_cons (pe_ix ix_list (pe_lst (pa_cons pe_int (pa_cons pe_int (pa_cons pe_int pa_nil)))) (pe_call (ok__law_pick T) hr rfl T.g__law_pick T.F__law_pick.kp T.b__law_pick .nil passN (pa_cons (pv 0) (pa_cons pe_int pa_nil))) (fun _ _ => rfl)) pa_nil))))
      (pss_one (ps_if (PW.pt (pw_and (pt_cmpR op_notIn_seq (pv 7) (pv 4) (by with_unfolding_all rfl)) (pw_and1 (pt_cmpR op_le (pe_op op_mulX (pv 5) (pe_call (ok__law_width T) hr rfl T.g__law_width T.F__law_width.kp T.b__law_width .nil passN (pa_cons (pv 1) (pa_cons (pv 7) pa_nil)))) (pv 3) (nomark _))))) (pss_cons (ps_expr (pe_bm PySem.F.plainAttrs_list PySem.F.slot_list_append PySem.F.type_list_append mt_append (pv 4) (pa_cons (pv 7) pa_nil)))
      (pss_one (ps_set (i := 5) sc__law_look_places.nd rfl (Or.inl rfl) (pe_op op_mulX (pv 5) (pe_call (ok__law_width T) hr rfl T.g__law_width T.F__law_width.kp T.b__law_width .nil passN (pa_cons (pv 1) (pa_cons (pv 7) pa_nil))))))) pss_nil))))
      (pss_one (ps_ret (pv 4)))))),
      (sSeq (sAsg (sOwn sNil) sName)
      (sSeq (sAsg sInt sName)
      (sSeq (sFor (siR1 sVar) (fun _ _ _ => sName) (fun _ _ _ => (sSeq (sAsg (sCall (sCons sVar (sCons (sOp roIxL (sLst (sCons sInt (sCons sInt (sCons sInt sNil)))) (sCall (sCons sVar (sCons sInt sNil)))) sNil))) sName)
      (sIfS (sAnd (sTest (sOp (roIn (neg := true)) sVar sVar)) (sTest (sOp roBl0 (sOp roInt sVar (sCall (sCons sVar (sCons sVar sNil)))) sVar))) (sSeq (sDrop (sApp sVar sVar))
      (sAsg (sOp roInt sVar (sCall (sCons sVar (sCons sVar sNil)))) sName)) sNext))))
      (sRet sRest))))⟩) (fun ds μ Φ Ψ h => ?hv)
  case hv =>
    obtain ⟨st, ns, c, ws, n, m, rfl, hc, sc, hw, hn, m1, m2, h⟩ := h
    refine seq_cut fun M hM => ?_
    walk_at "wp"
    refine ⟨by omega, fun p hp => ?_⟩
    have hps : p ≠ st := fun z => by rw [z, hc] at hp; cases hp
    rw [hM]; clear hM M
    walk_at "wps"
    refine ⟨by omega, by omega, fun i δ' μ' => ∃ (acc : List Nat) (c' : List D) (x y : Option D), δ' = [some (.hd (.ref st)), some (.tup (ws.map .int)), some (.int (n : Int)), some (.int (m : Int)), some (.hd (.ref p)), some (.int ((wpl ws acc : Nat) : Int)), x, y] ∧ μ' p = some (.lst (nI acc)) ∧ μ' st = some (.lst c') ∧ (∀ a, a ≠ p → a ≠ st → μ' a = μ a) ∧ StC ns c' ∧ acc.Nodup ∧ (∀ q ∈ acc, q < 100) ∧ acc.length ≤ i ∧ (∀ j, j ≤ acc.length → wpl ws (acc.take j) ≤ m) ∧ (1 ≤ i → acc ≠ []), ⟨[], c, none, none, rfl, sset_same, by rw [sset_ne hps.symm, hc], fun a a1 a2 => sset_ne a1, sc, List.nodup_nil, by simp, Nat.le_refl _, fun j hj => by rw [List.take_nil]; show 1 ≤ m; omega, fun z => by omega⟩, ?_, ?_⟩
    · rintro i d δ' μ' hi ⟨acc, c2, x, y, rfl, w1, w2, w3, w4, w5, w6, w7, w8, w9⟩
      obtain ⟨hj, rfl⟩ := rngD_get hi
      walk_at "wp"
      refine ⟨by decide, st, ns, c2, 3, rfl, w2, w4, by decide, by decide, fun y c3 y0 y1 sc => ?_⟩
      obtain ⟨l, hl, l1, l100⟩ : ∃ l : Nat, atI [D.int 4, D.int 9, D.int 100] y = some (.int l) ∧ 1 ≤ l ∧ l ≤ 100 := by
        obtain ⟨q, rfl⟩ : ∃ q : Nat, y = (q : Int) := ⟨y.toNat, by omega⟩
        rcases (show q = 0 ∨ q = 1 ∨ q = 2 by omega) with rfl | rfl | rfl
        · exact ⟨4, atI_nat (j := 0) rfl, by decide, by decide⟩
        · exact ⟨9, atI_nat (j := 1) rfl, by decide, by decide⟩
        · exact ⟨100, atI_nat (j := 2) rfl, by decide, by decide⟩
      walk_at "wp"
      refine ⟨_, hl, st, ns, c3, l, rfl, sset_same, sc, by omega, log_small (by omega), fun y c4 y0 y1 sc => ?_⟩
      rw [sset_sset]
      obtain ⟨pl, rfl⟩ : ∃ pl : Nat, y = (pl : Int) := ⟨y.toNat, by omega⟩
      have hw1 := hw.wd1 pl
      have hpr : wpl ws acc ≤ 256 := by have := w8 acc.length (Nat.le_refl _); rw [List.take_length] at this; omega
      have hp4 : (sset μ' st (.lst c4)) p = some (.lst (nI acc)) := by rw [sset_ne hps, w1]
      have stay : ∀ (a : Addr), a ≠ p → a ≠ st → (sset μ' st (.lst c4)) a = μ a := fun a a1 a2 => by rw [sset_ne a2, w3 a a1 a2]
      walk_at "wp"
      refine nin_N ⟨.own hp4, ?_⟩
      refine ⟨_, rfl, fun q => ?_, fun q => ?_⟩
      · have hnin : pl ∉ acc := by simpa using q
        refine ⟨ws, pl, rfl, hw, ?_⟩
        walk_at "wp"
        refine ⟨mulx 10 4 (by omega) (by omega) (by decide), fun q2 => ?_, fun q2 => ?_⟩
        · refine ⟨_, hp4, _, hp4, by rw [nI_len]; omega, ws, pl, rfl, hw, ?_⟩
          walk_at "wp"
          refine ⟨mulx 10 4 (by omega) (by omega) (by decide), acc ++ [pl], c4, _, _, by rw [wpl_snoc]; rfl, by unfold nI; rw [List.map_append]; rfl, by rw [sset_ne hps.symm, sset_same], fun a a1 a2 => by rw [sset_ne a1, stay a a1 a2], sc, ?_, ?_, by rw [List.length_append]; simp; omega, fun j hj => ?_, fun _ z => by simp at z⟩
          · exact List.nodup_append.mpr ⟨w5, by simp, fun a ha b hb => by rw [List.mem_singleton.mp hb]; exact fun e => hnin (e ▸ ha)⟩
          · intro q hq
            rcases List.mem_append.mp hq with z | z
            · exact w6 q z
            · rw [List.mem_singleton.mp z]; omega
          · rw [List.length_append, List.length_singleton] at hj
            by_cases z : j ≤ acc.length
            · rw [List.take_append_of_le_length z]; exact w8 j z
            · have e : j = (acc ++ [pl]).length := by rw [List.length_append, List.length_singleton]; omega
              rw [e, List.take_length, wpl_snoc]
              have : ((wpl ws acc * wd ws pl : Nat) : Int) ≤ (m : Int) := by rw [Int.natCast_mul]; exact q2
              omega
        · refine ⟨acc, c4, _, _, rfl, hp4, rfl, stay, sc, w5, w6, by omega, w8, fun _ z => ?_⟩
          subst z
          apply q2
          show ((1 : Nat) : Int) * (wd ws pl : Int) ≤ (m : Int)
          omega
      · have hin : pl ∈ acc := by simpa using q
        exact ⟨acc, c4, _, _, rfl, hp4, sset_same, stay, sc, w5, w6, by omega, w8, fun _ z => by rw [z] at hin; cases hin⟩
    · rintro δ' μ' ⟨acc, c2, x, y, rfl, w1, w2, w3, w4, w5, w6, w7, w8, w9⟩
      walk_at "wps"
      refine ⟨nI acc, w1, sset μ st (.lst c2), fun a x e => ?_, h acc c2 w5 w6 w7 w8 w9 w4⟩
      by_cases as : a = st
      · subst as
        rw [sset_same] at e
        cases e
        rw [sset_ne hps.symm, w2]
      · rw [sset_ne as] at e
        have ap : a ≠ p := fun z => by rw [z, hp] at e; cases e
        rw [sset_ne ap, w3 a ap as, e]
/-- how many looks a term of so many levels has at most -/
def lkN : Nat → Nat
  | 0 => 0
  | n + 1 => 1 + 4 * lkN n
def c__law_query_term (n : Nat) : Con := fun ds μ Φ _ => ∃ (st : Addr) (ns : List Int) (c : List D) (ws : List Int) (oc lv : Nat) (ps : List Nat), ds = [.hd (.ref st), .lst [.tup (ws.map .int), .int (oc : Int)], .lst (nI ps), .int (lv : Int)] ∧ μ st = some (.lst c) ∧ StC ns c ∧ WsOk ws ∧ 1 ≤ oc ∧ oc ≤ 4 ∧ ps ≠ [] ∧ ps.length ≤ 8 ∧ (∀ p ∈ ps, p < 100) ∧ lv < n ∧ lv ≤ 20 ∧
  ∀ t c', QOk ws oc t → qDep t ≤ lv → (∀ q ∈ qPl t, q ∈ ps) → (qPl t).length ≤ lkN lv → StC ns c' → Φ (qD t) (sset μ st (.lst c'))
theorem len__law_query_term {n ds μ Φ Ψ} (h : c__law_query_term n ds μ Φ Ψ) : ds.length = 4 := by obtain ⟨_, _, _, _, _, _, _, rfl, _⟩ := h; rfl
theorem step__law_query_term (T : Txt P w K mg) {k : Nat} (hk : 2 ≤ k) (n : Nat) (ih__law_query_term : FnOk P w K mg base (L2N.CX P w) k T.f__law_query_term T.d__law_query_term ["_law_state", "_law_size", "_law_places", "_law_levels"] (spOf K (c__law_query_term n))) : FnOk P w K mg base (L2N.CX P w) (k + 1) T.f__law_query_term T.d__law_query_term ["_law_state", "_law_size", "_law_places", "_law_levels"] (spOf K (c__law_query_term (n + 1))) := by
  refine def_okC T.F__law_query_term sc__law_query_term _ (fun ds μ Φ Ψ h => len__law_query_term h) (fun cdv A outer s H E B hW hr =>
    have tk : L2N.Takes (cxOf (L2N.CX P w) P w K mg base N__law_query_term "_law_query_term" (defScope s__law_query_term) T.f__law_query_term cdv A outer s H E) (fun cls d _ H => E cls d H) := L2N.takes_of rfl rfl rfl rfl
    ⟨_, (pss_cons (ps_if (PW.pt (pw_or (pt_cmpR op_eq (pv 3) pe_int (nomark _)) (pw_or1 (pt_cmpR op_eq (pe_call (ok__law_pick T) (hr.mono (by omega)) rfl T.g__law_pick T.F__law_pick.kp T.b__law_pick .nil passN (pa_cons (pv 0) (pa_cons pe_int pa_nil))) pe_int (nomark _))))) (pss_one (ps_ret (pe_tupN (pa_cons pe_str (pa_cons (pe_call (ok__law_pick T) (hr.mono (by omega)) rfl T.g__law_pick T.F__law_pick.kp T.b__law_pick .nil passN (pa_cons (pv 0) (pa_cons (pe_ix ix_list (pv 1) pe_int (fun _ _ => rfl)) pa_nil))) pa_nil))))) pss_nil)
      (pss_cons (ps_set (i := 4) sc__law_query_term.nd rfl (Or.inl rfl) (pe_ix ix_list (pv 2) (pe_call (ok__law_pick T) (hr.mono (by omega)) rfl T.g__law_pick T.F__law_pick.kp T.b__law_pick .nil passN (pa_cons (pv 0) (pa_cons (pe_callB call_len_seq (by rfl) T.z_len PySem.boot_len (pa_cons (pv 2) pa_nil)) pa_nil))) (fun _ _ => rfl)))
      (pss_cons (ps_set (i := 5) sc__law_query_term.nd rfl (Or.inl rfl) (pe_call (ok__law_width T) (hr.mono (by omega)) rfl T.g__law_width T.F__law_width.kp T.b__law_width .nil passN (pa_cons (pe_ix ix_list (pv 1) pe_int (fun _ _ => rfl)) (pa_cons (pv 4) pa_nil))))
      (pss_one (ps_ret (pe_op op_catN (pe_tupN (pa_cons pe_str (pa_cons (pv 4) pa_nil))) (pe_callTy call_tupleN (by rfl) T.z_tuple (by decide +kernel) (pa_cons (pe_lc (own := [("_law_x", 6)]) rfl sc__law_query_term.nd (pi_range1 rfl T.z_range (pa_cons (pv 5) pa_nil)) (blkOk_by (N := N__law_query_term) (sc := defScope s__law_query_term) (by decide +kernel)) (fun _ _ _ _ _ => (pg_name (i := 6) sc__law_query_term.nd rfl (Or.inl rfl))) (fun _ _ _ _ _ => pts_nil) (fun _ _ _ _ _ => (pe_call ih__law_query_term hr rfl T.g__law_query_term T.F__law_query_term.kp T.b__law_query_term .nil passN (pa_cons (pv 0) (pa_cons (pv 1) (pa_cons (pv 2) (pa_cons (pe_op op_sub (pv 3) pe_int) pa_nil))))))) pa_nil)))))))),
      (sSeq (sIfS (sOr (sTest (sOp roEq sVar sInt)) (sTest (sOp roEq (sCall (sCons sVar (sCons sInt sNil))) sInt))) (sRet (sTup (sCons sStr (sCons (sCall (sCons sVar (sCons (sOp roIxL sVar sInt) sNil))) sNil)))) sNext)
      (sSeq (sAsg (sOp roIxL sVar (sCall (sCons sVar (sCons (sCB rcLen (sCons sVar sNil)) sNil)))) sName)
      (sSeq (sAsg (sCall (sCons (sOp roIxL sVar sInt) (sCons sVar sNil))) sName)
      (sRet (sOp roCatT (sTup (sCons sStr (sCons sVar sNil))) (sCB rcTuple (sCons (sLc (siR1 sVar) (gwName List.mem_cons_self) (fun _ _ _ => sName) (fun _ _ _ => sYes) (fun _ _ _ => (sCall (sCons sVar (sCons sVar (sCons sVar (sCons (sOp roInt0 sVar sInt) sNil))))))) sNil)))))))⟩) (fun ds μ Φ Ψ h => ?hv)
  case hv =>
    obtain ⟨st, ns, c, ws, oc, lv, ps, rfl, hc, sc, hw, o1, o4, hne, h8, h100, hn, h20, h⟩ := h
    have hpl : 0 < ps.length := List.length_pos_iff.mpr hne
    have tell : ∀ (μ1 : Sto) (c1 : List D), (∀ c2, sset μ1 st (.lst c2) = sset μ st (.lst c2)) → μ1 st = some (.lst c1) → StC ns c1 → c__law_pick [.hd (.ref st), .int (oc : Int)] μ1 (fun y μ' => 2 ≤ 100000 ∧ ∃ μ2, DW.Sub μ2 μ' ∧ Φ (.tup [.str "tell", y]) μ2) fun _ _ => False := fun μ1 c1 hm hs sc => by
      refine ⟨st, ns, c1, oc, rfl, hs, sc, by omega, log_small (by omega), fun y c2 y0 y1 sc => ⟨by omega, ?_⟩⟩
      rw [hm]
      obtain ⟨o, rfl⟩ : ∃ o : Nat, y = (o : Int) := ⟨y.toNat, by omega⟩
      exact ret_same (h (.tell o) c2 (show o < oc by omega) (Nat.zero_le _) (fun q z => by simp [qPl] at z) (Nat.zero_le _) sc)
    refine seq_cut fun M hM => ?_
    walk_at "wp"
    refine ⟨fun _ => tell μ c (fun _ => rfl) hc sc, fun q => ⟨st, ns, c, 5, rfl, hc, sc, by decide, by decide, fun y c1 y0 y1 sc => ?_⟩⟩
    walk_at "wp"
    refine ⟨fun _ => tell _ c1 (fun _ => sset_sset) sset_same sc, fun _ => ?_⟩
    obtain ⟨lw, rfl⟩ : ∃ lw : Nat, lv = lw + 1 := ⟨lv - 1, by omega⟩
    rw [hM]; clear hM M tell
    refine seq_cut fun M hM => ?_
    walk_at "wp"
    refine ⟨st, ns, c1, ps.length, by rw [nI_len], sset_same, sc, by omega, log_small (by omega), fun y c2 y0 y1 sc => ?_⟩
    rw [sset_sset]
    obtain ⟨i, rfl⟩ : ∃ i : Nat, y = (i : Int) := ⟨y.toNat, by omega⟩
    have hi : i < ps.length := by omega
    have hw1 := hw.wd1 ps[i]
    have hp100 := h100 _ (List.getElem_mem hi)
    walk_at "wp"
    refine ⟨_, atI_nat (v := .int ((ps[i] : Nat) : Int)) (by unfold nI; rw [List.getElem?_map, List.getElem?_eq_getElem hi]; rfl), ?_⟩
    generalize hpi : ps[i] = p at *
    rw [hM]; clear hM M
    refine seq_cut fun M hM => ?_
    walk_at "wp"
    refine ⟨ws, p, rfl, hw, ?_⟩
    rw [hM]; clear hM M
    walk_at "wps"
    refine ⟨by omega, by omega, by omega, lcG_drawN (StC ns) (fun i acc => ∃ ts : List QT, acc = qDs ts ∧ ts.length = i ∧ (∀ t ∈ ts, QOk ws oc t ∧ qDep t ≤ lw ∧ (∀ q ∈ qPl t, q ∈ ps) ∧ (qPl t).length ≤ lkN lw)) (by rw [rngD_len]; omega) sset_same sc ⟨[], rfl, rfl, by simp⟩ (fun i d μ2 X acc c3 hi hs2 sc ⟨ts, e, hl, hT⟩ hla hx => ?_) (fun acc c3 ⟨ts, e, hl, hT⟩ hla sc => ?_)⟩
    · obtain ⟨hj, rfl⟩ := rngD_get hi
      walk_at "wps"
      refine ⟨st, ns, c3, ws, oc, lw, ps, by rw [show ((lw + 1 : Nat) : Int) - 1 = (lw : Int) by omega], hs2, sc, hw, o1, o4, hne, h8, h100, by omega, by omega, fun t c4 a b cc dd sc4 => hx _ c4 sc4 ⟨ts ++ [t], by rw [e, qDs_map, qDs_map, List.map_append]; rfl, by rw [List.length_append, hl]; rfl, fun s hs => ?_⟩⟩
      rcases List.mem_append.mp hs with z | z
      · exact hT s z
      · rw [List.mem_singleton.mp z]; exact ⟨a, b, cc, dd⟩
    · rw [rngD_len] at hl
      rw [sset_sset, e]
      have b1 := qpls_bound (k := lkN lw + 1) ts fun t ht => by have := (hT t ht).2.2.2; omega
      have b2 := qdeps_bound (k := lw) ts fun t ht => (hT t ht).2.1
      have b3 : ts.length * lkN lw ≤ 4 * lkN lw := Nat.mul_le_mul_right _ (by omega)
      rw [Nat.mul_add, Nat.mul_one] at b1
      refine ⟨_, .lst _, by rw [qDs_len]; omega, ret_same (h (.look p ts) c3 ⟨hp100, hl, qoks_iff.mpr fun t ht => (hT t ht).1⟩ (by rw [qDep]; omega) (fun q hq => ?_) (by rw [qPl, List.length_cons, lkN]; omega) sc)⟩
      rw [qPl] at hq
      rcases List.mem_cons.mp hq with z | z
      · rw [z, ← hpi]; exact List.getElem_mem _
      · obtain ⟨t, ht, hq2⟩ := qpls_mem.mp z
        exact (hT t ht).2.2.1 q hq2
/-- what the law says of a row: its head and its cycle -/
def sdR (r : Rw) : D := .lst [.tup (r.h.map .int), .tup (r.c.map .int)]
def c__law_endless : Con := fun ds μ Φ _ => ∃ (st : Addr) (ns : List Int) (c : List D) (ws : List Int), ds = [.hd (.ref st), .tup (ws.map .int)] ∧ μ st = some (.lst c) ∧ StC ns c ∧ WsOk ws ∧ ∀ r c', RwOk r → RFit ws r → StC ns c' → Φ (sdR r) (sset μ st (.lst c'))
theorem len__law_endless {ds μ Φ Ψ} (h : c__law_endless ds μ Φ Ψ) : ds.length = 2 := by obtain ⟨_, _, _, _, rfl, _⟩ := h; rfl
theorem wd_turn {ws : List Int} {m j : Nat} : wd ws (m + j % (2 * ws.length)) = wd ws (m + j) := by
  unfold wd
  have : (m + j % (2 * ws.length)) % ws.length = (m + j) % ws.length := by
    rw [Nat.add_mod, Nat.add_mod m j]
    congr 2
    exact Nat.mod_mod_of_dvd _ ⟨2, Nat.mul_comm _ _⟩
  rw [this]
theorem row_fit {ws h c : List Int} (hw : WsOk ws) (hc : c.length = 2 * ws.length) (hh : ∀ (i : Nat) (q : i < h.length), 0 ≤ h[i] ∧ h[i] < (wd ws i : Int)) (hcc : ∀ (j : Nat) (q : j < c.length), 0 ≤ c[j] ∧ c[j] < (wd ws (h.length + j) : Int)) (h1 : h.length ≤ 1000) : RwOk ⟨h, c⟩ ∧ RFit ws ⟨h, c⟩ := by
  have h0 := hw.l0
  have h6 := hw.l1
  refine ⟨⟨fun z => by have z : c = [] := z; rw [z] at hc; simp at hc; omega, h1, by show c.length ≤ 1000; omega, fun x hx => ?_, fun x hx => ?_⟩, fun p => ?_⟩
  · obtain ⟨i, hi, rfl⟩ := List.mem_iff_getElem.mp hx; exact (hh i hi).1
  · obtain ⟨i, hi, rfl⟩ := List.mem_iff_getElem.mp hx; exact (hcc i hi).1
  · unfold ent
    by_cases z : p < h.length
    · show (if p < h.length then h.getD p 0 else _) < _
      rw [if_pos z, List.getD_eq_getElem?_getD, List.getElem?_eq_getElem z]
      exact (hh p z).2
    · show (if p < h.length then _ else cyc c (p - h.length)) < _
      rw [if_neg z]
      unfold cyc
      have q : (p - h.length) % c.length < c.length := Nat.mod_lt _ (by omega)
      rw [List.getD_eq_getElem?_getD, List.getElem?_eq_getElem q]
      have e : wd ws (h.length + (p - h.length) % c.length) = wd ws p := by rw [hc, wd_turn, show h.length + (p - h.length) = p by omega]
      rw [← e]
      exact (hcc _ q).2
theorem ok__law_endless {cx : CXT} (T : Txt P w K mg) : FnOk P w K mg base cx 2 T.f__law_endless T.d__law_endless ["_law_state", "_law_widths_here"] (spOf K c__law_endless) := by
  refine def_okC T.F__law_endless sc__law_endless _ (fun ds μ Φ Ψ h => len__law_endless h) (fun cdv A outer s H E B hW hr =>
    ⟨_, (pss_cons (ps_set (i := 2) sc__law_endless.nd rfl (Or.inr rfl) (pe_call (ok__law_pick T) hr rfl T.g__law_pick T.F__law_pick.kp T.b__law_pick .nil passN (pa_cons (pv 0) (pa_cons pe_int pa_nil))))
      (pss_cons (ps_setLc (i := 3) (own := [("_law_p", 4)]) rfl sc__law_endless.nd rfl rfl (sw_true rfl rfl rfl (by decide +kernel)) (pi_range1 rfl T.z_range (pa_cons (pv 2) pa_nil)) (blkOk_by (N := N__law_endless) (sc := defScope s__law_endless) (by decide +kernel)) (fun _ _ _ _ _ => (pg_name (i := 4) sc__law_endless.nd rfl (Or.inl rfl))) (fun _ _ _ _ _ => pts_nil) (fun _ _ _ _ _ => (pe_call (ok__law_pick T) hr rfl T.g__law_pick T.F__law_pick.kp T.b__law_pick .nil passN (pa_cons (pv 0) (pa_cons (pe_call (ok__law_width T) hr rfl T.g__law_width T.F__law_width.kp T.b__law_width .nil passN (pa_cons (pv 1) (pa_cons (pv 4) pa_nil))) pa_nil)))))
      (pss_one (ps_ret (pe_lst (pa_cons (pe_callTy call_tupleN (by rfl) T.z_tuple (by decide +kernel) (pa_cons (pv 3) pa_nil)) (pa_cons (pe_callTy call_tupleN (by rfl) T.z_tuple (by decide +kernel) (pa_cons (pe_lc (own := [("_law_j", 5)]) rfl sc__law_endless.nd (pi_range1 rfl T.z_range (pa_cons (pe_op op_mulX pe_int (pe_callB call_len_seq (by rfl) T.z_len PySem.boot_len (pa_cons (pv 1) pa_nil))) pa_nil)) (blkOk_by (N := N__law_endless) (sc := defScope s__law_endless) (by decide +kernel)) (fun _ _ _ _ _ => (pg_name (i := 5) sc__law_endless.nd rfl (Or.inl rfl))) (fun _ _ _ _ _ => pts_nil) (fun _ _ _ _ _ => (pe_call (ok__law_pick T) hr rfl T.g__law_pick T.F__law_pick.kp T.b__law_pick .nil passN (pa_cons (pv 0) (pa_cons (pe_call (ok__law_width T) hr rfl T.g__law_width T.F__law_width.kp T.b__law_width .nil passN (pa_cons (pv 1) (pa_cons (pe_op op_add (pv 2) (pv 5)) pa_nil))) pa_nil))))) pa_nil)) pa_nil))))))),
      (sSeq (sAsg (sCall (sCons sVar (sCons sInt sNil))) sName)
      (sSeq (sAsg (sLc (siR1 sVar) (gwName List.mem_cons_self) (fun _ _ _ => sName) (fun _ _ _ => sYes) (fun _ _ _ => (sCall (sCons sVar (sCons (sCall (sCons sVar (sCons sVar sNil))) sNil))))) sName)
      (sRet (sLst (sCons (sCB rcTuple (sCons sVar sNil)) (sCons (sCB rcTuple (sCons (sLc (siR1 (sOp roInt sInt (sCB rcLen (sCons sVar sNil)))) (gwName List.mem_cons_self) (fun _ _ _ => sName) (fun _ _ _ => sYes) (fun _ _ _ => (sCall (sCons sVar (sCons (sCall (sCons sVar (sCons (sOp roInt0 sVar sVar) sNil))) sNil))))) sNil)) sNil))))))⟩) (fun ds μ Φ Ψ h => ?hv)
  case hv =>
    obtain ⟨st, ns, c, ws, rfl, hc, sc, hw, h⟩ := h
    have h0 := hw.l0
    have h6 := hw.l1
    refine seq_cut fun M hM => ?_
    walk_at "wp"
    refine ⟨st, ns, c, 6, rfl, hc, sc, by decide, by decide, fun y c1 y0 y1 sc => ?_⟩
    obtain ⟨m, rfl⟩ : ∃ m : Nat, y = (m : Int) := ⟨y.toNat, by omega⟩
    rw [hM]; clear hM M
    refine seq_cut fun M hM => ?_
    walk_at "wp"
    refine ⟨by omega, by omega, lcP (fun i y => 0 ≤ y ∧ y < (wd ws i : Int)) (by omega) sset_same sc (fun i μ2 X c7 hi hs7 sc7 hx7 => ?_) (fun l c7 hl hP sc => ?_)⟩
    · have hw1 := hw.wd1 i
      walk_at "wps"
      exact ⟨ws, i, rfl, hw, st, ns, c7, wd ws i, rfl, hs7, sc7, by omega, log_small (by omega), fun y c8 y0 y1 sc8 => hx7 _ c8 sc8 ⟨y0, y1⟩⟩
    rw [sset_sset]
    rw [hM]; clear hM M
    walk_at "wps"
    refine ⟨mulx 3 4 (by omega) (by omega) (by decide), by omega, by omega, ?_⟩
    rw [show (2 * (ws.length : Int)).toNat = 2 * ws.length by omega]
    refine lcP (fun j y => 0 ≤ y ∧ y < (wd ws (m + j) : Int)) (by omega) sset_same sc (fun i μ2 X c8 hi hs8 sc8 hx8 => ?_) (fun l2 c8 hl2 hP2 sc => ?_)
    · have hw1 := hw.wd1 (m + i)
      walk_at "wps"
      exact ⟨ws, m + i, rfl, hw, st, ns, c8, wd ws (m + i), rfl, hs8, sc8, by omega, log_small (by omega), fun y c9 y0 y1 sc9 => hx8 _ c9 sc9 ⟨y0, y1⟩⟩
    · rw [sset_sset]
      obtain ⟨a, b⟩ := row_fit hw hl2 hP (by rw [hl]; exact hP2) (by omega)
      exact ⟨_, .lst _, by omega, ret_same (h ⟨l, l2⟩ c8 a b sc)⟩
def c__law_endless_entry : Con := fun ds μ Φ _ => ∃ (r : Rw) (p : Nat), ds = [sdR r, .int (p : Int)] ∧ RwOk r ∧ Φ (.int (ent r p)) μ
theorem len__law_endless_entry {ds μ Φ Ψ} (h : c__law_endless_entry ds μ Φ Ψ) : ds.length = 2 := by obtain ⟨_, _, rfl, _⟩ := h; rfl
theorem ok__law_endless_entry {cx : CXT} (T : Txt P w K mg) : FnOk P w K mg base cx 1 T.f__law_endless_entry T.d__law_endless_entry ["_law_row", "_law_place"] (spOf K c__law_endless_entry) := by
  refine def_okC T.F__law_endless_entry sc__law_endless_entry _ (fun ds μ Φ Ψ h => len__law_endless_entry h) (fun cdv A outer s H E B hW hr =>
    ⟨_, (pss_cons (ps_if (pt_cmpR op_lt (pv 1) (pe_callB call_len_seq (by rfl) T.z_len PySem.boot_len (pa_cons (pe_ix ix_list (pv 0) pe_int (fun _ _ => rfl)) pa_nil)) (nomark _)) (pss_one (ps_ret (pe_ix ix_tup (pe_ix ix_list (pv 0) pe_int (fun _ _ => rfl)) (pv 1) (fun _ _ => rfl)))) pss_nil)
      (pss_one (ps_ret (pe_ix ix_tup (pe_ix ix_list (pv 0) pe_int (fun _ _ => rfl)) (pe_op op_mod (pe_callTy call_int1 (by rfl) T.z_int (by decide +kernel) (pa_cons (pe_op op_sub (pv 1) (pe_callB call_len_seq (by rfl) T.z_len PySem.boot_len (pa_cons (pe_ix ix_list (pv 0) pe_int (fun _ _ => rfl)) pa_nil))) pa_nil)) (pe_callB call_len_seq (by rfl) T.z_len PySem.boot_len (pa_cons (pe_ix ix_list (pv 0) pe_int (fun _ _ => rfl)) pa_nil))) (fun _ _ => rfl))))),
      (sSeq (sIfS (sTest (sOp roBl0 sVar (sCB rcLen (sCons (sOp roIxL sVar sInt) sNil)))) (sRet (sOp roIxT (sOp roIxL sVar sInt) sVar)) sNext)
      (sRet (sOp roIxT (sOp roIxL sVar sInt) (sOp roInt (sCB rcInt (sCons (sOp roInt0 sVar (sCB rcLen (sCons (sOp roIxL sVar sInt) sNil))) sNil)) (sCB rcLen (sCons (sOp roIxL sVar sInt) sNil))))))⟩) (fun ds μ Φ Ψ h => ?hv)
  case hv =>
    obtain ⟨r, n, rfl, hr, h2⟩ := h
    have hcn : 0 < r.c.length := List.length_pos_iff.mpr hr.c0
    unfold sdR
    refine seq_cut fun M hM => ?_
    walk_at "wp"
    refine ⟨fun q => ⟨_, atI_nat (v := .int (ent r n)) ?_, ret_same h2⟩, fun q => ?_⟩
    · have hn : n < r.h.length := by omega
      rw [List.getElem?_map, List.getElem?_eq_getElem hn]
      unfold ent
      rw [if_pos hn, List.getD_eq_getElem?_getD, List.getElem?_eq_getElem hn]; rfl
    · have hn : ¬ n < r.h.length := by omega
      have hm := Nat.mod_lt (n - r.h.length) hcn
      rw [hM]; clear hM M
      walk_at "wps"
      have em : ((n : Int) - (r.h.length : Int)) % (r.c.length : Int) = (((n - r.h.length) % r.c.length : Nat) : Int) := by
        rw [show (n : Int) - (r.h.length : Int) = ((n - r.h.length : Nat) : Int) by omega]; rfl
      rw [em]
      refine ⟨by omega, _, atI_nat (v := .int (ent r n)) ?_, ret_same h2⟩
      rw [List.getElem?_map, self_at hm]
      unfold ent
      rw [if_neg hn, cyc_mod]; rfl
end
section
variable {P : Program} {w : World} {K : Fg} {mg : Str → Option Value} {base : Heap}
section
variable {P : Program} {w : World} {K : Fg} {mg : Str → Option Value} {base : Heap}
theorem okN__law_query_term (T : Txt P w K mg) : ∀ n, FnOk P w K mg base (L2N.CX P w) (2 + n) T.f__law_query_term T.d__law_query_term ["_law_state", "_law_size", "_law_places", "_law_levels"] (spOf K (c__law_query_term n))
  | 0 => fn_never fun ds μ Φ Ψ h => by obtain ⟨_, _, _, _, _, _, _, _, _, _, _, _, _, _, _, _, h, _⟩ := h; omega
  | n + 1 => step__law_query_term T (k := 2 + n) (by omega) n (okN__law_query_term T n)
theorem ok__law_query_term (T : Txt P w K mg) : FnOk P w K mg base (L2N.CX P w) 8 T.f__law_query_term T.d__law_query_term ["_law_state", "_law_size", "_law_places", "_law_levels"] (spOf K (c__law_query_term 6)) := okN__law_query_term T 6
end
def szD (ws : List Int) (oc : Nat) : D := .lst [.tup (ws.map .int), .int (oc : Int)]
theorem lkN_3 {n : Nat} (h : n ≤ 3) : lkN n ≤ 21 := by
  rcases (show n = 0 ∨ n = 1 ∨ n = 2 ∨ n = 3 by omega) with rfl | rfl | rfl | rfl <;> simp [lkN]
def c__law_small_term : Con := fun ds μ Φ _ => ∃ (st : Addr) (ns : List Int) (c : List D) (ws : List Int) (oc : Nat) (ps : List Nat), ds = [.hd (.ref st), szD ws oc, .lst (nI ps)] ∧ μ st = some (.lst c) ∧ StC ns c ∧ WsOk ws ∧ 1 ≤ oc ∧ oc ≤ 4 ∧ ps ≠ [] ∧ ps.length ≤ 8 ∧ (∀ p ∈ ps, p < 100) ∧
  ∀ t c', QOk ws oc t → qDep t ≤ 3 → (∀ q ∈ qPl t, q ∈ ps) → (qPl t).length ≤ 21 → StC ns c' → Φ (qD t) (sset μ st (.lst c'))
theorem len__law_small_term {ds μ Φ Ψ} (h : c__law_small_term ds μ Φ Ψ) : ds.length = 3 := by obtain ⟨_, _, _, _, _, _, rfl, _⟩ := h; rfl
theorem ok__law_small_term (T : Txt P w K mg) : FnOk P w K mg base (L2N.CX P w) 9 T.f__law_small_term T.d__law_small_term ["_law_state", "_law_size", "_law_places"] (spOf K c__law_small_term) := by
  refine def_okC T.F__law_small_term sc__law_small_term _ (fun ds μ Φ Ψ h => len__law_small_term h) (fun cdv A outer s H E B hW hr =>
    have tk : L2N.Takes (cxOf (L2N.CX P w) P w K mg base N__law_small_term "_law_small_term" (defScope s__law_small_term) T.f__law_small_term cdv A outer s H E) (fun cls d _ H => E cls d H) := L2N.takes_of rfl rfl rfl rfl
    ⟨_, (pss_cons (ps_set (i := 3) sc__law_small_term.nd rfl (Or.inl rfl) (pe_ix ix_list (pe_lst (pa_cons pe_int (pa_cons pe_int (pa_cons pe_int (pa_cons pe_int (pa_cons pe_int pa_nil)))))) (pe_call (ok__law_pick T) (hr.mono (by decide)) rfl T.g__law_pick T.F__law_pick.kp T.b__law_pick .nil passN (pa_cons (pv 0) (pa_cons pe_int pa_nil))) (fun _ _ => rfl)))
      (pss_cons (ps_if (pt_cmpR op_gt (pe_callB (cr_maxT rfl hr) (by rfl) T.z_max (by decide +kernel) (pa_cons (pe_ix ix_list (pv 1) pe_int (fun _ _ => rfl)) pa_nil)) pe_int (nomark _)) (pss_one (ps_set (i := 3) sc__law_small_term.nd rfl (Or.inl rfl) (pe_callB (call_min2 rfl) (by rfl) T.z_min (by decide +kernel) (pa_cons (pv 3) (pa_cons pe_int pa_nil))))) pss_nil)
      (pss_one (ps_ret (pe_call (ok__law_query_term T) hr rfl T.g__law_query_term T.F__law_query_term.kp T.b__law_query_term .nil passN (pa_cons (pv 0) (pa_cons (pv 1) (pa_cons (pv 2) (pa_cons (pv 3) pa_nil))))))))),
      (sSeq (sAsg (sOp roIxL (sLst (sCons sInt (sCons sInt (sCons sInt (sCons sInt (sCons sInt sNil)))))) (sCall (sCons sVar (sCons sInt sNil)))) sName)
      (sSeq (sIfS (sTest (sOp roBl0 (sCB rcMaxT (sCons (sOp roIxL sVar sInt) sNil)) sInt)) (sAsg (sCB rcMin2 (sCons sVar (sCons sInt sNil))) sName) sNext)
      (sRet (sCall (sCons sVar (sCons sVar (sCons sVar (sCons sVar sNil))))))))⟩) (fun ds μ Φ Ψ h => ?hv)
  case hv =>
    obtain ⟨st, ns, c, ws, oc, ps, rfl, hc, sc, hw, o1, o4, hne, h8, h100, h⟩ := h
    refine seq_cut fun M hM => ?_
    walk_at "wp"
    refine ⟨by decide, st, ns, c, 5, rfl, hc, sc, by decide, by decide, fun y c1 y0 y1 sc => ?_⟩
    obtain ⟨l, hl, l3⟩ : ∃ l : Nat, atI [D.int 0, D.int 1, D.int 2, D.int 2, D.int 3] y = some (.int (l : Int)) ∧ l ≤ 3 := by
      obtain ⟨q, rfl⟩ : ∃ q : Nat, y = (q : Int) := ⟨y.toNat, by omega⟩
      rcases (show q = 0 ∨ q = 1 ∨ q = 2 ∨ q = 3 ∨ q = 4 by omega) with rfl | rfl | rfl | rfl | rfl
      · exact ⟨0, atI_nat (j := 0) rfl, by decide⟩
      · exact ⟨1, atI_nat (j := 1) rfl, by decide⟩
      · exact ⟨2, atI_nat (j := 2) rfl, by decide⟩
      · exact ⟨2, atI_nat (j := 3) rfl, by decide⟩
      · exact ⟨3, atI_nat (j := 4) rfl, by decide⟩
    walk_at "wp"
    refine ⟨_, hl, ?_⟩
    rw [hM]; clear hM M
    refine seq_cut fun M hM => ?_
    unfold szD
    walk_at "wp"
    have fin : ∀ m : Nat, m ≤ 3 → M [some (.hd (.ref st)), some (.lst [.tup (ws.map .int), .int (oc : Int)]), some (.lst (nI ps)), some (.int (m : Int))] (sset μ st (.lst c1)) := fun m hm => by
      rw [hM]
      walk_at "wps"
      refine ⟨st, ns, c1, ws, oc, m, ps, rfl, sset_same, sc, hw, o1, o4, hne, h8, h100, by omega, by omega, fun t c2 a b cc dd sc2 => ?_⟩
      rw [sset_sset]
      exact ret_same (h t c2 a (by omega) cc (by have := lkN_3 hm; omega) sc2)
    have h0 := hw.l0
    refine w_maxT ⟨fun z => by rw [z] at h0; simp at h0, fun m hm hmax => ?_⟩
    walk_at "wp"
    refine ⟨fun q => ?_, fun q => fin l l3⟩
    rw [show (if 2 < (l : Int) then 2 else (l : Int)) = ((min l 2 : Nat) : Int) by split <;> omega]
    exact fin _ (by omega)
/-- so many looks at most -/
def c__law_chain : Con := fun ds μ Φ _ => ∃ (st : Addr) (ns : List Int) (c : List D) (ws : List Int) (oc lv : Nat) (ps : List Nat), ds = [.hd (.ref st), szD ws oc, .lst (nI ps), .int (lv : Int)] ∧ μ st = some (.lst c) ∧ StC ns c ∧ WsOk ws ∧ 1 ≤ oc ∧ oc ≤ 4 ∧ ps ≠ [] ∧ ps.length ≤ 100 ∧ (∀ p ∈ ps, p < 100) ∧ lv ≤ 20 ∧
  ∀ t c', QOk ws oc t → qDep t ≤ lv → (∀ q ∈ qPl t, q ∈ ps) → (qPl t).length ≤ lv → StC ns c' → Φ (qD t) (sset μ st (.lst c'))
theorem len__law_chain {ds μ Φ Ψ} (h : c__law_chain ds μ Φ Ψ) : ds.length = 4 := by obtain ⟨_, _, _, _, _, _, _, rfl, _⟩ := h; rfl
theorem chain_set {os : List Nat} {i : Nat} {t : QT} (hi : i < os.length) : (qDs (tellsQ os)).set i (qD t) = qDs ((tellsQ os).set i t) := by
  rw [qDs_map, qDs_map, List.map_set]
theorem ixN_nat {n q : Nat} (h : q < n) : ixN n (q : Int) = some q := by
  unfold ixN
  simp
  omega
theorem qpls_tells : ∀ os : List Nat, qPl.qPls (tellsQ os) = []
  | [] => rfl
  | o :: os => by
    show qPl.qPls (.tell o :: tellsQ os) = []
    rw [qPl.qPls, qpls_tells os]; rfl
theorem chain_pls : ∀ (os : List Nat) (i : Nat) (t : QT), i < os.length → qPl.qPls ((tellsQ os).set i t) = qPl t
  | o :: os, 0, t, _ => by
    show qPl.qPls (t :: tellsQ os) = _
    rw [qPl.qPls, qpls_tells, List.append_nil]
  | o :: os, i + 1, t, h => by
    show qPl.qPls (.tell o :: (tellsQ os).set i t) = _
    rw [qPl.qPls, chain_pls os i t (by simpa using h)]; rfl
theorem chain_deps : ∀ (os : List Nat) (i : Nat) (t : QT), qDep.qDeps ((tellsQ os).set i t) ≤ qDep t
  | [], i, t => by show qDep.qDeps [] ≤ _; rw [qDep.qDeps]; omega
  | o :: os, 0, t => by
    show qDep.qDeps (t :: tellsQ os) ≤ _
    rw [qDep.qDeps]
    have : ∀ os : List Nat, qDep.qDeps (tellsQ os) = 0 := fun os => by
      induction os with
      | nil => rfl
      | cons o os ih => show qDep.qDeps (.tell o :: tellsQ os) = 0; rw [qDep.qDeps, ih]; rfl
    rw [this]; omega
  | o :: os, i + 1, t => by
    show qDep.qDeps (.tell o :: (tellsQ os).set i t) ≤ _
    rw [qDep.qDeps]
    have := chain_deps os i t
    have e : qDep (.tell o) = 0 := by rw [qDep]
    omega
theorem lcTells {Ψ : XP} {Φ : DK} {n : Nat} {φ : DE} {δw : DEnv} {μ1 : Sto} {m oc : Nat} {st : Addr} {ns : List Int} {c : List D} (hm : m ≤ 1000) (hst : μ1 st = some (.lst c)) (h0 : StC ns c)
    (hs : ∀ (i : Nat) (μ2 : Sto) (X : DK) (c : List D), i < m → μ2 st = some (.lst c) → StC ns c → (∀ (o : Nat) c', StC ns c' → o < oc → X (.tup [.str "tell", .int (o : Int)]) (sset μ2 st (.lst c'))) → φ Ψ (δw.set n (some (.int (i : Int)))) μ2 X)
    (hd : ∀ (os : List Nat) c, os.length = m → (∀ o ∈ os, o < oc) → StC ns c → Φ (.lst (qDs (tellsQ os))) (sset μ1 st (.lst c))) : LcG (eName n) dYes φ δw Ψ (rngD 0 m) μ1 Φ := by
  refine lcG_drawN (StC ns) (fun i acc => ∃ os : List Nat, acc = qDs (tellsQ os) ∧ os.length = i ∧ ∀ o ∈ os, o < oc) (by rw [rngD_len]; omega) hst h0 ⟨[], rfl, rfl, by simp⟩ (fun i d μ2 X acc c2 hi hs2 sc ⟨os, e, hl, hP⟩ hla hx => ?_) (fun acc c2 ⟨os, e, hl, hP⟩ hla sc => ?_)
  · obtain ⟨hj, rfl⟩ := rngD_get hi
    rw [Int.zero_add]
    refine hs i μ2 X c2 hj hs2 sc fun o c' sc' ho => hx _ c' sc' ⟨os ++ [o], by rw [e, tellsQ_D, tellsQ_D, List.map_append]; rfl, by rw [List.length_append, hl]; rfl, fun x hx => ?_⟩
    rcases List.mem_append.mp hx with z | z
    · exact hP x z
    · rw [List.mem_singleton.mp z]; exact ho
  · rw [rngD_len] at hl
    rw [e]
    exact hd os c2 hl hP sc
theorem ok__law_chain {cx : CXT} (T : Txt P w K mg) : FnOk P w K mg base cx 2 T.f__law_chain T.d__law_chain ["_law_state", "_law_size", "_law_places", "_law_levels"] (spOf K c__law_chain) := by
  refine def_okC T.F__law_chain sc__law_chain _ (fun ds μ Φ Ψ h => len__law_chain h) (fun cdv A outer s H E B hW hr =>
    ⟨_, (pss_cons (ps_set (i := 4) sc__law_chain.nd rfl (Or.inl rfl) (pe_tupN (pa_cons pe_str (pa_cons (pe_call (ok__law_pick T) hr rfl T.g__law_pick T.F__law_pick.kp T.b__law_pick .nil passN (pa_cons (pv 0) (pa_cons (pe_ix ix_list (pv 1) pe_int (fun _ _ => rfl)) pa_nil))) pa_nil))))
      (pss_cons (ps_for (passes_of rfl) rfl (pi_range1 rfl T.z_range (pa_cons (pv 3) pa_nil)) (pg_name (i := 5) sc__law_chain.nd rfl (Or.inl rfl)) (pss_cons (ps_set (i := 6) sc__law_chain.nd rfl (Or.inl rfl) (pe_ix ix_list (pv 2) (pe_op op_mod (pe_callTy call_int1 (by rfl) T.z_int (by decide +kernel) (pa_cons (pv 5) pa_nil)) (pe_callB call_len_seq (by rfl) T.z_len PySem.boot_len (pa_cons (pv 2) pa_nil))) (fun _ _ => rfl)))
      (pss_cons (ps_set (i := 7) sc__law_chain.nd rfl (Or.inl rfl) (pe_call (ok__law_width T) hr rfl T.g__law_width T.F__law_width.kp T.b__law_width .nil passN (pa_cons (pe_ix ix_list (pv 1) pe_int (fun _ _ => rfl)) (pa_cons (pv 6) pa_nil))))
      (pss_cons (ps_setLc (i := 8) (own := [("_law_x", 9)]) rfl sc__law_chain.nd rfl rfl (sw_true rfl rfl rfl (by decide +kernel)) (pi_range1 rfl T.z_range (pa_cons (pv 7) pa_nil)) (blkOk_by (N := N__law_chain) (sc := defScope s__law_chain) (by decide +kernel)) (fun _ _ _ _ _ => (pg_name (i := 9) sc__law_chain.nd rfl (Or.inl rfl))) (fun _ _ _ _ _ => pts_nil) (fun _ _ _ _ _ => (pe_tupN (pa_cons pe_str (pa_cons (pe_call (ok__law_pick T) hr rfl T.g__law_pick T.F__law_pick.kp T.b__law_pick .nil passN (pa_cons (pv 0) (pa_cons (pe_ix ix_list (pv 1) pe_int (fun _ _ => rfl)) pa_nil))) pa_nil)))))
      (pss_cons (ps_asg (pv 4) (pg_sub (pv 8) (pe_call (ok__law_pick T) hr rfl T.g__law_pick T.F__law_pick.kp T.b__law_pick .nil passN (pa_cons (pv 0) (pa_cons (pv 7) pa_nil))) set_list))
      (pss_one (ps_set (i := 4) sc__law_chain.nd rfl (Or.inl rfl) (pe_op op_catN (pe_tupN (pa_cons pe_str (pa_cons (pv 6) pa_nil))) (pe_callTy call_tupleN (by rfl) T.z_tuple (by decide +kernel) (pa_cons (pv 8) pa_nil))))))))))
      (pss_one (ps_ret (pv 4))))),
      (sSeq (sAsg (sTup (sCons sStr (sCons (sCall (sCons sVar (sCons (sOp roIxL sVar sInt) sNil))) sNil))) sName)
      (sSeq (sFor (siR1 sVar) (fun _ _ _ => sName) (fun _ _ _ => (sSeq (sAsg (sOp roIxL sVar (sOp roInt (sCB rcInt (sCons sVar sNil)) (sCB rcLen (sCons sVar sNil)))) sName)
      (sSeq (sAsg (sCall (sCons (sOp roIxL sVar sInt) (sCons sVar sNil))) sName)
      (sSeq (sAsg (sLcO (siR1 sVar) (gwName List.mem_cons_self) (fun _ _ _ => sName) (fun _ _ _ => sYes) (fun _ _ _ => (sTup (sCons sStr (sCons (sCall (sCons sVar (sCons (sOp roIxL sVar sInt) sNil))) sNil))))) sName)
      (sSeq (sAsgS sVar sVar (sCall (sCons sVar (sCons sVar sNil))))
      (sAsg (sOp roCatT (sTup (sCons sStr (sCons sVar sNil))) (sCB rcTuple (sCons sVar sNil))) sName)))))))
      (sRet sVar)))⟩) (fun ds μ Φ Ψ h => ?hv)
  case hv =>
    obtain ⟨st, ns, c, ws, oc, lv, ps, rfl, hc, sc, hw, o1, o4, hne, h8, h100, h20, h⟩ := h
    have hpl : 0 < ps.length := List.length_pos_iff.mpr hne
    unfold szD
    refine seq_cut fun M hM => ?_
    walk_at "wp"
    refine ⟨st, ns, c, oc, rfl, hc, sc, by omega, log_small (by omega), fun y c1 y0 y1 sc => ?_⟩
    obtain ⟨o, rfl⟩ : ∃ o : Nat, y = (o : Int) := ⟨y.toNat, by omega⟩
    walk_at "wp"
    refine ⟨by decide, ?_⟩
    rw [hM]; clear hM M
    walk_at "wps"
    refine ⟨by omega, by omega, fun i δ' μ' => ∃ (t : QT) (c' : List D) (x1 x2 x3 x4 x5 : Option D), δ' = [some (.hd (.ref st)), some (.lst [.tup (ws.map .int), .int (oc : Int)]), some (.lst (nI ps)), some (.int (lv : Int)), some (qD t), x1, x2, x3, x4, x5] ∧ μ' st = some (.lst c') ∧ (∀ a, a ≠ st → μ a ≠ none → μ' a = μ a) ∧ StC ns c' ∧ QOk ws oc t ∧ qDep t ≤ i ∧ (∀ q ∈ qPl t, q ∈ ps) ∧ (qPl t).length ≤ i, ?_, ?_, ?_⟩
    · exact ⟨.tell o, c1, none, none, none, none, none, rfl, sset_same, fun a a1 _ => sset_ne a1, sc, show o < oc by omega, Nat.le_refl _, fun q z => by simp [qPl] at z, Nat.le_refl _⟩
    · rintro i d δ' μ' hi ⟨t, c2, x1, x2, x3, x4, x5, rfl, w1, w2, sc, w3, w4, w5, w6⟩
      obtain ⟨hj, rfl⟩ := rngD_get hi
      have hm : i % ps.length < ps.length := Nat.mod_lt _ hpl
      have em : ((0 + (i : Nat) : Int)) % (ps.length : Int) = ((i % ps.length : Nat) : Int) := by rw [Int.zero_add]; rfl
      walk_at "wps"
      rw [nI_len]
      have em : (i : Int) % (ps.length : Int) = ((i % ps.length : Nat) : Int) := rfl
      rw [em]
      have hp100 := h100 _ (List.getElem_mem hm)
      have hpin := List.getElem_mem hm
      refine ⟨by omega, _, atI_nat (v := .int ((ps[i % ps.length] : Nat) : Int)) (by unfold nI; rw [List.getElem?_map, List.getElem?_eq_getElem hm]; rfl), ?_⟩
      generalize ps[i % ps.length] = p at *
      have hw1 := hw.wd1 p
      refine ⟨ws, p, rfl, hw, ?_⟩
      walk_at "wps"
      refine ⟨by omega, by omega, lcTells (m := wd ws p) (ns := ns) (oc := oc) (by omega) w1 sc (fun j μ2 X c7 hj hs7 sc7 hx7 => ?_) (fun os c7 hl hP sc => own_k fun pb hpb => ?_)⟩
      · walk_at "wps"
        refine ⟨st, ns, c7, oc, rfl, hs7, sc7, by omega, log_small (by omega), fun y c8 y0 y1 sc8 => ?_⟩
        obtain ⟨o2, rfl⟩ : ∃ o : Nat, y = (o : Int) := ⟨y.toNat, by omega⟩
        exact ⟨by decide, hx7 o2 c8 sc8 (by omega)⟩
      have hpbs : pb ≠ st := fun z => by rw [z, sset_same] at hpb; cases hpb
      have hpb0 : μ pb = none := Classical.byContradiction fun z => by
        rw [sset_ne hpbs, w2 pb hpbs z] at hpb
        exact z hpb
      refine ⟨st, ns, c7, wd ws p, rfl, by rw [sset_ne hpbs.symm, sset_same], sc, by omega, log_small (by omega), fun y c8 y0 y1 sc => ?_⟩
      obtain ⟨q, rfl⟩ : ∃ q : Nat, y = (q : Int) := ⟨y.toNat, by omega⟩
      have hq : q < os.length := by omega
      have hlt : (qDs (tellsQ os)).length = os.length := by rw [qDs_len]; unfold tellsQ; rw [List.length_map]
      refine ⟨pb, qDs (tellsQ os), q, q, rfl, rfl, by rw [sset_ne hpbs, sset_same], ixN_nat (by omega), by decide, _, .own sset_same, by rw [List.length_set]; omega, ?_⟩
      rw [chain_set hq]
      have hl2 : ((tellsQ os).set q t).length = wd ws p := by rw [List.length_set]; unfold tellsQ; rw [List.length_map]; exact hl
      refine ⟨.look p ((tellsQ os).set q t), c8, _, _, _, _, _, rfl, by rw [sset_ne hpbs.symm, sset_same], fun a a1 a2 => ?_, sc, ⟨hp100, hl2, qoks_iff.mpr fun u hu => ?_⟩, ?_, fun r hr => ?_, ?_⟩
      · have ap : a ≠ pb := fun z => a2 (by rw [z, hpb0])
        rw [sset_ne ap, sset_ne a1, sset_ne ap, sset_ne a1, w2 a a1 a2]
      · rcases List.mem_or_eq_of_mem_set hu with z | z
        · unfold tellsQ at z
          obtain ⟨o3, ho3, rfl⟩ := List.mem_map.mp z
          exact hP o3 ho3
        · rw [z]; exact w3
      · rw [qDep]
        have := chain_deps os q t
        omega
      · rw [qPl, chain_pls os q t hq] at hr
        rcases List.mem_cons.mp hr with z | z
        · rw [z]; exact hpin
        · exact w5 r z
      · rw [qPl, chain_pls os q t hq, List.length_cons]
        omega
    · rintro δ' μ' ⟨t, c2, x1, x2, x3, x4, x5, rfl, w1, w2, sc, w3, w4, w5, w6⟩
      walk_at "wps"
      refine ⟨sset μ st (.lst c2), fun a x e => ?_, h t c2 w3 w4 w5 w6 sc⟩
      by_cases as : a = st
      · subst as
        rw [sset_same] at e
        cases e
        exact w1
      · rw [sset_ne as] at e
        rw [w2 a as (by rw [e]; nofun), e]
theorem cut_look (p : Int) (xs : List D) : DW.cutD (D.str "look" :: D.int p :: xs) (some 2) none = xs := by rw [show (2 : Int) = ((2 : Nat) : Int) from rfl, cut_from]; rfl
theorem cut_head (p : Int) (xs : List D) : DW.cutD (D.str "look" :: D.int p :: xs) none (some 2) = [D.str "look", D.int p] := by rw [show (2 : Int) = ((2 : Nat) : Int) from rfl, cut_to]; rfl
def c__law_replaced (n : Nat) : Con := fun ds μ Φ _ => ∃ (ws : List Int) (oc : Nat) (t : QT) (ss : List QT), ds = [qD t, .tup (qDs ss)] ∧ QOk ws oc t ∧ WsOk ws ∧ oc ≤ ss.length ∧ qDep t < n ∧ Φ (qD (qSub ss t)) μ
theorem len__law_replaced {n ds μ Φ Ψ} (h : c__law_replaced n ds μ Φ Ψ) : ds.length = 2 := by obtain ⟨_, _, _, _, rfl, _⟩ := h; rfl
theorem step__law_replaced (T : Txt P w K mg) {k : Nat} (hk : 2 ≤ k) (n : Nat) (ih__law_replaced : FnOk P w K mg base (L2N.CX P w) k T.f__law_replaced T.d__law_replaced ["_law_term", "_law_terms_here"] (spOf K (c__law_replaced n))) : FnOk P w K mg base (L2N.CX P w) (k + 1) T.f__law_replaced T.d__law_replaced ["_law_term", "_law_terms_here"] (spOf K (c__law_replaced (n + 1))) := by
  refine def_okC T.F__law_replaced sc__law_replaced _ (fun ds μ Φ Ψ h => len__law_replaced h) (fun cdv A outer s H E B hW hr =>
    have tk : L2N.Takes (cxOf (L2N.CX P w) P w K mg base N__law_replaced "_law_replaced" (defScope s__law_replaced) T.f__law_replaced cdv A outer s H E) (fun cls d _ H => E cls d H) := L2N.takes_of rfl rfl rfl rfl
    ⟨_, (pss_cons (ps_if (pt_cmpR op_eq (pe_ix ix_tup (pv 0) pe_int (fun _ _ => rfl)) pe_str (nomark _)) (pss_one (ps_ret (pe_ix ix_tup (pv 1) (pe_ix ix_tup (pv 0) pe_int (fun _ _ => rfl)) (fun _ _ => rfl)))) pss_nil)
      (pss_one (ps_ret (pe_op op_catN (pe_slice sl_tupN (pv 0) po_none (po_some pe_int)) (pe_callTy call_tupleN (by rfl) T.z_tuple (by decide +kernel) (pa_cons (pe_lc (own := [("_law_branch", 2)]) rfl sc__law_replaced.nd (pi_tup (pe_slice sl_tupN (pv 0) (po_some pe_int) po_none)) (blkOk_by (N := N__law_replaced) (sc := defScope s__law_replaced) (by decide +kernel)) (fun _ _ _ _ _ => (pg_name (i := 2) sc__law_replaced.nd rfl (Or.inl rfl))) (fun _ _ _ _ _ => pts_nil) (fun _ _ _ _ _ => (pe_call ih__law_replaced hr rfl T.g__law_replaced T.F__law_replaced.kp T.b__law_replaced .nil passN (pa_cons (pv 2) (pa_cons (pv 1) pa_nil))))) pa_nil)))))),
      (sSeq (sIfS (sTest (sOp roEq (sOp roIxT sVar sInt) sStr)) (sRet (sOp roIxT sVar (sOp roIxT sVar sInt))) sNext)
      (sRet (sOp roCatT (sSlT sVar sNoPart (sPart sInt)) (sCB rcTuple (sCons (sLc (siT (sSlT sVar (sPart sInt) sNoPart)) (gwName List.mem_cons_self) (fun _ _ _ => sName) (fun _ _ _ => sYes) (fun _ _ _ => (sCall (sCons sVar (sCons sVar sNil))))) sNil)))))⟩) (fun ds μ Φ Ψ h => ?hv)
  case hv =>
    obtain ⟨ws, oc, t, ss, rfl, ht, hw, hs, hn, h⟩ := h
    cases t with
    | tell x =>
      have hx : x < oc := ht
      rw [qD]
      refine seq_cut fun M hM => ?_
      walk_at "wp"
      rw [qSub_tell (by omega)] at h
      exact ⟨⟨_, qDs_idx (by omega), ret_same h⟩, fun z => absurd trivial z⟩
    | look p ts =>
      obtain ⟨hp, hlen, hts⟩ := ht
      rw [qoks_iff] at hts
      rw [qDep] at hn
      have hw1 := hw.wd1 p
      have e1 : (qDs ts).length = ts.length := qDs_len ts
      rw [qD]
      refine seq_cut fun M hM => ?_
      walk_at "wp"
      refine ⟨fun q => absurd q (by decide), fun _ => ?_⟩
      rw [hM]; clear hM M
      walk_at "wps"
      rw [cut_look, cut_head]
      refine lcG_mapN (fun i => qD (qSub ss (ts.getD i (.tell 0)))) (by rw [e1]; omega) (fun i d μ2 X hi hsub hx => ?_) ?_
      · obtain ⟨hil, rfl⟩ := qDs_get hi
        have hd := qdeps_le (List.getElem_mem hil)
        rw [List.getD_eq_getElem?_getD, List.getElem?_eq_getElem hil] at hx
        walk_at "wps"
        exact ⟨ws, oc, ts[i], ss, rfl, hts _ (List.getElem_mem hil), hw, hs, by omega, hx⟩
      · rw [e1, rangeQ (fun t => qD (qSub ss t)) ts]
        refine ⟨_, .lst _, by rw [List.length_map]; show 2 + _ ≤ _; omega, ret_same ?_⟩
        rw [qSub_look, qD, qDs_map, List.map_map] at h
        exact h
def c__law_without (n : Nat) : Con := fun ds μ Φ _ => ∃ (ws : List Int) (oc m o : Nat) (t : QT), ds = [qD t, .int (m : Int), .int (o : Int)] ∧ QOk ws oc t ∧ WsOk ws ∧ o < wd ws m ∧ qDep t < n ∧ Φ (qD (qFx m o t)) μ
theorem len__law_without {n ds μ Φ Ψ} (h : c__law_without n ds μ Φ Ψ) : ds.length = 3 := by obtain ⟨i, _, _, _, _, rfl, _⟩ := h; rfl
theorem step__law_without (T : Txt P w K mg) {k : Nat} (hk : 2 ≤ k) (n : Nat) (ih__law_without : FnOk P w K mg base (L2N.CX P w) k T.f__law_without T.d__law_without ["_law_term", "_law_place", "_law_option"] (spOf K (c__law_without n))) : FnOk P w K mg base (L2N.CX P w) (k + 1) T.f__law_without T.d__law_without ["_law_term", "_law_place", "_law_option"] (spOf K (c__law_without (n + 1))) := by
  refine def_okC T.F__law_without sc__law_without _ (fun ds μ Φ Ψ h => len__law_without h) (fun cdv A outer s H E B hW hr =>
    have tk : L2N.Takes (cxOf (L2N.CX P w) P w K mg base N__law_without "_law_without" (defScope s__law_without) T.f__law_without cdv A outer s H E) (fun cls d _ H => E cls d H) := L2N.takes_of rfl rfl rfl rfl
    ⟨_, (pss_cons (ps_if (pt_cmpR op_eq (pe_ix ix_tup (pv 0) pe_int (fun _ _ => rfl)) pe_str (nomark _)) (pss_one (ps_ret (pv 0))) pss_nil)
      (pss_cons (ps_if (pt_cmpR op_eq (pe_ix ix_tup (pv 0) pe_int (fun _ _ => rfl)) (pv 1) (nomark _)) (pss_one (ps_ret (pe_call ih__law_without hr rfl T.g__law_without T.F__law_without.kp T.b__law_without .nil passN (pa_cons (pe_ix ix_tup (pv 0) (pe_op op_add pe_int (pv 2)) (fun _ _ => rfl)) (pa_cons (pv 1) (pa_cons (pv 2) pa_nil)))))) pss_nil)
      (pss_one (ps_ret (pe_op op_catN (pe_slice sl_tupN (pv 0) po_none (po_some pe_int)) (pe_callTy call_tupleN (by rfl) T.z_tuple (by decide +kernel) (pa_cons (pe_lc (own := [("_law_branch", 3)]) rfl sc__law_without.nd (pi_tup (pe_slice sl_tupN (pv 0) (po_some pe_int) po_none)) (blkOk_by (N := N__law_without) (sc := defScope s__law_without) (by decide +kernel)) (fun _ _ _ _ _ => (pg_name (i := 3) sc__law_without.nd rfl (Or.inl rfl))) (fun _ _ _ _ _ => pts_nil) (fun _ _ _ _ _ => (pe_call ih__law_without hr rfl T.g__law_without T.F__law_without.kp T.b__law_without .nil passN (pa_cons (pv 3) (pa_cons (pv 1) (pa_cons (pv 2) pa_nil)))))) pa_nil))))))),
      (sSeq (sIfS (sTest (sOp roEq (sOp roIxT sVar sInt) sStr)) (sRet sVar) sNext)
      (sSeq (sIfS (sTest (sOp roEq (sOp roIxT sVar sInt) sVar)) (sRet (sCall (sCons (sOp roIxT sVar (sOp roInt0 sInt sVar)) (sCons sVar (sCons sVar sNil))))) sNext)
      (sRet (sOp roCatT (sSlT sVar sNoPart (sPart sInt)) (sCB rcTuple (sCons (sLc (siT (sSlT sVar (sPart sInt) sNoPart)) (gwName List.mem_cons_self) (fun _ _ _ => sName) (fun _ _ _ => sYes) (fun _ _ _ => (sCall (sCons sVar (sCons sVar (sCons sVar sNil)))))) sNil))))))⟩) (fun ds μ Φ Ψ h => ?hv)
  case hv =>
    obtain ⟨ws, oc, m, o, t, rfl, ht, hw, ho, hn, h⟩ := h
    cases t with
    | tell x =>
      rw [qD]
      refine seq_cut fun M hM => ?_
      walk_at "wp"
      exact ⟨ret_same h, fun z => absurd trivial z⟩
    | look p ts =>
      obtain ⟨hp, hlen, hts⟩ := ht
      rw [qoks_iff] at hts
      rw [qDep] at hn
      have hw1 := hw.wd1 p
      have e1 : (qDs ts).length = ts.length := qDs_len ts
      rw [qD]
      refine seq_cut fun M hM => ?_
      walk_at "wp"
      refine ⟨fun q => absurd q (by decide), fun _ => ?_⟩
      rw [hM]; clear hM M
      refine seq_cut fun M hM => ?_
      walk_at "wp"
      refine ⟨fun q => ?_, fun q => ?_⟩
      · obtain rfl : p = m := Int.ofNat.inj q
        have hlt : o < ts.length := by omega
        have ei : (2 : Int) + (o : Int) = ((o + 1 + 1 : Nat) : Int) := by omega
        have hd := qdeps_le (List.getElem_mem hlt)
        rw [qFx_at (List.getElem?_eq_getElem hlt)] at h
        refine ⟨qD ts[o], ?_, ws, oc, p, o, ts[o], rfl, hts _ (List.getElem_mem hlt), hw, ho, by omega, ret_same h⟩
        rw [ei]
        exact atI_nat (by rw [List.getElem?_cons_succ, List.getElem?_cons_succ, qDs_map, List.getElem?_map, List.getElem?_eq_getElem hlt]; rfl)
      · have hne : p ≠ m := fun z => q (by rw [z])
        rw [qFx_ne hne] at h
        rw [hM]; clear hM M
        walk_at "wps"
        rw [cut_look, cut_head]
        refine lcG_mapN (fun i => qD (qFx m o (ts.getD i (.tell 0)))) (by rw [e1]; omega) (fun i d μ2 X hi hsub hx => ?_) ?_
        · obtain ⟨hil, rfl⟩ := qDs_get hi
          have hd := qdeps_le (List.getElem_mem hil)
          rw [List.getD_eq_getElem?_getD, List.getElem?_eq_getElem hil] at hx
          walk_at "wps"
          exact ⟨ws, oc, m, o, ts[i], rfl, hts _ (List.getElem_mem hil), hw, ho, by omega, hx⟩
        · rw [e1, rangeQ (fun t => qD (qFx m o t)) ts]
          refine ⟨_, .lst _, by rw [List.length_map]; show 2 + _ ≤ _; omega, ret_same ?_⟩
          rw [qD, qDs_map, List.map_map] at h
          exact h
def c__law_lowered (n : Nat) : Con := fun ds μ Φ _ => ∃ (ws : List Int) (oc : Nat) (t : QT), ds = [qD t] ∧ QOk ws oc t ∧ WsOk ws ∧ 0 ∉ qPl t ∧ qDep t < n ∧ Φ (qD (qLow t)) μ
theorem len__law_lowered {n ds μ Φ Ψ} (h : c__law_lowered n ds μ Φ Ψ) : ds.length = 1 := by obtain ⟨_, _, _, rfl, _⟩ := h; rfl
theorem step__law_lowered (T : Txt P w K mg) {k : Nat} (hk : 2 ≤ k) (n : Nat) (ih__law_lowered : FnOk P w K mg base (L2N.CX P w) k T.f__law_lowered T.d__law_lowered ["_law_term"] (spOf K (c__law_lowered n))) : FnOk P w K mg base (L2N.CX P w) (k + 1) T.f__law_lowered T.d__law_lowered ["_law_term"] (spOf K (c__law_lowered (n + 1))) := by
  refine def_okC T.F__law_lowered sc__law_lowered _ (fun ds μ Φ Ψ h => len__law_lowered h) (fun cdv A outer s H E B hW hr =>
    have tk : L2N.Takes (cxOf (L2N.CX P w) P w K mg base N__law_lowered "_law_lowered" (defScope s__law_lowered) T.f__law_lowered cdv A outer s H E) (fun cls d _ H => E cls d H) := L2N.takes_of rfl rfl rfl rfl
    ⟨_, (pss_cons (ps_if (pt_cmpR op_eq (pe_ix ix_tup (pv 0) pe_int (fun _ _ => rfl)) pe_str (nomark _)) (pss_one (ps_ret (pv 0))) pss_nil)
      (pss_one (ps_ret (pe_op op_catN (pe_tupN (pa_cons pe_str (pa_cons (pe_op op_sub (pe_ix ix_tup (pv 0) pe_int (fun _ _ => rfl)) pe_int) pa_nil))) (pe_callTy call_tupleN (by rfl) T.z_tuple (by decide +kernel) (pa_cons (pe_lc (own := [("_law_branch", 1)]) rfl sc__law_lowered.nd (pi_tup (pe_slice sl_tupN (pv 0) (po_some pe_int) po_none)) (blkOk_by (N := N__law_lowered) (sc := defScope s__law_lowered) (by decide +kernel)) (fun _ _ _ _ _ => (pg_name (i := 1) sc__law_lowered.nd rfl (Or.inl rfl))) (fun _ _ _ _ _ => pts_nil) (fun _ _ _ _ _ => (pe_call ih__law_lowered hr rfl T.g__law_lowered T.F__law_lowered.kp T.b__law_lowered .nil passN (pa_cons (pv 1) pa_nil)))) pa_nil)))))),
      (sSeq (sIfS (sTest (sOp roEq (sOp roIxT sVar sInt) sStr)) (sRet sVar) sNext)
      (sRet (sOp roCatT (sTup (sCons sStr (sCons (sOp roInt0 (sOp roIxT sVar sInt) sInt) sNil))) (sCB rcTuple (sCons (sLc (siT (sSlT sVar (sPart sInt) sNoPart)) (gwName List.mem_cons_self) (fun _ _ _ => sName) (fun _ _ _ => sYes) (fun _ _ _ => (sCall (sCons sVar sNil)))) sNil)))))⟩) (fun ds μ Φ Ψ h => ?hv)
  case hv =>
    obtain ⟨ws, oc, t, rfl, ht, hw, h0, hn, h⟩ := h
    cases t with
    | tell x =>
      rw [qD]
      refine seq_cut fun M hM => ?_
      walk_at "wp"
      exact ⟨ret_same h, fun z => absurd trivial z⟩
    | look p ts =>
      obtain ⟨hp, hlen, hts⟩ := ht
      rw [qoks_iff] at hts
      rw [qDep] at hn
      rw [qPl] at h0
      have hw1 := hw.wd1 p
      have hp0 : p ≠ 0 := fun z => h0 (by rw [z]; exact List.mem_cons_self)
      have e1 : (qDs ts).length = ts.length := qDs_len ts
      rw [qD]
      refine seq_cut fun M hM => ?_
      walk_at "wp"
      refine ⟨fun q => absurd q (by decide), fun _ => ?_⟩
      rw [hM]; clear hM M
      walk_at "wps"
      rw [cut_look]
      refine ⟨by decide, ?_⟩
      refine lcG_mapN (fun i => qD (qLow (ts.getD i (.tell 0)))) (by rw [e1]; omega) (fun i d μ2 X hi hsub hx => ?_) ?_
      · obtain ⟨hil, rfl⟩ := qDs_get hi
        have hd := qdeps_le (List.getElem_mem hil)
        rw [List.getD_eq_getElem?_getD, List.getElem?_eq_getElem hil] at hx
        walk_at "wps"
        exact ⟨ws, oc, ts[i], rfl, hts _ (List.getElem_mem hil), hw, fun q => h0 (List.mem_cons_of_mem _ (qpls_mem.mpr ⟨_, List.getElem_mem hil, q⟩)), by omega, hx⟩
      · rw [e1, rangeQ (fun t => qD (qLow t)) ts, show (p : Int) - 1 = ((p - 1 : Nat) : Int) by omega]
        refine ⟨_, .lst _, by rw [List.length_map]; show 2 + _ ≤ _; omega, ret_same ?_⟩
        rw [qLow_look, qD, qDs_map, List.map_map] at h
        exact h
end
section
variable {P : Program} {w : World} {K : Fg} {mg : Str → Option Value} {base : Heap}
section
variable {P : Program} {w : World} {K : Fg} {mg : Str → Option Value} {base : Heap}
theorem okN__law_replaced (T : Txt P w K mg) : ∀ n, FnOk P w K mg base (L2N.CX P w) (2 + n) T.f__law_replaced T.d__law_replaced ["_law_term", "_law_terms_here"] (spOf K (c__law_replaced n))
  | 0 => fn_never fun ds μ Φ Ψ h => by obtain ⟨_, _, _, _, _, _, _, _, h, _⟩ := h; omega
  | n + 1 => step__law_replaced T (k := 2 + n) (by omega) n (okN__law_replaced T n)
theorem ok__law_replaced (T : Txt P w K mg) : FnOk P w K mg base (L2N.CX P w) 40 T.f__law_replaced T.d__law_replaced ["_law_term", "_law_terms_here"] (spOf K (c__law_replaced 38)) := okN__law_replaced T 38
theorem okN__law_without (T : Txt P w K mg) : ∀ n, FnOk P w K mg base (L2N.CX P w) (2 + n) T.f__law_without T.d__law_without ["_law_term", "_law_place", "_law_option"] (spOf K (c__law_without n))
  | 0 => fn_never fun ds μ Φ Ψ h => by obtain ⟨_, _, _, _, _, _, _, _, _, h, _⟩ := h; omega
  | n + 1 => step__law_without T (k := 2 + n) (by omega) n (okN__law_without T n)
theorem ok__law_without (T : Txt P w K mg) : FnOk P w K mg base (L2N.CX P w) 40 T.f__law_without T.d__law_without ["_law_term", "_law_place", "_law_option"] (spOf K (c__law_without 38)) := okN__law_without T 38
theorem okN__law_lowered (T : Txt P w K mg) : ∀ n, FnOk P w K mg base (L2N.CX P w) (2 + n) T.f__law_lowered T.d__law_lowered ["_law_term"] (spOf K (c__law_lowered n))
  | 0 => fn_never fun ds μ Φ Ψ h => by obtain ⟨_, _, _, _, _, _, _, h, _⟩ := h; omega
  | n + 1 => step__law_lowered T (k := 2 + n) (by omega) n (okN__law_lowered T n)
theorem ok__law_lowered (T : Txt P w K mg) : FnOk P w K mg base (L2N.CX P w) 40 T.f__law_lowered T.d__law_lowered ["_law_term"] (spOf K (c__law_lowered 38)) := okN__law_lowered T 38
end
def c__law_walk : Con := fun ds μ Φ _ => ∃ (ws : List Int) (oc : Nat) (t : QT) (r : Rw), ds = [qD t, sdR r] ∧ QOk ws oc t ∧ WsOk ws ∧ qDep t ≤ 40 ∧ RwOk r ∧ RFit ws r ∧ Φ (.int (qA (rF r) t : Int)) μ
theorem len__law_walk {ds μ Φ Ψ} (h : c__law_walk ds μ Φ Ψ) : ds.length = 2 := by obtain ⟨_, _, _, _, rfl, _⟩ := h; rfl
theorem ok__law_walk {cx : CXT} (T : Txt P w K mg) : FnOk P w K mg base cx 2 T.f__law_walk T.d__law_walk ["_law_term", "_law_row"] (spOf K c__law_walk) := by
  refine def_okC T.F__law_walk sc__law_walk _ (fun ds μ Φ Ψ h => len__law_walk h) (fun cdv A outer s H E B hW hr =>
    ⟨_, (pss_cons (ps_for (passes_of rfl) rfl (pi_range1 rfl T.z_range (pa_cons pe_int pa_nil)) (pg_name (i := 2) sc__law_walk.nd rfl (Or.inl rfl)) (pss_cons (ps_if (pt_cmpR op_eq (pe_ix ix_tup (pv 0) pe_int (fun _ _ => rfl)) pe_str (nomark _)) (pss_one (ps_ret (pe_ix ix_tup (pv 0) pe_int (fun _ _ => rfl)))) pss_nil)
      (pss_one (ps_set (i := 0) sc__law_walk.nd rfl (Or.inl rfl) (pe_ix ix_tup (pv 0) (pe_op op_add pe_int (pe_call (ok__law_endless_entry T) hr rfl T.g__law_endless_entry T.F__law_endless_entry.kp T.b__law_endless_entry .nil passN (pa_cons (pv 1) (pa_cons (pe_ix ix_tup (pv 0) pe_int (fun _ _ => rfl)) pa_nil)))) (fun _ _ => rfl))))))
      (pss_one (ps_ret pe_non))),
      (sSeq (sFor (siR1 sInt) (fun _ _ _ => sName) (fun _ _ _ => (sSeq (sIfS (sTest (sOp roEq (sOp roIxT sVar sInt) sStr)) (sRet (sOp roIxT sVar sInt)) sNext)
      (sAsg (sOp roIxT sVar (sOp roInt0 sInt (sCall (sCons sVar (sCons (sOp roIxT sVar sInt) sNil))))) sName))))
      (sRet sNon))⟩) (fun ds μ Φ Ψ h => ?hv)
  case hv =>
    obtain ⟨ws, oc, t, r, rfl, ht, hw, hd, hr, hf, h⟩ := h
    refine seq_cut fun M hM => ?_
    walk_at "wp"
    refine ⟨by omega, by omega, fun i δ' μ' => μ' = μ ∧ ∃ (s : QT) (x : Option D), δ' = [some (qD s), some (sdR r), x] ∧ QOk ws oc s ∧ qA (rF r) s = qA (rF r) t ∧ i + qDep s ≤ 40, ⟨rfl, t, none, rfl, ht, rfl, by omega⟩, ?_, ?_⟩
    · rintro i d δ' μ' hi ⟨rfl, s, x, rfl, hs, ha, hb⟩
      obtain ⟨hj, rfl⟩ := rngD_get hi
      cases s with
      | tell o =>
        rw [qD]
        walk_at "wps"
        rw [qA] at ha
        exact ⟨ret_same (by rw [ha]; exact h), fun z => absurd trivial z⟩
      | look p ts =>
        obtain ⟨hp, hlen, hts⟩ := hs
        rw [qoks_iff] at hts
        rw [qDep] at hb
        have hlt : rF r p < ts.length := by have := hf p; have := ent_nn hr p; unfold rF; omega
        have hent : ent r p = (rF r p : Int) := by have := ent_nn hr p; unfold rF; omega
        rw [qD]
        walk_at "wps"
        refine ⟨fun z => absurd z (by decide), fun _ => ⟨r, p, rfl, hr, ?_⟩⟩
        rw [hent]
        walk_at "wps"
        have ei : (2 : Int) + (rF r p : Int) = ((rF r p + 1 + 1 : Nat) : Int) := by omega
        have hd2 := qdeps_le (List.getElem_mem hlt)
        refine ⟨qD ts[rF r p], ?_, ts[rF r p], _, rfl, hts _ (List.getElem_mem hlt), ?_, by omega⟩
        · rw [ei]
          exact atI_nat (by rw [List.getElem?_cons_succ, List.getElem?_cons_succ, qDs_map, List.getElem?_map, List.getElem?_eq_getElem hlt]; rfl)
        · rw [← ha, qA_look (List.getElem?_eq_getElem hlt)]
    · rintro δ' μ' ⟨rfl, s, x, rfl, hs, ha, hb⟩
      exact absurd hb (by have : Int.toNat 60 = 60 := rfl; omega)
def c__law_too_deep (n : Nat) : Con := fun ds μ Φ _ => ∃ (ws : List Int) (oc : Nat) (t : QT) (pa : List Nat), ds = [qD t, .tup (nI pa)] ∧ QOk ws oc t ∧ WsOk ws ∧ pa.length ≤ 20 ∧ 20 < n + pa.length ∧ Φ (pN ((qTD t (20 - pa.length)).map fun p => pa ++ p)) μ
theorem len__law_too_deep {n ds μ Φ Ψ} (h : c__law_too_deep n ds μ Φ Ψ) : ds.length = 2 := by obtain ⟨_, _, _, _, rfl, _⟩ := h; rfl
theorem step__law_too_deep (T : Txt P w K mg) {k : Nat} (hk : 2 ≤ k) (n : Nat) (ih__law_too_deep : FnOk P w K mg base (L2N.CX P w) k T.f__law_too_deep T.d__law_too_deep ["_law_term", "_law_path"] (spOf K (c__law_too_deep n))) : FnOk P w K mg base (L2N.CX P w) (k + 1) T.f__law_too_deep T.d__law_too_deep ["_law_term", "_law_path"] (spOf K (c__law_too_deep (n + 1))) := by
  refine def_okC T.F__law_too_deep sc__law_too_deep _ (fun ds μ Φ Ψ h => len__law_too_deep h) (fun cdv A outer s H E B hW hr =>
    have tk : L2N.Takes (cxOf (L2N.CX P w) P w K mg base N__law_too_deep "_law_too_deep" (defScope s__law_too_deep) T.f__law_too_deep cdv A outer s H E) (fun cls d _ H => E cls d H) := L2N.takes_of rfl rfl rfl rfl
    ⟨_, (pss_cons (ps_if (pt_cmpR op_eq (pe_ix ix_tup (pv 0) pe_int (fun _ _ => rfl)) pe_str (nomark _)) (pss_one (ps_ret pe_non)) pss_nil)
      (pss_cons (ps_if (pt_cmpR op_ge (pe_callB call_len_seq (by rfl) T.z_len PySem.boot_len (pa_cons (pv 1) pa_nil)) pe_int (nomark _)) (pss_one (ps_ret (pv 1))) pss_nil)
      (pss_cons (ps_for (passes_of rfl) rfl (pi_range2 rfl T.z_range (pa_cons pe_int (pa_cons (pe_callB call_len_seq (by rfl) T.z_len PySem.boot_len (pa_cons (pv 0) pa_nil)) pa_nil))) (pg_name (i := 2) sc__law_too_deep.nd rfl (Or.inl rfl)) (pss_cons (ps_set (i := 3) sc__law_too_deep.nd rfl (Or.inl rfl) (pe_call ih__law_too_deep hr rfl T.g__law_too_deep T.F__law_too_deep.kp T.b__law_too_deep .nil passN (pa_cons (pe_ix ix_tup (pv 0) (pv 2) (fun _ _ => rfl)) (pa_cons (pe_op op_catN (pv 1) (pe_tupN (pa_cons (pv 2) pa_nil))) pa_nil))))
      (pss_one (ps_if (pt_cmpR op_notN (pv 3) pe_non (nomark _)) (pss_one (ps_ret (pv 3))) pss_nil))))
      (pss_one (ps_ret pe_non))))),
      (sSeq (sIfS (sTest (sOp roEq (sOp roIxT sVar sInt) sStr)) (sRet sNon) sNext)
      (sSeq (sIfS (sTest (sOp roBl0 (sCB rcLen (sCons sVar sNil)) sInt)) (sRet sVar) sNext)
      (sSeq (sFor (siR2 sInt (sCB rcLen (sCons sVar sNil))) (fun _ _ _ => sName) (fun _ _ _ => (sSeq (sAsg (sCall (sCons (sOp roIxT sVar sVar) (sCons (sOp roCatT sVar (sTup (sCons sVar sNil))) sNil))) sName)
      (sIfS (sTest (sOp roNotN sVar sNon)) (sRet sVar) sNext))))
      (sRet sNon))))⟩) (fun ds μ Φ Ψ h => ?hv)
  case hv =>
    obtain ⟨ws, oc, t, pa, rfl, ht, hw, hl, hn, h⟩ := h
    cases t with
    | tell o =>
      rw [qD]
      refine seq_cut fun M hM => ?_
      walk_at "wp"
      rw [qTD_tell] at h
      exact ⟨ret_same h, fun z => absurd trivial z⟩
    | look p ts =>
      obtain ⟨hp, hlen, hts⟩ := ht
      rw [qoks_iff] at hts
      have hw1 := hw.wd1 p
      have e1 : (qDs ts).length = ts.length := qDs_len ts
      rw [qD]
      refine seq_cut fun M hM => ?_
      walk_at "wp"
      refine ⟨fun q => absurd q (by decide), fun _ => ?_⟩
      rw [hM]; clear hM M
      refine seq_cut fun M hM => ?_
      walk_at "wp"
      rw [nI_len]
      refine ⟨fun q => ?_, fun q => ?_⟩
      · rw [show 20 - pa.length = 0 by omega, qTD_zero] at h
        exact ret_same (by simpa [pN] using h)
      · obtain ⟨m, hm⟩ : ∃ m, 20 - pa.length = m + 1 := ⟨19 - pa.length, by omega⟩
        rw [hm, qTD_succ] at h
        rw [hM]; clear hM M
        refine seq_cut fun M hM => ?_
        walk_at "wp"
        refine ⟨_, _, rfl, rfl, ⟨by omega, by omega, by omega, by omega⟩, fun i δ' μ' => μ' = μ ∧ (∀ j, j < i → ∀ hj : j < ts.length, qTD ts[j] m = none) ∧ ∃ x y, δ' = [some (.tup (.str "look" :: .int (p : Int) :: qDs ts)), some (.tup (nI pa)), x, y], ⟨rfl, fun j hj => absurd hj (Nat.not_lt_zero _), none, none, rfl⟩, ?_, ?_⟩
        · rintro i d δ' μ' hi ⟨rfl, hpre, x, y, rfl⟩
          obtain ⟨hil0, rfl⟩ := rngD_get hi
          have hil : i < ts.length := by omega
          walk_at "wps"
          have ei : (2 : Int) + (i : Int) = ((i + 1 + 1 : Nat) : Int) := by omega
          refine ⟨qD ts[i], ?_, by decide, by rw [nI_len]; omega, ws, oc, ts[i], pa ++ [i + 2], ?_, hts _ (List.getElem_mem hil), hw, by rw [List.length_append, List.length_singleton]; omega, by rw [List.length_append, List.length_singleton]; omega, ?_⟩
          · rw [ei]
            exact atI_nat (by rw [List.getElem?_cons_succ, List.getElem?_cons_succ, qDs_map, List.getElem?_map, List.getElem?_eq_getElem hil]; rfl)
          · unfold nI; rw [List.map_append, List.map_singleton, show (2 : Int) + (i : Int) = ((i + 2 : Nat) : Int) by omega]
          · rw [show 20 - (pa ++ [i + 2]).length = m by rw [List.length_append, List.length_singleton]; omega]
            cases e : qTD ts[i] m with
            | none =>
              simp only [Option.map, pN]
              walk_at "wps"
              refine ⟨fun j hj hjl => ?_, _, _, rfl⟩
              by_cases z : j = i
              · subst z; exact e
              · exact hpre j (by omega) hjl
            | some q =>
              rw [qTDs_at ts m 2 i hil hpre, e] at h
              simp only [Option.map, pN] at h ⊢
              walk_at "wps"
              refine ret_same ?_
              rw [List.append_assoc]
              rw [show 2 + i = i + 2 by omega] at h
              exact h
        · rintro δ' μ' ⟨rfl, hpre, x, y, rfl⟩
          rw [hM]
          walk_at "wp"
          rw [qTDs_none ts m 2 fun t ht => by
            obtain ⟨j, hj, rfl⟩ := List.mem_iff_getElem.mp ht
            exact hpre j (by omega) hj] at h
          exact ret_same h
def c__law_looks (n : Nat) : Con := fun ds μ Φ _ => ∃ (ws : List Int) (oc : Nat) (t : QT), ds = [qD t] ∧ QOk ws oc t ∧ WsOk ws ∧ qDep t < n ∧ (qPl t).length ≤ 5000 ∧ Φ (.int ((qPl t).length : Int)) μ
theorem len__law_looks {n ds μ Φ Ψ} (h : c__law_looks n ds μ Φ Ψ) : ds.length = 1 := by obtain ⟨_, _, _, rfl, _⟩ := h; rfl
theorem sum_pls : ∀ ts : List QT, ((ts.map fun t => ((qPl t).length : Int)).sum) = ((qPl.qPls ts).length : Int)
  | [] => rfl
  | t :: ts => by
    rw [List.map_cons, List.sum_cons, sum_pls ts, qPl.qPls, List.length_append]
    omega
theorem step__law_looks (T : Txt P w K mg) {k : Nat} (hk : 2 ≤ k) (n : Nat) (ih__law_looks : FnOk P w K mg base (L2N.CX P w) k T.f__law_looks T.d__law_looks ["_law_term"] (spOf K (c__law_looks n))) : FnOk P w K mg base (L2N.CX P w) (k + 1) T.f__law_looks T.d__law_looks ["_law_term"] (spOf K (c__law_looks (n + 1))) := by
  refine def_okC T.F__law_looks sc__law_looks _ (fun ds μ Φ Ψ h => len__law_looks h) (fun cdv A outer s H E B hW hr =>
    have tk : L2N.Takes (cxOf (L2N.CX P w) P w K mg base N__law_looks "_law_looks" (defScope s__law_looks) T.f__law_looks cdv A outer s H E) (fun cls d _ H => E cls d H) := L2N.takes_of rfl rfl rfl rfl
    ⟨_, (pss_cons (ps_if (pt_cmpR op_eq (pe_ix ix_tup (pv 0) pe_int (fun _ _ => rfl)) pe_str (nomark _)) (pss_one (ps_ret pe_int)) pss_nil)
      (pss_one (ps_ret (pe_op op_add pe_int (pe_callB (cr_sum rfl) (by rfl) T.z_sum (by decide +kernel) (pa_cons (pe_lc (own := [("_law_branch", 1)]) rfl sc__law_looks.nd (pi_tup (pe_slice sl_tupN (pv 0) (po_some pe_int) po_none)) (blkOk_by (N := N__law_looks) (sc := defScope s__law_looks) (by decide +kernel)) (fun _ _ _ _ _ => (pg_name (i := 1) sc__law_looks.nd rfl (Or.inl rfl))) (fun _ _ _ _ _ => pts_nil) (fun _ _ _ _ _ => (pe_call ih__law_looks hr rfl T.g__law_looks T.F__law_looks.kp T.b__law_looks .nil passN (pa_cons (pv 1) pa_nil)))) pa_nil)))))),
      (sSeq (sIfS (sTest (sOp roEq (sOp roIxT sVar sInt) sStr)) (sRet sInt) sNext)
      (sRet (sOp roInt0 sInt (sCB rcSum (sCons (sLc (siT (sSlT sVar (sPart sInt) sNoPart)) (gwName List.mem_cons_self) (fun _ _ _ => sName) (fun _ _ _ => sYes) (fun _ _ _ => (sCall (sCons sVar sNil)))) sNil)))))⟩) (fun ds μ Φ Ψ h => ?hv)
  case hv =>
    obtain ⟨ws, oc, t, rfl, ht, hw, hn, hb, h⟩ := h
    cases t with
    | tell o =>
      rw [qD]
      refine seq_cut fun M hM => ?_
      walk_at "wp"
      exact ⟨ret_same h, fun z => absurd trivial z⟩
    | look p ts =>
      obtain ⟨hp, hlen, hts⟩ := ht
      rw [qoks_iff] at hts
      rw [qDep] at hn
      rw [qPl, List.length_cons] at hb h
      have hw1 := hw.wd1 p
      have e1 : (qDs ts).length = ts.length := qDs_len ts
      rw [qD]
      refine seq_cut fun M hM => ?_
      walk_at "wp"
      refine ⟨fun q => absurd q (by decide), fun _ => ?_⟩
      rw [hM]; clear hM M
      walk_at "wps"
      rw [cut_look]
      refine lcG_mapN (fun i => .int ((qPl (ts.getD i (.tell 0))).length : Int)) (by rw [e1]; omega) (fun i d μ2 X hi hsub hx => ?_) ?_
      · obtain ⟨hil, rfl⟩ := qDs_get hi
        have hd := qdeps_le (List.getElem_mem hil)
        have hl := qpls_len (List.getElem_mem hil)
        rw [List.getD_eq_getElem?_getD, List.getElem?_eq_getElem hil] at hx
        walk_at "wps"
        exact ⟨ws, oc, ts[i], rfl, hts _ (List.getElem_mem hil), hw, by omega, by omega, hx⟩
      · rw [e1, rangeQ (fun t => D.int ((qPl t).length : Int)) ts, show (ts.map fun t => D.int ((qPl t).length : Int)) = (ts.map fun t => ((qPl t).length : Int)).map D.int by rw [List.map_map]; rfl]
        refine w_sumL ?_
        rw [sum_pls]
        walk_at "wps"
        refine ret_same ?_
        rw [show (1 : Int) + ((qPl.qPls ts).length : Int) = (((qPl.qPls ts).length + 1 : Nat) : Int) by omega]
        exact h
/-- the places, each once, in the order of their first looks -/
def qNm : QT → List Nat → List Nat
  | .tell _ => fun acc => acc
  | .look p ts => fun acc => qNms ts (if p ∈ acc then acc else acc ++ [p])
where qNms : List QT → List Nat → List Nat
  | [] => fun acc => acc
  | t :: ts => fun acc => qNms ts (qNm t acc)
theorem qNm_tell (o : Nat) (acc : List Nat) : qNm (.tell o) acc = acc := by rw [qNm]
theorem qNm_look (p : Nat) (ts : List QT) (acc : List Nat) : qNm (.look p ts) acc = qNm.qNms ts (if p ∈ acc then acc else acc ++ [p]) := by rw [qNm]
theorem qNms_nil (acc : List Nat) : qNm.qNms [] acc = acc := by rw [qNm.qNms]
theorem qNms_cons (t : QT) (ts : List QT) (acc : List Nat) : qNm.qNms (t :: ts) acc = qNm.qNms ts (qNm t acc) := by rw [qNm.qNms]
theorem qNms_take (ts : List QT) : ∀ (acc : List Nat) (i : Nat) (h : i < ts.length), qNm.qNms (ts.take (i + 1)) acc = qNm ts[i] (qNm.qNms (ts.take i) acc) := by
  induction ts with
  | nil => intro acc i h; simp at h
  | cons t ts ih =>
    intro acc i h
    cases i with
    | zero => rw [List.take_succ_cons, List.take_zero, qNms_cons, qNms_nil, List.take_zero, qNms_nil]; rfl
    | succ i => rw [List.take_succ_cons, qNms_cons, ih _ i (by simpa using h), List.take_succ_cons, qNms_cons]; rfl
/-- how such a list may look -/
structure NmOk (acc : List Nat) : Prop where
  nd : acc.Nodup
  lt : ∀ q ∈ acc, q < 100
theorem nodup_len : ∀ (n : Nat) (acc : List Nat), acc.Nodup → (∀ q ∈ acc, q < n) → acc.length ≤ n
  | 0, [], _, _ => Nat.le_refl _
  | 0, q :: acc, _, h => by have := h q List.mem_cons_self; omega
  | n + 1, acc, nd, h => by
    have h1 := nodup_len n (acc.erase n) (nd.erase n) fun q hq => by
      have h2 := h q (List.mem_of_mem_erase hq)
      have h3 : q ≠ n := fun z => by rw [z] at hq; exact (nd.not_mem_erase) hq
      omega
    have h5 : acc.length ≤ (acc.erase n).length + 1 := by rw [List.length_erase]; split <;> omega
    omega
theorem NmOk.len {acc : List Nat} (h : NmOk acc) : acc.length ≤ 100 := nodup_len 100 acc h.nd h.lt
theorem NmOk.add {acc : List Nat} {p : Nat} (h : NmOk acc) (hp : p < 100) : NmOk (if p ∈ acc then acc else acc ++ [p]) := by
  split
  · exact h
  · rename_i z
    refine ⟨List.nodup_append.mpr ⟨h.nd, by simp, fun a ha b hb e => z ?_⟩, fun q hq => ?_⟩
    · rw [List.mem_singleton.mp hb] at e; rw [← e]; exact ha
    · rcases List.mem_append.mp hq with q2 | q2
      · exact h.lt q q2
      · rw [List.mem_singleton.mp q2]; exact hp
theorem NmOk.nm {ws : List Int} {oc : Nat} : ∀ (t : QT) (acc : List Nat), QOk ws oc t → NmOk acc → NmOk (qNm t acc) := fun t => by
  induction t using QT.ind with
  | h1 o => intro acc _ h; rw [qNm_tell]; exact h
  | h2 p ts ih =>
    intro acc hk h
    obtain ⟨hp, _, hts⟩ := hk
    rw [qoks_iff] at hts
    rw [qNm_look]
    have : ∀ (us : List QT) (acc : List Nat), (∀ u ∈ us, u ∈ ts) → NmOk acc → NmOk (qNm.qNms us acc) := fun us => by
      induction us with
      | nil => intro acc _ h; rw [qNms_nil]; exact h
      | cons u us ih2 =>
        intro acc hu h
        rw [qNms_cons]
        exact ih2 _ (fun v hv => hu v (List.mem_cons_of_mem _ hv)) (ih u (hu u List.mem_cons_self) acc (hts u (hu u List.mem_cons_self)) h)
    exact this ts _ (fun _ q => q) (h.add hp)
theorem NmOk.nms {ws : List Int} {oc : Nat} : ∀ (us : List QT) (acc : List Nat), (∀ u ∈ us, QOk ws oc u) → NmOk acc → NmOk (qNm.qNms us acc) := fun us => by
  induction us with
  | nil => intro acc _ h; rw [qNms_nil]; exact h
  | cons u us ih2 =>
    intro acc hu h
    rw [qNms_cons]
    exact ih2 _ (fun v hv => hu v (List.mem_cons_of_mem _ hv)) (h.nm u acc (hu u List.mem_cons_self))
theorem qNm_mem : ∀ (t : QT) (acc : List Nat) (q : Nat), q ∈ qNm t acc ↔ q ∈ acc ∨ q ∈ qPl t := fun t => by
  induction t using QT.ind with
  | h1 o => intro acc q; rw [qNm_tell, qPl]; simp
  | h2 p ts ih =>
    intro acc q
    rw [qNm_look, qPl]
    have : ∀ (us : List QT) (acc : List Nat), (∀ u ∈ us, u ∈ ts) → (q ∈ qNm.qNms us acc ↔ q ∈ acc ∨ q ∈ qPl.qPls us) := fun us => by
      induction us with
      | nil => intro acc _; rw [qNms_nil, qPl.qPls]; simp
      | cons u us ih2 =>
        intro acc hu
        rw [qNms_cons, qPl.qPls, List.mem_append, ih2 _ (fun v hv => hu v (List.mem_cons_of_mem _ hv)), ih u (hu u List.mem_cons_self)]
        exact or_assoc
    rw [this ts _ fun _ z => z, List.mem_cons]
    split
    · rename_i z
      exact ⟨fun h => h.elim .inl (fun h => .inr (.inr h)), fun h => h.elim .inl (fun h => h.elim (fun e => .inl (by rw [e]; exact z)) .inr)⟩
    · rw [List.mem_append, List.mem_singleton]
      exact or_assoc
def c__law_named (n : Nat) : Con := fun ds μ Φ _ => ∃ (ws : List Int) (oc : Nat) (t : QT) (p : Addr) (acc : List Nat), ds = [qD t, .hd (.ref p)] ∧ μ p = some (.lst (nI acc)) ∧ QOk ws oc t ∧ WsOk ws ∧ NmOk acc ∧ qDep t < n ∧ Φ (.hd (.ref p)) (sset μ p (.lst (nI (qNm t acc))))
theorem len__law_named {n ds μ Φ Ψ} (h : c__law_named n ds μ Φ Ψ) : ds.length = 2 := by obtain ⟨_, _, _, _, _, rfl, _⟩ := h; rfl
theorem step__law_named (T : Txt P w K mg) {k : Nat} (hk : 2 ≤ k) (n : Nat) (ih__law_named : FnOk P w K mg base (L2N.CX P w) k T.f__law_named T.d__law_named ["_law_term", "_law_places"] (spOf K (c__law_named n))) : FnOk P w K mg base (L2N.CX P w) (k + 1) T.f__law_named T.d__law_named ["_law_term", "_law_places"] (spOf K (c__law_named (n + 1))) := by
  refine def_okC T.F__law_named sc__law_named _ (fun ds μ Φ Ψ h => len__law_named h) (fun cdv A outer s H E B hW hr =>
    have tk : L2N.Takes (cxOf (L2N.CX P w) P w K mg base N__law_named "_law_named" (defScope s__law_named) T.f__law_named cdv A outer s H E) (fun cls d _ H => E cls d H) := L2N.takes_of rfl rfl rfl rfl
    ⟨_, (pss_cons (ps_if (pt_cmpR op_eq (pe_ix ix_tup (pv 0) pe_int (fun _ _ => rfl)) pe_str (nomark _)) (pss_cons (ps_if (pt_cmpR op_notIn_seq (pe_ix ix_tup (pv 0) pe_int (fun _ _ => rfl)) (pv 1) (by with_unfolding_all rfl)) (pss_one (ps_expr (pe_bm PySem.F.plainAttrs_list PySem.F.slot_list_append PySem.F.type_list_append mt_append (pv 1) (pa_cons (pe_ix ix_tup (pv 0) pe_int (fun _ _ => rfl)) pa_nil)))) pss_nil)
      (pss_one (ps_for (passes_of rfl) rfl (pi_tup (pe_slice sl_tupN (pv 0) (po_some pe_int) po_none)) (pg_name (i := 2) sc__law_named.nd rfl (Or.inl rfl)) (pss_one (ps_expr (pe_call ih__law_named hr rfl T.g__law_named T.F__law_named.kp T.b__law_named .nil passN (pa_cons (pv 2) (pa_cons (pv 1) pa_nil)))))))) pss_nil)
      (pss_one (ps_ret (pv 1)))),
      (sSeq (sIfS (sTest (sOp roEq (sOp roIxT sVar sInt) sStr)) (sSeq (sIfS (sTest (sOp (roIn (neg := true)) (sOp roIxT sVar sInt) sVar)) (sDrop (sApp sVar (sOp roIxT sVar sInt))) sNext)
      (sFor (siT (sSlT sVar (sPart sInt) sNoPart)) (fun _ _ _ => sName) (fun _ _ _ => (sDrop (sCall (sCons sVar (sCons sVar sNil))))))) sNext)
      (sRet sVar))⟩) (fun ds μ Φ Ψ h => ?hv)
  case hv =>
    obtain ⟨ws, oc, t, p, acc, rfl, hp, ht, hw, ha, hn, h⟩ := h
    cases t with
    | tell o =>
      rw [qD]
      rw [qNm_tell, sset_idl hp] at h
      walk_at "wps"
      exact ⟨fun z => absurd z (by decide), fun _ => ret_same h⟩
    | look q ts =>
      obtain ⟨hq, hlen, hts⟩ := ht
      rw [qoks_iff] at hts
      rw [qDep] at hn
      have hw1 := hw.wd1 q
      have e1 : (qDs ts).length = ts.length := qDs_len ts
      have ha2 := ha.add hq
      have hlen2 := ha.len
      rw [qNm_look] at h
      rw [qD]
      refine seq_cut fun M hM => ?_
      walk_at "wp"
      refine ⟨?_, fun z => absurd trivial z⟩
      refine q_seq fun N hN => ?_
      have loop : ∀ acc2 : List Nat, NmOk acc2 → qNm.qNms ts acc2 = qNm.qNms ts (if q ∈ acc then acc else acc ++ [q]) → N [some (.tup (.str "look" :: .int (q : Int) :: qDs ts)), some (.hd (.ref p)), none] (sset μ p (.lst (nI acc2))) := fun acc2 hk he => by
        subst hN
        walk_at "wps"
        rw [cut_look]
        refine ⟨fun i δ' μ' => ∃ x, δ' = [some (.tup (.str "look" :: .int (q : Int) :: qDs ts)), some (.hd (.ref p)), x] ∧ μ' = sset μ p (.lst (nI (qNm.qNms (ts.take i) acc2))), ⟨none, rfl, by rw [List.take_zero, qNms_nil]⟩, ?_, ?_⟩
        · rintro i d δ' μ' hi ⟨x, rfl, rfl⟩
          obtain ⟨hil, rfl⟩ := qDs_get hi
          have hd := qdeps_le (List.getElem_mem hil)
          walk_at "wps"
          refine ⟨ws, oc, ts[i], p, _, rfl, sset_same, hts _ (List.getElem_mem hil), hw, hk.nms (ws := ws) (oc := oc) _ _ fun u hu => hts u (List.mem_of_mem_take hu), by omega, _, rfl, ?_⟩
          rw [sset_sset, qNms_take ts acc2 i hil]
        · rintro δ' μ' ⟨x, rfl, rfl⟩
          rw [e1, List.take_length, he, hM]
          walk_at "wps"
          exact ret_same h
      clear hN
      walk_at "wp"
      refine nin_N ⟨.own hp, ?_⟩
      refine ⟨_, rfl, fun c => ?_, fun c => ?_⟩
      · have hc : q ∉ acc := by simpa using c
        refine ⟨_, hp, _, hp, by rw [nI_len]; omega, ?_⟩
        have := loop (acc ++ [q]) (by rw [if_neg hc] at ha2; exact ha2) (by rw [if_neg hc])
        have e2 : nI (acc ++ [q]) = nI acc ++ [.int (q : Int)] := by unfold nI; rw [List.map_append]; rfl
        rw [e2] at this
        exact this
      · have hc : q ∈ acc := by simpa using c
        have := loop acc ha (by rw [if_pos hc])
        rw [sset_idl hp] at this
        exact this
end
section
variable {P : Program} {w : World} {K : Fg} {mg : Str → Option Value} {base : Heap}
section
variable {P : Program} {w : World} {K : Fg} {mg : Str → Option Value} {base : Heap}
theorem okN__law_too_deep (T : Txt P w K mg) : ∀ n, FnOk P w K mg base (L2N.CX P w) (2 + n) T.f__law_too_deep T.d__law_too_deep ["_law_term", "_law_path"] (spOf K (c__law_too_deep n))
  | 0 => fn_never fun ds μ Φ Ψ h => by obtain ⟨_, _, _, _, _, _, _, _, h, _⟩ := h; omega
  | n + 1 => step__law_too_deep T (k := 2 + n) (by omega) n (okN__law_too_deep T n)
theorem ok__law_too_deep (T : Txt P w K mg) : FnOk P w K mg base (L2N.CX P w) 40 T.f__law_too_deep T.d__law_too_deep ["_law_term", "_law_path"] (spOf K (c__law_too_deep 38)) := okN__law_too_deep T 38
theorem okN__law_looks (T : Txt P w K mg) : ∀ n, FnOk P w K mg base (L2N.CX P w) (2 + n) T.f__law_looks T.d__law_looks ["_law_term"] (spOf K (c__law_looks n))
  | 0 => fn_never fun ds μ Φ Ψ h => by obtain ⟨_, _, _, _, _, _, h, _⟩ := h; omega
  | n + 1 => step__law_looks T (k := 2 + n) (by omega) n (okN__law_looks T n)
theorem ok__law_looks (T : Txt P w K mg) : FnOk P w K mg base (L2N.CX P w) 40 T.f__law_looks T.d__law_looks ["_law_term"] (spOf K (c__law_looks 38)) := okN__law_looks T 38
theorem okN__law_named (T : Txt P w K mg) : ∀ n, FnOk P w K mg base (L2N.CX P w) (2 + n) T.f__law_named T.d__law_named ["_law_term", "_law_places"] (spOf K (c__law_named n))
  | 0 => fn_never fun ds μ Φ Ψ h => by obtain ⟨_, _, _, _, _, _, _, _, _, _, h, _⟩ := h; omega
  | n + 1 => step__law_named T (k := 2 + n) (by omega) n (okN__law_named T n)
theorem ok__law_named (T : Txt P w K mg) : FnOk P w K mg base (L2N.CX P w) 40 T.f__law_named T.d__law_named ["_law_term", "_law_places"] (spOf K (c__law_named 38)) := okN__law_named T 38
end
/-- what the law says of making a query -/
def dueD (ws : List Int) (oc : Nat) (t : QT) : D := match qMk ws t with
  | .made => .tup [.str "made", qD t, .tup (ws.map .int), .int (oc : Int)]
  | .deep p => .tup [.str "wrong", .tup (nI p)]
  | .large => .tup [.str "refused", .int 0, .int 0, .int 1]
theorem wpr_nm {ws : List Int} {oc : Nat} (t : QT) (ok : QOk ws oc t) : wpl ws (qNm t []) = wpr ws (qMs (qPl t)) := by
  rw [wpl_wpr]
  have h : NmOk (qNm t []) := NmOk.nm t [] ok ⟨List.nodup_nil, by simp⟩
  refine wpr_perm ((List.perm_ext_iff_of_nodup h.nd ((qMs_sorted (qPl t)).imp fun {a b} q => by omega)).mpr fun q => ?_)
  rw [qNm_mem, qMs_mem (QOk.pl t ok)]
  simp
def c__law_due : Con := fun ds μ Φ _ => ∃ (ws : List Int) (oc : Nat) (t : QT), ds = [qD t, .tup (ws.map .int), .int (oc : Int)] ∧ QOk ws oc t ∧ WsOk ws ∧ qDep t < 38 ∧ (qPl t).length ≤ 5000 ∧ Φ (dueD ws oc t) μ
theorem len__law_due {ds μ Φ Ψ} (h : c__law_due ds μ Φ Ψ) : ds.length = 3 := by obtain ⟨_, _, _, rfl, _⟩ := h; rfl
theorem ok__law_due (T : Txt P w K mg) : FnOk P w K mg base (L2N.CX P w) 41 T.f__law_due T.d__law_due ["_law_term", "_law_widths_here", "_law_outcomes"] (spOf K c__law_due) := by
  refine def_okC T.F__law_due sc__law_due _ (fun ds μ Φ Ψ h => len__law_due h) (fun cdv A outer s H E B hW hr =>
    have tk : L2N.Takes (cxOf (L2N.CX P w) P w K mg base N__law_due "_law_due" (defScope s__law_due) T.f__law_due cdv A outer s H E) (fun cls d _ H => E cls d H) := L2N.takes_of rfl rfl rfl rfl
    ⟨_, (pss_cons (ps_set (i := 3) sc__law_due.nd rfl (Or.inl rfl) (pe_call (ok__law_too_deep T) hr rfl T.g__law_too_deep T.F__law_too_deep.kp T.b__law_too_deep .nil passN (pa_cons (pv 0) (pa_cons (pe_tupN pa_nil) pa_nil))))
      (pss_cons (ps_if (pt_cmpR op_notN (pv 3) pe_non (nomark _)) (pss_one (ps_ret (pe_tupN (pa_cons pe_str (pa_cons (pv 3) pa_nil))))) pss_nil)
      (pss_cons (ps_set (i := 4) sc__law_due.nd rfl (Or.inl rfl) pe_int)
      (pss_cons (ps_for (passes_of rfl) rfl (pi_list (pe_call (ok__law_named T) hr rfl T.g__law_named T.F__law_named.kp T.b__law_named .nil passN (pa_cons (pv 0) (pa_cons (pe_lst pa_nil) pa_nil)))) (pg_name (i := 5) sc__law_due.nd rfl (Or.inl rfl)) (pss_one (ps_set (i := 4) sc__law_due.nd rfl (Or.inl rfl) (pe_op op_mulX (pv 4) (pe_call (ok__law_width T) (hr.mono (by decide)) rfl T.g__law_width T.F__law_width.kp T.b__law_width .nil passN (pa_cons (pv 1) (pa_cons (pv 5) pa_nil)))))))
      (pss_cons (ps_if (PW.pt (pw_or (pt_cmpR op_gt (pv 4) pe_int (nomark _)) (pw_or1 (pt_cmpR op_gt (pe_call (ok__law_looks T) hr rfl T.g__law_looks T.F__law_looks.kp T.b__law_looks .nil passN (pa_cons (pv 0) pa_nil)) pe_int (nomark _))))) (pss_one (ps_ret (pe_tupN (pa_cons pe_str (pa_cons pe_int (pa_cons pe_int (pa_cons pe_int pa_nil))))))) pss_nil)
      (pss_one (ps_ret (pe_tupN (pa_cons pe_str (pa_cons (pv 0) (pa_cons (pv 1) (pa_cons (pv 2) pa_nil)))))))))))),
      (sSeq (sAsg (sCall (sCons sVar (sCons (sTup sNil) sNil))) sName)
      (sSeq (sIfS (sTest (sOp roNotN sVar sNon)) (sRet (sTup (sCons sStr (sCons sVar sNil)))) sNext)
      (sSeq (sAsg sInt sName)
      (sSeq (sFor (siL (sRestE (sCall (sCons sVar (sCons (sOwn sNil) sNil))))) (fun _ _ _ => sName) (fun _ _ _ => (sAsg (sOp roInt sVar (sCall (sCons sVar (sCons sVar sNil)))) sName)))
      (sSeq (sIfS (sOr (sTest (sOp roBl0 sVar sInt)) (sTest (sOp roBl0 (sCall (sCons sVar sNil)) sInt))) (sRet (sTup (sCons sStr (sCons sInt (sCons sInt (sCons sInt sNil)))))) sNext)
      (sRet (sTup (sCons sStr (sCons sVar (sCons sVar (sCons sVar sNil)))))))))))⟩) (fun ds μ Φ Ψ h => ?hv)
  case hv =>
    obtain ⟨ws, oc, t, rfl, ht, hw, hn, hb, h⟩ := h
    unfold dueD qMk at h
    refine seq_cut fun M hM => ?_
    walk_at "wp"
    refine ⟨by decide, ws, oc, t, [], rfl, ht, hw, by decide, by decide, ?_⟩
    rw [hM]; clear hM M
    refine seq_cut fun M hM => ?_
    rw [show 20 - ([] : List Nat).length = 20 from rfl]
    cases e : qTD t 20 with
    | some p =>
      rw [e] at h
      simp only [Option.map, List.nil_append, pN] at h ⊢
      walk_at "wp"
      exact ⟨by decide, ret_same h⟩
    | none =>
      rw [e] at h
      simp only [Option.map, pN] at h ⊢
      walk_at "wp"
      rw [hM]; clear hM M
      refine seq_cut fun M hM => ?_
      walk_at "wp"
      rw [hM]; clear hM M
      refine seq_cut fun M hM => ?_
      walk_at "wp"
      refine ⟨by decide, fun p hp => ⟨ws, oc, t, p, [], rfl, sset_same, ht, hw, ⟨List.nodup_nil, by simp⟩, by omega, p, _, rfl, sset_same, ?_⟩⟩
      rw [sset_sset, sset_sset]
      have hnm : NmOk (qNm t []) := NmOk.nm t [] ht ⟨List.nodup_nil, by simp⟩
      have hnl := hnm.len
      refine ⟨fun i δ' μ' => μ' = sset μ p (.frz (nI (qNm t []))) ∧ ∃ x, δ' = [some (qD t), some (.tup (ws.map .int)), some (.int (oc : Int)), some .non, some (.int ((wpl ws ((qNm t []).take i) : Nat) : Int)), x], ⟨rfl, none, rfl⟩, ?_, ?_⟩
      · rintro i d δ' μ' hi ⟨rfl, x, rfl⟩
        obtain ⟨hil, rfl⟩ := nI_get hi
        have hw1 := hw.wd1 (qNm t [])[i]
        walk_at "wp"
        refine ⟨ws, _, rfl, hw, ?_⟩
        walk_at "wp"
        have h3 := wpr_lt hw ((qNm t []).take i)
        rw [← wpl_wpr] at h3
        have h5 : 2 ^ (2 * ((qNm t []).take i).length + 1) ≤ 2 ^ 201 := Nat.pow_le_pow_right (by decide) (by rw [List.length_take]; omega)
        refine ⟨mulx 201 3 (by omega) (by omega) (by decide), some (.int (((qNm t [])[i] : Nat) : Int)), ?_⟩
        rw [List.take_succ, List.getElem?_eq_getElem hil, Option.toList_some, wpl_snoc]
        rfl
      · rintro δ' μ' ⟨rfl, x, rfl⟩
        rw [nI_len, List.take_length, wpr_nm t ht, hM]
        clear hM
        have fin : ∀ d : D, Φ d μ → ∃ μ2, Sub μ2 (sset μ p (.frz (nI (qNm t [])))) ∧ Φ d μ2 := fun d q => ⟨μ, Sub.set Sub.refl hp, q⟩
        walk_at "wps"
        refine ⟨fun q => ⟨by decide, fin _ ?_⟩, fun q => ⟨ws, oc, t, rfl, ht, hw, by omega, hb, ?_⟩⟩
        · rw [if_neg (by omega)] at h; exact h
        · walk_at "wps"
          refine ⟨fun q2 => ⟨by decide, fin _ ?_⟩, fun q2 => ⟨by decide, fin _ ?_⟩⟩
          · rw [if_neg (by omega)] at h; exact h
          · rw [if_pos (by omega)] at h; exact h
inductive AR where
  | mk (ws : List Int) (oc : Nat) (t : QT)
  | size
  | range
/-- what may be asked, and what comes of it -/
inductive Ask (C : Addr) : Nat → D → D → D → D → AR → Prop
  | and {ws ws' oc oc' t t' x y} (h1 : QOk ws oc t) (h2 : qDep t < 36) (h3 : WsOk ws) (r : AR) (h4 : oc = 2 ∧ oc' = 2 ∧ ws = ws' → r = .mk ws 2 (qSub [.tell 0, t'] t)) (h5 : ¬ (oc = 2 ∧ oc' = 2 ∧ ws = ws') → r = .size) : Ask C 0 (qO C t ws oc) (qO C t' ws' oc') x y r
  | or {ws ws' oc oc' t t' x y} (h1 : QOk ws oc t) (h2 : qDep t < 36) (h3 : WsOk ws) (r : AR) (h4 : oc = 2 ∧ oc' = 2 ∧ ws = ws' → r = .mk ws 2 (qSub [t', .tell 1] t)) (h5 : ¬ (oc = 2 ∧ oc' = 2 ∧ ws = ws') → r = .size) : Ask C 1 (qO C t ws oc) (qO C t' ws' oc') x y r
  | xor {ws ws' oc oc' t t' x y} (h1 : QOk ws oc t) (h2 : qDep t < 36) (h3 : WsOk ws) (g1 : QOk ws' oc' t') (g2 : qDep t' < 36) (r : AR) (h4 : oc = 2 ∧ oc' = 2 ∧ ws = ws' → r = .mk ws 2 (qSub [t', qSub (tellsQ [1, 0]) t'] t)) (h5 : ¬ (oc = 2 ∧ oc' = 2 ∧ ws = ws') → r = .size) : Ask C 2 (qO C t ws oc) (qO C t' ws' oc') x y r
  | inv {ws oc t b x y} (h1 : QOk ws oc t) (h2 : qDep t < 36) (h3 : WsOk ws) (r : AR) (h4 : oc = 2 → r = .mk ws 2 (qSub (tellsQ [1, 0]) t)) (h5 : oc ≠ 2 → r = .size) : Ask C 3 (qO C t ws oc) b x y r
  | join {ws ws' oc oc' t t'} {tb : List (List Int)} {k : Int} (h1 : QOk ws oc t) (h2 : qDep t < 36) (h3 : WsOk ws) (g1 : QOk ws' oc' t') (g2 : qDep t' < 36) (b1 : tb.length ≤ 100) (b2 : ∀ r ∈ tb, r.length ≤ 100) (k1 : -5 ≤ k) (k2 : k ≤ 100) (r : AR)
      (h4 : ws ≠ ws' → r = .size) (h5 : ws = ws' → ¬ (1 ≤ k ∧ k ≤ 4 ∧ ∃ nb, tb = natT nb ∧ TbOk oc oc' k.toNat nb) → r = .range) (h6 : ws = ws' → ∀ (m : Nat) (nb : List (List Nat)), k = m → 1 ≤ m → m ≤ 4 → tb = natT nb → TbOk oc oc' m nb → r = .mk ws m (qSub (joinT nb t') t)) : Ask C 4 (qO C t ws oc) (qO C t' ws' oc') (tbD tb) (.int k) r
  | fix {ws oc ps t b} {p x : Int} (h : QFit ws oc ps t) (r : AR) (h4 : ¬ (0 ≤ p ∧ p < 100 ∧ 0 ≤ x ∧ x < (wd ws p.toNat : Int)) → r = .range) (h5 : ∀ q o : Nat, p = q → x = o → q < 100 → o < wd ws q → r = .mk ws oc (qFx q o t)) : Ask C 5 (qO C t ws oc) b (.int p) (.int x) r
  | tail {ws oc ps t b y} {x : Int} (h : QFit ws oc ps t) (r : AR) (h4 : ¬ (0 ≤ x ∧ x < (wd ws 0 : Int)) → r = .range) (h5 : ∀ o : Nat, x = o → o < wd ws 0 → r = .mk (rotW ws) oc (qLow (qFx 0 o t))) : Ask C 6 (qO C t ws oc) b y (.int x) r
/-- what comes of it, said of the promises -/
def ArR (C Q L S O : Addr) (r : AR) (Φ : DK) (Ψ : XD → Sto → Prop) (μ : Sto) : Prop := match r with
  | .mk ws oc t => QTry ws oc t ∧ MkR C Q L ws oc t Φ Ψ μ
  | .size => Ψ (.mk S none) μ
  | .range => Ψ (.mk O none) μ
theorem MkR.mono {C Q L : Addr} {ws : List Int} {oc : Nat} {t : QT} {Φ Φ' : DK} {Ψ Ψ' : XD → Sto → Prop} {μ : Sto} (h : MkR C Q L ws oc t Φ Ψ μ) (h1 : Φ (qO C t ws oc) μ → Φ' (qO C t ws oc) μ) (h2 : ∀ y, Ψ y μ → Ψ' y μ) : MkR C Q L ws oc t Φ' Ψ' μ := by
  unfold MkR at h ⊢
  cases e : qMk ws t with
  | made => rw [e] at h; exact h1 h
  | deep p => rw [e] at h; exact h2 _ h
  | large => rw [e] at h; exact h2 _ h
def c__law_apply (C Q L S O : Addr) : Con := fun ds μ Φ Ψ => ∃ (how : Nat) (a b x y : D) (r : AR), ds = [.int (how : Int), a, b, x, y] ∧ Ask C how a b x y r ∧ ArR C Q L S O r Φ Ψ μ
theorem len__law_apply {C Q L S O ds μ Φ Ψ} (h : c__law_apply C Q L S O ds μ Φ Ψ) : ds.length = 5 := by obtain ⟨_, _, _, _, _, _, rfl, _⟩ := h; rfl
theorem ok__law_apply (T : Txt P w K mg) : FnOk P w K mg base (L2N.CX P w) 44 T.f__law_apply T.d__law_apply ["_law_how", "_law_first", "_law_second", "_law_one", "_law_other"] (spOf K (c__law_apply T.c_Query T.c_InvalidQuery T.c_TooLarge T.c_SizeMismatch T.c_OutOfRange)) := by
  refine def_okC T.F__law_apply sc__law_apply _ (fun ds μ Φ Ψ h => len__law_apply h) (fun cdv A outer s H E B hW hr =>
    have tk : L2N.Takes (cxOf (L2N.CX P w) P w K mg base N__law_apply "_law_apply" (defScope s__law_apply) T.f__law_apply cdv A outer s H E) (fun cls d _ H => E cls d H) := L2N.takes_of rfl rfl rfl rfl
    ⟨_, (pss_cons (ps_if (pt_cmpR op_eq (pv 0) pe_int (nomark _)) (pss_one (ps_ret (pe_binX T.sf_Query T.me_Query___and__ (ok_Query___and__ T) (hr.mono (by decide)) T.b_Query___and__ (fun σ => L2N.passAt tk σ) (pv 1) (pv 2)))) pss_nil)
      (pss_cons (ps_if (pt_cmpR op_eq (pv 0) pe_int (nomark _)) (pss_one (ps_ret (pe_binX T.sf_Query T.me_Query___or__ (ok_Query___or__ T) (hr.mono (by decide)) T.b_Query___or__ (fun σ => L2N.passAt tk σ) (pv 1) (pv 2)))) pss_nil)
      (pss_cons (ps_if (pt_cmpR op_eq (pv 0) pe_int (nomark _)) (pss_one (ps_ret (pe_binX T.sf_Query T.me_Query___xor__ (ok_Query___xor__ T) (hr.mono (by decide)) T.b_Query___xor__ (fun σ => L2N.passAt tk σ) (pv 1) (pv 2)))) pss_nil)
      (pss_cons (ps_if (pt_cmpR op_eq (pv 0) pe_int (nomark _)) (pss_one (ps_ret (pe_invX T.me_Query___invert__ (ok_Query___invert__ T) (hr.mono (by decide)) T.b_Query___invert__ (fun σ => L2N.passAt tk σ) (pv 1)))) pss_nil)
      (pss_cons (ps_if (pt_cmpR op_eq (pv 0) pe_int (nomark _)) (pss_one (ps_ret (pe_callS (ok_join_queries T) hr rfl T.g_join_queries T.F_join_queries.kp T.b_join_queries (fun σ => L2N.passAt tk σ) (pa_cons (pv 1) (pa_cons (pv 2) (pa_cons (pv 3) (pa_cons (pv 4) pa_nil))))))) pss_nil)
      (pss_cons (ps_if (pt_cmpR op_eq (pv 0) pe_int (nomark _)) (pss_one (ps_ret (pe_callS (ok_fix_place T) (hr.mono (by decide)) rfl T.g_fix_place T.F_fix_place.kp T.b_fix_place (fun σ => L2N.passAt tk σ) (pa_cons (pv 1) (pa_cons (pv 3) (pa_cons (pv 4) pa_nil)))))) pss_nil)
      (pss_one (ps_ret (pe_callS (ok_query_tail T) hr rfl T.g_query_tail T.F_query_tail.kp T.b_query_tail (fun σ => L2N.passAt tk σ) (pa_cons (pv 1) (pa_cons (pv 4) pa_nil))))))))))),
      (sSeq (sIfS (sTest (sOp roEq sVar sInt)) (sRet (sBinX (NS := NS_Query) (W := fun cls d _ H => E cls d H) (by exact hW) sVar sVar)) sNext)
      (sSeq (sIfS (sTest (sOp roEq sVar sInt)) (sRet (sBinX (NS := NS_Query) (W := fun cls d _ H => E cls d H) (by exact hW) sVar sVar)) sNext)
      (sSeq (sIfS (sTest (sOp roEq sVar sInt)) (sRet (sBinX (NS := NS_Query) (W := fun cls d _ H => E cls d H) (by exact hW) sVar sVar)) sNext)
      (sSeq (sIfS (sTest (sOp roEq sVar sInt)) (sRet (sInvX (NS := NS_Query) (W := fun cls d _ H => E cls d H) (by exact hW) sVar)) sNext)
      (sSeq (sIfS (sTest (sOp roEq sVar sInt)) (sRet (sCallSW (W := fun cls d _ H => E cls d H) (by exact hW) (sCons sVar (sCons sVar (sCons sVar (sCons sVar sNil)))))) sNext)
      (sSeq (sIfS (sTest (sOp roEq sVar sInt)) (sRet (sCallSW (W := fun cls d _ H => E cls d H) (by exact hW) (sCons sVar (sCons sVar (sCons sVar sNil))))) sNext)
      (sRet (sCallSW (W := fun cls d _ H => E cls d H) (by exact hW) (sCons sVar (sCons sVar sNil))))))))))⟩) (fun ds μ Φ Ψ h => ?hv)
  case hv =>
    obtain ⟨how, a, b, x, y, r, rfl, hA, h⟩ := h
    have mk_ : ∀ {ws oc t}, r = .mk ws oc t → QTry ws oc t ∧ MkR T.c_Query T.c_InvalidQuery T.c_TooLarge ws oc t Φ Ψ μ := fun e => by subst e; exact h
    have sz_ : r = .size → Ψ (.mk T.c_SizeMismatch none) μ := fun e => by subst e; exact h
    have rg_ : r = .range → Ψ (.mk T.c_OutOfRange none) μ := fun e => by subst e; exact h
    clear h
    cases hA with
    | @and ws ws' oc oc' t t' x y h1 h2 h3 r h4 h5 =>
      walk_at "wps"
      refine ⟨fun _ => ⟨_, _, rfl, rfl, ws, ws', oc, oc', t, t', rfl, h1, h2, h3, fun z => ⟨_, Sub.refl, sz_ (h5 z)⟩, fun a b c => ?_⟩, fun z => absurd rfl z⟩
      obtain ⟨q, hm⟩ := mk_ (h4 ⟨a, b, c⟩)
      exact ⟨q, hm.mono (fun z => ⟨⟨_, _, _, rfl⟩, ret_same z⟩) fun _ z => ⟨_, Sub.refl, z⟩⟩
    | @or ws ws' oc oc' t t' x y h1 h2 h3 r h4 h5 =>
      walk_at "wps"
      refine ⟨fun z => absurd z (by decide), fun _ => ⟨fun _ => ⟨_, _, rfl, rfl, ws, ws', oc, oc', t, t', rfl, h1, h2, h3, fun z => ⟨_, Sub.refl, sz_ (h5 z)⟩, fun a b c => ?_⟩, fun z => absurd rfl z⟩⟩
      obtain ⟨q, hm⟩ := mk_ (h4 ⟨a, b, c⟩)
      exact ⟨q, hm.mono (fun z => ⟨⟨_, _, _, rfl⟩, ret_same z⟩) fun _ z => ⟨_, Sub.refl, z⟩⟩
    | @xor ws ws' oc oc' t t' x y h1 h2 h3 g1 g2 r h4 h5 =>
      walk_at "wps"
      refine ⟨fun z => absurd z (by decide), fun _ => ⟨fun z => absurd z (by decide), fun _ => ⟨fun _ => ⟨_, _, rfl, rfl, ws, ws', oc, oc', t, t', rfl, h1, h2, g1, g2, h3, fun z => ⟨_, Sub.refl, sz_ (h5 z)⟩, fun a b c => ?_⟩, fun z => absurd rfl z⟩⟩⟩
      obtain ⟨q, hm⟩ := mk_ (h4 ⟨a, b, c⟩)
      exact ⟨q, hm.mono (fun z => ⟨⟨_, _, _, rfl⟩, ret_same z⟩) fun _ z => ⟨_, Sub.refl, z⟩⟩
    | @inv ws oc t b x y h1 h2 h3 r h4 h5 =>
      walk_at "wps"
      refine ⟨fun z => absurd z (by decide), fun _ => ⟨fun z => absurd z (by decide), fun _ => ⟨fun z => absurd z (by decide), fun _ => ⟨fun _ => ⟨_, rfl, ws, oc, t, rfl, h1, h2, h3, fun z => ⟨_, Sub.refl, sz_ (h5 z)⟩, fun a => ?_⟩, fun z => absurd rfl z⟩⟩⟩⟩
      obtain ⟨q, hm⟩ := mk_ (h4 a)
      exact ⟨q, hm.mono (fun z => ret_same z) fun _ z => ⟨_, Sub.refl, z⟩⟩
    | @join ws ws' oc oc' t t' tb k h1 h2 h3 g1 g2 b1 b2 k1 k2 r h4 h5 h6 =>
      walk_at "wps"
      refine ⟨fun z => absurd z (by decide), fun _ => ⟨fun z => absurd z (by decide), fun _ => ⟨fun z => absurd z (by decide), fun _ => ⟨fun z => absurd z (by decide), fun _ => ⟨fun _ => ⟨ws, ws', oc, oc', t, t', tb, k, rfl, h1, h2, g1, g2, h3, b1, b2, k1, k2, fun z => ⟨_, Sub.refl, sz_ (h4 z)⟩, fun e z => ⟨_, Sub.refl, rg_ (h5 e z)⟩, fun e m nb e1 e2 e3 e4 e5 => ?_⟩, fun z => absurd rfl z⟩⟩⟩⟩⟩
      obtain ⟨q, hm⟩ := mk_ (h6 e m nb e1 e2 e3 e4 e5)
      exact ⟨q, hm.mono (fun z => ret_same z) fun _ z => ⟨_, Sub.refl, z⟩⟩
    | @fix ws oc ps t b p x h r h4 h5 =>
      walk_at "wps"
      refine ⟨fun z => absurd z (by decide), fun _ => ⟨fun z => absurd z (by decide), fun _ => ⟨fun z => absurd z (by decide), fun _ => ⟨fun z => absurd z (by decide), fun _ => ⟨fun z => absurd z (by decide), fun _ => ⟨fun _ => ⟨ws, oc, ps, t, p, x, rfl, h, fun z => ⟨_, Sub.refl, rg_ (h4 z)⟩, fun q o e1 e2 e3 e4 => ?_⟩, fun z => absurd rfl z⟩⟩⟩⟩⟩⟩
      obtain ⟨q2, hm⟩ := mk_ (h5 q o e1 e2 e3 e4)
      unfold MkR at hm
      rw [(h.fix e4).mk_] at hm
      exact ret_same hm
    | @tail ws oc ps t b y x h r h4 h5 =>
      walk_at "wps"
      refine ⟨fun z => absurd z (by decide), fun _ => ⟨fun z => absurd z (by decide), fun _ => ⟨fun z => absurd z (by decide), fun _ => ⟨fun z => absurd z (by decide), fun _ => ⟨fun z => absurd z (by decide), fun _ => ⟨fun z => absurd z (by decide), fun _ => ⟨ws, oc, ps, t, x, rfl, h, fun z => ⟨_, Sub.refl, rg_ (h4 z)⟩, fun o e1 e2 => ?_⟩⟩⟩⟩⟩⟩⟩
      obtain ⟨q2, hm⟩ := mk_ (h5 o e1 e2)
      unfold MkR at hm
      have h0 : 0 ∉ qPl (qFx 0 o t) := fun z => (qFx_pl e2 t h.ok 0 z).2 rfl
      rw [((h.fix e2).low h0).mk_] at hm
      exact ret_same hm
theorem w_intBl {b : Bool} {μ : Sto} {Φ : DK} (h : Φ (.int (if b then 1 else 0)) μ) : cInt [.bl b] μ Φ := ⟨0, .inr ⟨b, rfl, h⟩⟩
def c__law_made (C Q L S O : Addr) : Con := fun ds μ Φ _ => ∃ (how : Nat) (a b x y : D) (r : AR), ds = [.int (how : Int), a, b, x, y] ∧ Ask C how a b x y r ∧
  (match r with
    | .mk ws oc t => QTry ws oc t ∧ Φ (dueD ws oc t) μ
    | .size => Φ (.tup [.str "refused", .int 1, .int 0, .int 0]) μ
    | .range => Φ (.tup [.str "refused", .int 0, .int 1, .int 0]) μ)
theorem len__law_made {C Q L S O ds μ Φ Ψ} (h : c__law_made C Q L S O ds μ Φ Ψ) : ds.length = 5 := by obtain ⟨_, _, _, _, _, _, rfl, _⟩ := h; rfl
theorem ok__law_made (T : Txt P w K mg) : FnOk P w K mg base (L2N.CX P w) 45 T.f__law_made T.d__law_made ["_law_how", "_law_first", "_law_second", "_law_one", "_law_other"] (spOf K (c__law_made T.c_Query T.c_InvalidQuery T.c_TooLarge T.c_SizeMismatch T.c_OutOfRange)) := by
  refine def_okC T.F__law_made sc__law_made _ (fun ds μ Φ Ψ h => len__law_made h) (fun cdv A outer s H E B hW hr =>
    have tk : L2N.Takes (cxOf (L2N.CX P w) P w K mg base N__law_made "_law_made" (defScope s__law_made) T.f__law_made cdv A outer s H E) (fun cls d _ H => E cls d H) := L2N.takes_of rfl rfl rfl rfl
    ⟨_, (pss_cons (L2N.ps_try_as (i := 5) rfl rfl sc__law_made.nd rfl rfl ⟨rfl, by decide, .inl T.g_ChoosersError⟩ tk (fun W pn xe tk pown => (pss_one (ps_set (i := 6) sc__law_made.nd rfl (Or.inl rfl) (pe_callS (ok__law_apply T) hr rfl T.g__law_apply T.F__law_apply.kp T.b__law_apply (fun σ => L2N.passAt tk σ) (pa_cons (pv 0) (pa_cons (pv 1) (pa_cons (pv 2) (pa_cons (pv 3) (pa_cons (pv 4) pa_nil)))))))))
      (fun a oe cls d pn hz hf => (pss_cons (ps_if (PW.pt (pw_and (pt_val (pe_callB (call_isH hz hf) (by rfl) T.z_isinstance (by decide +kernel) (pa_cons (pv 5) (pa_cons (pe_glob (v := .ref T.c_InvalidQuery) rfl T.g_InvalidQuery rfl) pa_nil)))) (pw_and (pt_not (pt_val (pe_callB (call_isH hz hf) (by rfl) T.z_isinstance (by decide +kernel) (pa_cons (pv 5) (pa_cons (pe_glob (v := .ref T.c_InvalidAim) rfl T.g_InvalidAim rfl) pa_nil))))) (pw_and1 (pt_not (pt_val (pe_callB (call_isH hz hf) (by rfl) T.z_isinstance (by decide +kernel) (pa_cons (pv 5) (pa_cons (pe_glob (v := .ref T.c_InvalidGame) rfl T.g_InvalidGame rfl) pa_nil))))))))) (pss_one (ps_ret (pe_tupN (pa_cons pe_str (pa_cons (pe_xf T.xf_InvalidQuery T.no_InvalidQuery hz.zc hf (pv 5)) pa_nil))))) pss_nil)
      (pss_cons (ps_if (PW.pt (pw_or (pt_val (pe_callB (call_isH hz hf) (by rfl) T.z_isinstance (by decide +kernel) (pa_cons (pv 5) (pa_cons (pe_glob (v := .ref T.c_InvalidTerm) rfl T.g_InvalidTerm rfl) pa_nil)))) (pw_or1 (pt_not (pt_val (pe_callB (call_isH hz hf) (by rfl) T.z_isinstance (by decide +kernel) (pa_cons (pv 5) (pa_cons (pe_bltn (v := .ty "ValueError") rfl T.z_ValueError (by decide +kernel) rfl) pa_nil)))))))) (pss_one (ps_ret (pe_tupN (pa_cons pe_str pa_nil)))) pss_nil)
      (pss_one (ps_ret (pe_tupN (pa_cons pe_str (pa_cons (pe_callTy call_int1 (by rfl) T.z_int (by decide +kernel) (pa_cons (pe_callB (call_isH hz hf) (by rfl) T.z_isinstance (by decide +kernel) (pa_cons (pv 5) (pa_cons (pe_glob (v := .ref T.c_SizeMismatch) rfl T.g_SizeMismatch rfl) pa_nil))) pa_nil)) (pa_cons (pe_callTy call_int1 (by rfl) T.z_int (by decide +kernel) (pa_cons (pe_callB (call_isH hz hf) (by rfl) T.z_isinstance (by decide +kernel) (pa_cons (pv 5) (pa_cons (pe_glob (v := .ref T.c_OutOfRange) rfl T.g_OutOfRange rfl) pa_nil))) pa_nil)) (pa_cons (pe_callTy call_int1 (by rfl) T.z_int (by decide +kernel) (pa_cons (pe_callB (call_isH hz hf) (by rfl) T.z_isinstance (by decide +kernel) (pa_cons (pv 5) (pa_cons (pe_glob (v := .ref T.c_TooLarge) rfl T.g_TooLarge rfl) pa_nil))) pa_nil)) pa_nil)))))))))))
      (pss_one (ps_ret (pe_tupN (pa_cons pe_str (pa_cons (pe_fld (pv 6) rfl) (pa_cons (pe_fld (pv 6) rfl) (pa_cons (pe_fld (pv 6) rfl) pa_nil)))))))),
      (sSeq (sTryAs (c := .ref T.c_ChoosersError) (i := 5) hW (fun W B hW => (sAsg (sCallSW (W := W) (by exact hW) (sCons sVar (sCons sVar (sCons sVar (sCons sVar (sCons sVar sNil)))))) sName))
      (fun a cls dd x B hW rx => (sSeq (sIfS (sAnd (sB (sIsE rx (sCons sVar (sCons sHd sNil)))) (sAnd (sNot (sB (sIsE rx (sCons sVar (sCons sHd sNil))))) (sNot (sB (sIsE rx (sCons sVar (sCons sHd sNil))))))) (sRet (sTup (sCons sStr (sCons (sXf (C := T.c_InvalidQuery) rx sVar) sNil)))) sNext)
      (sSeq (sIfS (sOr (sB (sIsE rx (sCons sVar (sCons sHd sNil)))) (sNot (sB (sIsE rx (sCons sVar (sCons sHd sNil)))))) (sRet (sTup (sCons sStr sNil))) sNext)
      (sRet (sTup (sCons sStr (sCons (sCB rcInt (sCons (sIsE rx (sCons sVar (sCons sHd sNil))) sNil)) (sCons (sCB rcInt (sCons (sIsE rx (sCons sVar (sCons sHd sNil))) sNil)) (sCons (sCB rcInt (sCons (sIsE rx (sCons sVar (sCons sHd sNil))) sNil)) sNil))))))))))
      (sRet (sTup (sCons sStr (sCons (sFldO (NS := NS_Query) (i := 0) T.cls_Query T.na_Query_term rfl (by decide) sVar) (sCons (sFldO (NS := NS_Query) (i := 1) T.cls_Query T.na_Query_widths rfl (by decide) sVar) (sCons (sFldO (NS := NS_Query) (i := 2) T.cls_Query T.na_Query_outcomes rfl (by decide) sVar) sNil)))))))⟩) (fun ds μ Φ Ψ h => ?hv)
  case hv =>
    obtain ⟨how, a, b, x, y, r, rfl, hA, h⟩ := h
    refine seq_cut fun M hM => ?_
    walk_at "wp"
    refine ⟨how, a, b, x, y, r, rfl, hA, ?_⟩
    cases r with
    | mk ws oc t =>
      obtain ⟨hq, h⟩ := h
      refine ⟨hq, ?_⟩
      unfold dueD at h
      unfold MkR
      cases e : qMk ws t with
      | made =>
        rw [e] at h
        simp only at h ⊢
        have e1 : ∀ t ws oc, qO T.c_Query t ws oc = D.obj T.c_Query NS_Query [qD t, .tup (ws.map .int), .int (oc : Int)] := fun _ _ _ => rfl
        rw [e1, hM]; clear hM M
        walk_at "wps"
        exact ⟨by decide, ret_same h⟩
      | deep p =>
        rw [e] at h
        simp only at h ⊢
        refine ⟨true, T.m_InvalidQuery_ChoosersError, fun _ a ha => ?_, nofun⟩
        walk_at "wps"
        exact ⟨true, T.i_InvalidQuery_InvalidQuery, T.ec_InvalidQuery, fun _ => ⟨false, T.i_InvalidQuery_InvalidAim, T.ec_InvalidQuery, fun _ => ⟨false, T.i_InvalidQuery_InvalidGame, T.ec_InvalidQuery, fun _ => ⟨by decide, ret_same h⟩, nofun⟩, nofun⟩, nofun⟩
      | large =>
        rw [e] at h
        simp only at h ⊢
        refine ⟨true, T.m_TooLarge_ChoosersError, fun _ a ha => ?_, nofun⟩
        walk_at "wps"
        refine ⟨false, T.i_TooLarge_InvalidQuery, T.ec_TooLarge, nofun, fun _ => ⟨false, T.i_TooLarge_InvalidTerm, T.ec_TooLarge, nofun, fun _ => ⟨true, T.i_TooLarge_ValueError, T.ec_TooLarge, nofun, fun _ => ⟨false, T.i_TooLarge_SizeMismatch, T.ec_TooLarge, w_intBl ?_⟩⟩⟩⟩
        walk_at "wps"
        refine ⟨false, T.i_TooLarge_OutOfRange, T.ec_TooLarge, w_intBl ?_⟩
        walk_at "wps"
        refine ⟨true, T.i_TooLarge_TooLarge, T.ec_TooLarge, w_intBl ?_⟩
        walk_at "wps"
        exact ⟨by decide, ret_same h⟩
    | size =>
      show ∃ b, _ ∧ _
      refine ⟨true, T.m_SizeMismatch_ChoosersError, fun _ a ha => ?_, nofun⟩
      walk_at "wps"
      refine ⟨false, T.i_SizeMismatch_InvalidQuery, T.ec_SizeMismatch, nofun, fun _ => ⟨false, T.i_SizeMismatch_InvalidTerm, T.ec_SizeMismatch, nofun, fun _ => ⟨true, T.i_SizeMismatch_ValueError, T.ec_SizeMismatch, nofun, fun _ => ⟨true, T.i_SizeMismatch_SizeMismatch, T.ec_SizeMismatch, w_intBl ?_⟩⟩⟩⟩
      walk_at "wps"
      refine ⟨false, T.i_SizeMismatch_OutOfRange, T.ec_SizeMismatch, w_intBl ?_⟩
      walk_at "wps"
      refine ⟨false, T.i_SizeMismatch_TooLarge, T.ec_SizeMismatch, w_intBl ?_⟩
      walk_at "wps"
      exact ⟨by decide, ret_same h⟩
    | range =>
      show ∃ b, _ ∧ _
      refine ⟨true, T.m_OutOfRange_ChoosersError, fun _ a ha => ?_, nofun⟩
      walk_at "wps"
      refine ⟨false, T.i_OutOfRange_InvalidQuery, T.ec_OutOfRange, nofun, fun _ => ⟨false, T.i_OutOfRange_InvalidTerm, T.ec_OutOfRange, nofun, fun _ => ⟨true, T.i_OutOfRange_ValueError, T.ec_OutOfRange, nofun, fun _ => ⟨false, T.i_OutOfRange_SizeMismatch, T.ec_OutOfRange, w_intBl ?_⟩⟩⟩⟩
      walk_at "wps"
      refine ⟨true, T.i_OutOfRange_OutOfRange, T.ec_OutOfRange, w_intBl ?_⟩
      walk_at "wps"
      refine ⟨false, T.i_OutOfRange_TooLarge, T.ec_OutOfRange, w_intBl ?_⟩
      walk_at "wps"
      exact ⟨by decide, ret_same h⟩
end
section
variable {P : Program} {w : World} {K : Fg} {mg : Str → Option Value} {base : Heap}
theorem tells10 : qDs (tellsQ [1, 0]) = [.tup [.str "tell", .int 1], .tup [.str "tell", .int 0]] := by rw [tellsQ_D]; rfl
def fiveQ (t s : QT) (nb : List (List Nat)) : List QT := [qSub [.tell 0, s] t, qSub [s, .tell 1] t, qSub [s, qSub (tellsQ [1, 0]) s] t, qSub (tellsQ [1, 0]) t, qSub (joinT nb s) t]
theorem natT_len (nb : List (List Nat)) : (natT nb).length = nb.length := by unfold natT; rw [List.length_map]
def c__law_terms : Con := fun ds μ Φ _ => ∃ (ws : List Int) (t s : QT) (nb : List (List Nat)) (k : Nat), ds = [qD t, qD s, tbD (natT nb)] ∧ QOk ws 2 t ∧ QOk ws 2 s ∧ WsOk ws ∧ qDep t < 38 ∧ qDep s < 38 ∧ TbOk 2 2 k nb ∧ Φ (.lst (qDs (fiveQ t s nb))) μ
theorem len__law_terms {ds μ Φ Ψ} (h : c__law_terms ds μ Φ Ψ) : ds.length = 3 := by obtain ⟨_, _, _, _, _, rfl, _⟩ := h; rfl
theorem ok__law_terms (T : Txt P w K mg) : FnOk P w K mg base (L2N.CX P w) 41 T.f__law_terms T.d__law_terms ["_law_first", "_law_second", "_law_table_here"] (spOf K c__law_terms) := by
  refine def_okC T.F__law_terms sc__law_terms _ (fun ds μ Φ Ψ h => len__law_terms h) (fun cdv A outer s H E B hW hr =>
    have tk : L2N.Takes (cxOf (L2N.CX P w) P w K mg base N__law_terms "_law_terms" (defScope s__law_terms) T.f__law_terms cdv A outer s H E) (fun cls d _ H => E cls d H) := L2N.takes_of rfl rfl rfl rfl
    ⟨_, (pss_cons (ps_set (i := 3) sc__law_terms.nd rfl (Or.inl rfl) (pe_call (ok__law_replaced T) hr rfl T.g__law_replaced T.F__law_replaced.kp T.b__law_replaced .nil passN (pa_cons (pv 1) (pa_cons (pe_tupN (pa_cons (pe_tupN (pa_cons pe_str (pa_cons pe_int pa_nil))) (pa_cons (pe_tupN (pa_cons pe_str (pa_cons pe_int pa_nil))) pa_nil))) pa_nil))))
      (pss_cons (ps_set (i := 4) sc__law_terms.nd rfl (Or.inl rfl) (pe_callTy call_tupleN (by rfl) T.z_tuple (by decide +kernel) (pa_cons (pe_lc (own := [("_law_row", 6)]) rfl sc__law_terms.nd (pi_tup (pv 2)) (blkOk_by (N := N__law_terms) (sc := defScope s__law_terms) (by decide +kernel)) (fun _ _ _ _ _ => (pg_name (i := 6) sc__law_terms.nd rfl (Or.inl rfl))) (fun _ _ _ _ _ => pts_nil) (fun _ _ _ _ _ => (pe_call (ok__law_replaced T) hr rfl T.g__law_replaced T.F__law_replaced.kp T.b__law_replaced .nil passN (pa_cons (pv 1) (pa_cons (pe_callTy call_tupleN (by rfl) T.z_tuple (by decide +kernel) (pa_cons (pe_lc (own := [("_law_r", 7)]) rfl sc__law_terms.nd (pi_tup (pv 6)) (blkOk_by (N := N__law_terms) (by exact rfl)) (fun _ _ _ _ _ => (pg_name (i := 7) sc__law_terms.nd rfl (Or.inl rfl))) (fun _ _ _ _ _ => pts_nil) (fun _ _ _ _ _ => (pe_tupN (pa_cons pe_str (pa_cons (pv 7) pa_nil))))) pa_nil)) pa_nil))))) pa_nil)))
      (pss_cons (ps_set (i := 5) sc__law_terms.nd rfl (Or.inl rfl) (pe_lst (pa_cons (pe_call (ok__law_replaced T) hr rfl T.g__law_replaced T.F__law_replaced.kp T.b__law_replaced .nil passN (pa_cons (pv 0) (pa_cons (pe_tupN (pa_cons (pe_tupN (pa_cons pe_str (pa_cons pe_int pa_nil))) (pa_cons (pv 1) pa_nil))) pa_nil))) (pa_cons (pe_call (ok__law_replaced T) hr rfl T.g__law_replaced T.F__law_replaced.kp T.b__law_replaced .nil passN (pa_cons (pv 0) (pa_cons (pe_tupN (pa_cons (pv 1) (pa_cons (pe_tupN (pa_cons pe_str (pa_cons pe_int pa_nil))) pa_nil))) pa_nil))) pa_nil))))
      (pss_cons (ps_expr (pe_bm PySem.F.plainAttrs_list PySem.F.slot_list_append PySem.F.type_list_append mt_append (pv 5) (pa_cons (pe_call (ok__law_replaced T) hr rfl T.g__law_replaced T.F__law_replaced.kp T.b__law_replaced .nil passN (pa_cons (pv 0) (pa_cons (pe_tupN (pa_cons (pv 1) (pa_cons (pv 3) pa_nil))) pa_nil))) pa_nil)))
      (pss_one (ps_ret (pe_op op_cat (pv 5) (pe_lst (pa_cons (pe_call (ok__law_replaced T) hr rfl T.g__law_replaced T.F__law_replaced.kp T.b__law_replaced .nil passN (pa_cons (pv 0) (pa_cons (pe_tupN (pa_cons (pe_tupN (pa_cons pe_str (pa_cons pe_int pa_nil))) (pa_cons (pe_tupN (pa_cons pe_str (pa_cons pe_int pa_nil))) pa_nil))) pa_nil))) (pa_cons (pe_call (ok__law_replaced T) hr rfl T.g__law_replaced T.F__law_replaced.kp T.b__law_replaced .nil passN (pa_cons (pv 0) (pa_cons (pv 4) pa_nil))) pa_nil)))))))))),
      (sSeq (sAsg (sCall (sCons sVar (sCons (sTup (sCons (sTup (sCons sStr (sCons sInt sNil))) (sCons (sTup (sCons sStr (sCons sInt sNil))) sNil))) sNil))) sName)
      (sSeq (sAsg (sCB rcTuple (sCons (sLc (siT sVar) (gwName List.mem_cons_self) (fun _ _ _ => sName) (fun _ _ _ => sYes) (fun _ _ _ => (sCall (sCons sVar (sCons (sCB rcTuple (sCons (sLc (siT sVar) (gwName List.mem_cons_self) (fun _ _ _ => sName) (fun _ _ _ => sYes) (fun _ _ _ => (sTup (sCons sStr (sCons sVar sNil))))) sNil)) sNil))))) sNil)) sName)
      (sSeq (sAsg (sOwn (sCons (sCall (sCons sVar (sCons (sTup (sCons (sTup (sCons sStr (sCons sInt sNil))) (sCons sVar sNil))) sNil))) (sCons (sCall (sCons sVar (sCons (sTup (sCons sVar (sCons (sTup (sCons sStr (sCons sInt sNil))) sNil))) sNil))) sNil))) sName)
      (sSeq (sDrop (sApp sVar (sCall (sCons sVar (sCons (sTup (sCons sVar (sCons sVar sNil))) sNil)))))
      (sRet (sOp roCatL sRest (sLst (sCons (sCall (sCons sVar (sCons (sTup (sCons (sTup (sCons sStr (sCons sInt sNil))) (sCons (sTup (sCons sStr (sCons sInt sNil))) sNil))) sNil))) (sCons (sCall (sCons sVar (sCons sVar sNil))) sNil)))))))))⟩) (fun ds μ Φ Ψ h => ?hv)
  case hv =>
    obtain ⟨ws, t, s, nb, k, rfl, ht, hs, hw, d1, d2, hb, h⟩ := h
    have e2 : ∀ u : QT, [qD u] = qDs [u] := fun u => by rw [qDs, qDs]
    have e3 : ∀ u v : QT, [qD u, qD v] = qDs [u, v] := fun u v => by rw [qDs, qDs, qDs]
    have t0 : ∀ o : Nat, D.tup [.str "tell", .int (o : Int)] = qD (.tell o) := fun o => by rw [qD]
    refine seq_cut fun M hM => ?_
    walk_at "wp"
    refine ⟨by decide, by decide, by decide, ws, 2, s, tellsQ [1, 0], by rw [tells10], hs, hw, by decide, d2, ?_⟩
    rw [hM]; clear hM M
    refine seq_cut fun M hM => ?_
    unfold tbD
    walk_at "wp"
    have hl4 : nb.length = 2 := hb.l
    refine lcG_mapN (fun i => qD (qSub (tellsQ (nb.getD i [])) s)) (by rw [List.length_map, natT_len]; omega) (fun i d μ2 X hi hsub hx => ?_) ?_
    · unfold natT at hi
      rw [List.map_map, List.getElem?_map, Option.map_eq_some_iff] at hi
      obtain ⟨os, hos, rfl⟩ := hi
      have hm := List.mem_of_getElem? hos
      have hol := (hb.r os hm).1
      rw [List.getD_eq_getElem?_getD, hos] at hx
      walk_at "wps"
      refine ⟨_, rfl, lcG_mapN (fun i => .tup [.str "tell", .int ((os.getD i 0 : Nat) : Int)]) ?_ (fun j d μ3 X3 hj hsub3 hx3 => ?_) ?_⟩
      · rw [List.length_map, List.length_map]; omega
      · rw [List.map_map, List.getElem?_map, Option.map_eq_some_iff] at hj
        obtain ⟨o, ho, rfl⟩ := hj
        rw [List.getD_eq_getElem?_getD, ho] at hx3
        walk_at "wps"
        exact ⟨by decide, hx3⟩
      · have e : (List.range ((os.map fun (n : Nat) => (n : Int)).map D.int).length).map (fun i => D.tup [.str "tell", .int ((os.getD i 0 : Nat) : Int)]) = qDs (tellsQ os) := by
          rw [tellsQ_D, List.length_map, List.length_map]
          refine List.ext_getElem (by rw [List.length_map, List.length_range, List.length_map]) fun i h1 h2 => ?_
          have hi : i < os.length := by rw [List.length_map] at h2; exact h2
          rw [List.getElem_map, List.getElem_range, List.getElem_map, List.getD_eq_getElem?_getD, List.getElem?_eq_getElem hi]
          rfl
        rw [e]
        refine ⟨_, .lst _, ws, 2, s, tellsQ os, rfl, hs, hw, by unfold tellsQ; rw [List.length_map, hol]; exact Nat.le_refl _, d2, hx⟩
    · have ej : (List.range (List.map (fun r => D.tup (List.map D.int r)) (natT nb)).length).map (fun i => qD (qSub (tellsQ (nb.getD i [])) s)) = qDs (joinT nb s) := by
        rw [List.length_map, natT_len, qDs_map]
        unfold joinT
        rw [List.map_map]
        refine List.ext_getElem (by rw [List.length_map, List.length_range, List.length_map]) fun i a b => ?_
        have hi : i < nb.length := by rw [List.length_map] at b; exact b
        rw [List.getElem_map, List.getElem_range, List.getElem_map, List.getD_eq_getElem?_getD, List.getElem?_eq_getElem hi]
        rfl
      rw [ej]
      refine ⟨_, .lst _, ?_⟩
      rw [hM]; clear hM M
      refine seq_cut fun M hM => ?_
      walk_at "wp"
      refine ⟨by decide, by decide, ws, 2, t, [.tell 0, s], rfl, ht, hw, Nat.le_refl 2, d1, by decide, by decide, ws, 2, t, [s, .tell 1], rfl, ht, hw, Nat.le_refl 2, d1, by decide, fun p hp => ?_⟩
      rw [hM]; clear hM M
      refine seq_cut fun M hM => ?_
      walk_at "wp"
      refine ⟨by decide, ws, 2, t, [s, qSub (tellsQ [1, 0]) s], rfl, ht, hw, Nat.le_refl 2, d1, _, sset_same, Nat.le_of_ble_eq_true rfl, ?_⟩
      rw [hM]; clear hM M
      rw [sset_sset]
      walk_at "wps"
      refine ⟨by decide, by decide, by decide, ws, 2, t, tellsQ [1, 0], by rw [tells10], ht, hw, by decide, d1, ws, 2, t, joinT nb s, rfl, ht, hw, by unfold joinT; rw [List.length_map, hl4]; exact Nat.le_refl 2, d1, by decide, ?_⟩
      refine ⟨by decide, μ, Sub.set Sub.refl hp, ?_⟩
      unfold fiveQ at h
      simpa only [qDs] using h
def tog (how r s : Nat) (nb : List (List Nat)) : Nat := match how with
  | 0 => r * s
  | 1 => max r s
  | 2 => if r = s then 0 else 1
  | 3 => 1 - r
  | _ => (nb.getD r []).getD s 0
def c__law_together : Con := fun ds μ Φ _ => ∃ (how r s k : Nat) (nb : List (List Nat)), ds = [.int (how : Int), .int (r : Int), .int (s : Int), tbD (natT nb)] ∧ how < 5 ∧ r < 2 ∧ s < 2 ∧ TbOk 2 2 k nb ∧ Φ (.int ((tog how r s nb : Nat) : Int)) μ
theorem len__law_together {ds μ Φ Ψ} (h : c__law_together ds μ Φ Ψ) : ds.length = 4 := by obtain ⟨_, _, _, _, _, rfl, _⟩ := h; rfl
theorem ok__law_together {cx : CXT} (T : Txt P w K mg) : FnOk P w K mg base cx 1 T.f__law_together T.d__law_together ["_law_how", "_law_r", "_law_s", "_law_table_here"] (spOf K c__law_together) := by
  refine def_okC T.F__law_together sc__law_together _ (fun ds μ Φ Ψ h => len__law_together h) (fun cdv A outer s H E B hW hr =>
    ⟨_, (pss_cons (ps_if (pt_cmpR op_eq (pv 0) pe_int (nomark _)) (pss_one (ps_ret (pe_op op_mulX (pv 1) (pv 2)))) pss_nil)
      (pss_cons (ps_if (pt_cmpR op_eq (pv 0) pe_int (nomark _)) (pss_one (ps_ret (pe_callB (call_max2 rfl) (by rfl) T.z_max (by decide +kernel) (pa_cons (pv 1) (pa_cons (pv 2) pa_nil))))) pss_nil)
      (pss_cons (ps_if (pt_cmpR op_eq (pv 0) pe_int (nomark _)) (pss_one (ps_ret (pe_callTy call_int1 (by rfl) T.z_int (by decide +kernel) (pa_cons (pe_cmpR op_ne (pv 1) (pv 2) (nomark _)) pa_nil)))) pss_nil)
      (pss_cons (ps_if (pt_cmpR op_eq (pv 0) pe_int (nomark _)) (pss_one (ps_ret (pe_op op_sub pe_int (pv 1)))) pss_nil)
      (pss_one (ps_ret (pe_ix ix_tup (pe_ix ix_tup (pv 3) (pv 1) (fun _ _ => rfl)) (pv 2) (fun _ _ => rfl)))))))),
      (sSeq (sIfS (sTest (sOp roEq sVar sInt)) (sRet (sOp roInt sVar sVar)) sNext)
      (sSeq (sIfS (sTest (sOp roEq sVar sInt)) (sRet (sCB rcMax2 (sCons sVar (sCons sVar sNil)))) sNext)
      (sSeq (sIfS (sTest (sOp roEq sVar sInt)) (sRet (sCB rcInt (sCons (sOp roNe sVar sVar) sNil))) sNext)
      (sSeq (sIfS (sTest (sOp roEq sVar sInt)) (sRet (sOp roInt0 sInt sVar)) sNext)
      (sRet (sOp roIxT (sOp roIxT sVar sVar) sVar))))))⟩) (fun ds μ Φ Ψ h => ?hv)
  case hv =>
    obtain ⟨how, r, s, k, nb, rfl, hh, hr, hs, hb, h⟩ := h
    unfold tbD
    have hrl : r < nb.length := by rw [hb.l]; exact hr
    obtain ⟨hos, _⟩ := hb.r _ (List.getElem_mem hrl)
    have hsl : s < nb[r].length := by omega
    walk_at "wps"
    refine ⟨fun q => ⟨mulx 2 2 (by omega) (by omega) (by decide), ?_⟩, fun q0 => ⟨fun q => ?_, fun q1 => ⟨fun q => ?_, fun q2 => ⟨fun q => ?_, fun q3 => ?_⟩⟩⟩⟩
    · have : how = 0 := by omega
      subst this
      exact ret_same (by rw [tog] at h; rw [← Int.natCast_mul]; exact h)
    · have : how = 1 := by omega
      subst this
      refine ⟨_, _, rfl, ret_same ?_⟩
      rw [tog] at h
      have e : (max (r : Int) (s : Int)) = ((max r s : Nat) : Int) := by omega
      first | (rw [e]; exact h) | (rw [show (if (r : Int) < (s : Int) then (s : Int) else (r : Int)) = ((max r s : Nat) : Int) by split <;> omega]; exact h)
    · have : how = 2 := by omega
      subst this
      rw [tog] at h
      refine w_intBl (ret_same ?_)
      by_cases z : r = s
      · rw [if_pos z] at h; subst z; simpa using h
      · rw [if_neg z] at h
        rw [decide_eq_false (show ¬ (r : Int) = (s : Int) by omega)]
        exact h
    · have : how = 3 := by omega
      subst this
      rw [tog] at h
      rw [show (1 : Int) - (r : Int) = ((1 - r : Nat) : Int) by omega]
      exact ret_same h
    · have : how = 4 := by omega
      subst this
      rw [tog] at h
      · refine ⟨_, atI_nat (v := .tup ((nb[r].map fun (n : Nat) => (n : Int)).map .int)) (by unfold natT; rw [List.map_map, List.getElem?_map, List.getElem?_eq_getElem hrl]; rfl), ?_⟩
        walk_at "wps"
        refine ⟨_, atI_nat (v := .int ((nb[r][s] : Nat) : Int)) (by rw [List.map_map, List.getElem?_map, List.getElem?_eq_getElem hsl]; rfl), ret_same ?_⟩
        rw [List.getD_eq_getElem?_getD, List.getD_eq_getElem?_getD, List.getElem?_eq_getElem hrl, Option.getD_some, List.getElem?_eq_getElem hsl] at h
        exact h
      all_goals omega
def c__law_table : Con := fun ds μ Φ _ => ∃ (st : Addr) (ns : List Int) (c : List D) (a b k : Nat), ds = [.hd (.ref st), .int (a : Int), .int (b : Int), .int (k : Int)] ∧ μ st = some (.lst c) ∧ StC ns c ∧ a ≤ 4 ∧ b ≤ 4 ∧ 1 ≤ k ∧ k ≤ 4 ∧ ∀ nb c', TbOk a b k nb → StC ns c' → Φ (tbD (natT nb)) (sset μ st (.lst c'))
theorem len__law_table {ds μ Φ Ψ} (h : c__law_table ds μ Φ Ψ) : ds.length = 4 := by obtain ⟨_, _, _, _, _, _, rfl, _⟩ := h; rfl
theorem ok__law_table {cx : CXT} (T : Txt P w K mg) : FnOk P w K mg base cx 2 T.f__law_table T.d__law_table ["_law_state", "_law_rows", "_law_columns", "_law_outcomes"] (spOf K c__law_table) := by
  refine def_okC T.F__law_table sc__law_table _ (fun ds μ Φ Ψ h => len__law_table h) (fun cdv A outer s H E B hW hr =>
    ⟨_, (pss_one (ps_ret (pe_callTy call_tupleN (by rfl) T.z_tuple (by decide +kernel) (pa_cons (pe_lc (own := [("_law_r", 4)]) rfl sc__law_table.nd (pi_range1 rfl T.z_range (pa_cons (pv 1) pa_nil)) (blkOk_by (N := N__law_table) (sc := defScope s__law_table) (by decide +kernel)) (fun _ _ _ _ _ => (pg_name (i := 4) sc__law_table.nd rfl (Or.inl rfl))) (fun _ _ _ _ _ => pts_nil) (fun _ _ _ _ _ => (pe_callTy call_tupleN (by rfl) T.z_tuple (by decide +kernel) (pa_cons (pe_lc (own := [("_law_s", 5)]) rfl sc__law_table.nd (pi_range1 rfl T.z_range (pa_cons (pv 2) pa_nil)) (blkOk_by (N := N__law_table) (by exact rfl)) (fun _ _ _ _ _ => (pg_name (i := 5) sc__law_table.nd rfl (Or.inl rfl))) (fun _ _ _ _ _ => pts_nil) (fun _ _ _ _ _ => (pe_call (ok__law_pick T) hr rfl T.g__law_pick T.F__law_pick.kp T.b__law_pick .nil passN (pa_cons (pv 0) (pa_cons (pv 3) pa_nil))))) pa_nil)))) pa_nil)))),
      (sRet (sCB rcTuple (sCons (sLc (siR1 sVar) (gwName List.mem_cons_self) (fun _ _ _ => sName) (fun _ _ _ => sYes) (fun _ _ _ => (sCB rcTuple (sCons (sLc (siR1 sVar) (gwName List.mem_cons_self) (fun _ _ _ => sName) (fun _ _ _ => sYes) (fun _ _ _ => (sCall (sCons sVar (sCons sVar sNil))))) sNil)))) sNil)))⟩) (fun ds μ Φ Ψ h => ?hv)
  case hv =>
    obtain ⟨st, ns, c, a, b, k, rfl, hc, sc, ha, hb, k1, k4, h⟩ := h
    walk_at "wps"
    refine ⟨by omega, by omega, lcG_drawN (StC ns) (fun i acc => ∃ nb : List (List Nat), acc = (natT nb).map (fun r => .tup (r.map .int)) ∧ nb.length = i ∧ ∀ os ∈ nb, os.length = b ∧ ∀ o ∈ os, o < k) (by rw [rngD_len]; omega) hc sc ⟨[], rfl, rfl, by simp⟩ (fun i d μ2 X acc c2 hi hs2 sc ⟨nb, e, hl, hP⟩ hla hx => ?_) (fun acc c2 ⟨nb, e, hl, hP⟩ hla sc => ?_)⟩
    · obtain ⟨hj, rfl⟩ := rngD_get hi
      walk_at "wps"
      refine ⟨by omega, by omega, lcP (fun _ y => 0 ≤ y ∧ y < (k : Int)) (by omega) hs2 sc (fun j μ3 X3 c7 hj hs7 sc7 hx7 => ?_) (fun l c7 hl2 hP2 sc => ?_)⟩
      · walk_at "wps"
        exact ⟨st, ns, c7, k, rfl, hs7, sc7, by omega, log_small (by omega), fun y c8 y0 y1 sc8 => hx7 y c8 sc8 ⟨y0, y1⟩⟩
      · obtain ⟨os, rfl⟩ : ∃ os : List Nat, l = os.map fun (n : Nat) => (n : Int) := ⟨l.map Int.toNat, by
          rw [List.map_map]
          refine ((List.map_congr_left fun x hx => ?_).trans (List.map_id _)).symm
          have := (all_of_get (P := fun y => 0 ≤ y ∧ y < (k : Int)) hP2 x hx).1
          show ((x.toNat : Nat) : Int) = x
          omega⟩
        refine ⟨_, .lst _, hx _ c7 sc ⟨nb ++ [os], ?_, by rw [List.length_append, hl]; rfl, fun r hr => ?_⟩⟩
        · rw [e]; unfold natT; rw [List.map_append, List.map_append]; rfl
        · rcases List.mem_append.mp hr with z | z
          · exact hP r z
          · rw [List.mem_singleton.mp z]
            rw [List.length_map] at hl2
            refine ⟨hl2, fun o ho => ?_⟩
            have := (all_of_get (P := fun y => 0 ≤ y ∧ y < (k : Int)) hP2 _ (List.mem_map.mpr ⟨o, ho, rfl⟩)).2
            omega
    · rw [rngD_len] at hl
      rw [e]
      exact ⟨_, .lst _, ret_same (h nb c2 ⟨hl, hP⟩ sc)⟩
end
section
variable {P : Program} {w : World} {K : Fg} {mg : Str → Option Value} {base : Heap}
section
variable {P : Program} {w : World} {K : Fg} {mg : Str → Option Value} {base : Heap}
theorem okN__law_same (T : Txt P w K mg) : ∀ n, FnOk P w K mg base (L2N.CX P w) n T.f__law_same T.d__law_same ["_law_actual", "_law_due_here"] (spOf K (c__law_same n))
  | 0 => fn_never fun ds μ Φ Ψ h => h
  | n + 1 => step__law_same T (Nat.zero_le _) n (okN__law_same T n)
theorem ok__law_same (T : Txt P w K mg) : FnOk P w K mg base (L2N.CX P w) 30 T.f__law_same T.d__law_same ["_law_actual", "_law_due_here"] (spOf K (c__law_same 30)) := okN__law_same T 30
end
mutual
theorem same_refl : ∀ d : D, plainD d = true → sameD d d = true
  | .non, _ => rfl
  | .bl b, _ => by simp [sameD]
  | .int b, _ => by simp [sameD]
  | .str b, _ => by simp [sameD]
  | .tup ds, h => by
    simp only [plainD, Bool.and_eq_true] at h
    simp only [sameD]
    exact sames_refl ds h.1
  | .lst _, h => by simp [plainD] at h
  | .pr _, h => by simp [plainD] at h
  | .obj _ _ _, h => by simp [plainD] at h
  | .hd _, h => by simp [plainD] at h
  | .scr _, h => by simp [plainD] at h
theorem sames_refl : ∀ ds : List D, plainDs ds = true → sameDs ds ds = true
  | [], _ => rfl
  | d :: ds, h => by simp only [plainDs, Bool.and_eq_true] at h; simp only [sameDs, same_refl d h.1, sames_refl ds h.2, Bool.and_self]
end
/-- may be compared -/
structure Pln (d : D) (n : Nat) : Prop where
  p : plainD d = true
  d : depD d ≤ n
theorem same_self {d : D} {μ : Sto} {Φ : DK} {Ψ : XD → Sto → Prop} (h0 : Pln d 30) (h : Φ (.bl true) μ) : c__law_same 30 [d, d] μ Φ Ψ := same_at h0.p h0.p h0.d (by rw [same_refl d h0.p]; exact h)
theorem plainDs_ints : ∀ l : List Int, plainDs (l.map .int) = true
  | [] => rfl
  | a :: l => by simp only [List.map_cons, plainDs, plainD, plainDs_ints l, Bool.and_self]
theorem depDs_ints : ∀ l : List Int, depDs (l.map .int) ≤ 1
  | [] => by simp [depDs]
  | a :: l => by have := depDs_ints l; simp only [List.map_cons, depDs, depD]; omega
theorem Pln.int {i : Int} {n : Nat} : Pln (.int i) (n + 1) := ⟨rfl, by simp [depD]⟩
theorem Pln.str {i : Str} {n : Nat} : Pln (.str i) (n + 1) := ⟨rfl, by simp [depD]⟩
theorem Pln.ints {l : List Int} {n : Nat} (h : l.length ≤ 1000) : Pln (.tup (l.map .int)) (n + 2) :=
  ⟨by simp only [plainD, plainDs_ints, List.length_map, Bool.true_and, decide_eq_true_eq]; omega, by have := depDs_ints l; simp only [depD]; omega⟩
theorem pln_all : ∀ {ds : List D} {n : Nat}, (∀ d ∈ ds, Pln d n) → plainDs ds = true ∧ depDs ds ≤ n
  | [], n, h => ⟨rfl, by simp [depDs]⟩
  | d :: ds, n, h => by
    obtain ⟨a, b⟩ := pln_all (ds := ds) (n := n) fun e he => h e (List.mem_cons_of_mem _ he)
    have c := h d List.mem_cons_self
    exact ⟨by simp only [plainDs, a, c.p, Bool.and_self], by have := c.d; simp only [depDs]; omega⟩
theorem Pln.tup {ds : List D} {n : Nat} (hl : ds.length ≤ 1000) (h : ∀ d ∈ ds, Pln d n) : Pln (.tup ds) (n + 1) := by
  obtain ⟨a, b⟩ := pln_all h
  exact ⟨by simp only [plainD, a, Bool.true_and, decide_eq_true_eq]; omega, by simp only [depD]; omega⟩
theorem Pln.up {d : D} {n m : Nat} (h : Pln d n) (hl : n ≤ m) : Pln d m := ⟨h.p, Nat.le_trans h.d hl⟩
theorem pln_q {ws : List Int} {oc : Nat} (hw : WsOk ws) : ∀ t : QT, QOk ws oc t → Pln (qD t) (qDep t + 2) := fun t => by
  induction t using QT.ind with
  | h1 o =>
    intro _
    rw [qD]
    refine Pln.tup (n := 1) (by simp) fun d hd => ?_
    rcases List.mem_cons.mp hd with z | z
    · rw [z]; exact Pln.str
    · rw [List.mem_singleton.mp z]; exact Pln.int
  | h2 p ts ih =>
    intro h
    obtain ⟨hp, hl, ht⟩ := h
    rw [qoks_iff] at ht
    have := hw.wd1 p
    rw [qD, qDep]
    refine Pln.tup (n := qDep.qDeps ts + 2) (by rw [List.length_cons, List.length_cons, qDs_len]; omega) fun d hd => ?_
    rcases List.mem_cons.mp hd with z | z
    · rw [z]; exact Pln.str
    · rcases List.mem_cons.mp z with z | z
      · rw [z]; exact Pln.int
      · rw [qDs_map] at z
        obtain ⟨u, hu, rfl⟩ := List.mem_map.mp z
        exact (ih u hu (ht u hu)).up (by have := qdeps_le hu; omega)
theorem WsOk.pln {ws : List Int} (hw : WsOk ws) {n : Nat} : Pln (.tup (ws.map .int)) (n + 2) := Pln.ints (by have := hw.l1; omega)
theorem pln_due {ws : List Int} {oc : Nat} (hw : WsOk ws) {t : QT} (h : QOk ws oc t) : Pln (dueD ws oc t) 30 := by
  unfold dueD qMk
  cases e : qTD t 20 with
  | some p =>
    simp only
    have := qTD_len t 20 p e
    refine Pln.tup (n := 29) (by simp) fun d hd => ?_
    rcases List.mem_cons.mp hd with z | z
    · rw [z]; exact Pln.str
    · rw [List.mem_singleton.mp z]
      have hp := Pln.ints (l := p.map fun (n : Nat) => (n : Int)) (n := 27) (by rw [List.length_map]; exact Nat.le_trans this (by decide))
      rw [List.map_map] at hp
      exact hp
  | none =>
    have hd := (qTD_dep t 20).mp e
    by_cases zz : (qPl t).length ≤ 300 ∧ wpr ws (qMs (qPl t)) ≤ 256
    · rw [if_pos zz]
      refine Pln.tup (n := 29) (by simp) fun d hd => ?_
      rcases List.mem_cons.mp hd with z | z
      · rw [z]; exact Pln.str
      · rcases List.mem_cons.mp z with z | z
        · rw [z]; exact (pln_q hw t h).up (by omega)
        · rcases List.mem_cons.mp z with z | z
          · rw [z]; exact hw.pln
          · rw [List.mem_singleton.mp z]; exact Pln.int
    · rw [if_neg zz]
      exact ⟨rfl, by simp [depD, depDs]⟩
theorem qA_lt' {ws : List Int} {oc : Nat} {f : Nat → Nat} (hf : ∀ p, f p < wd ws p) : ∀ t, QOk ws oc t → qA f t < oc := fun t => by
  induction t using QT.ind with
  | h1 x => intro h; exact h
  | h2 p ts ih =>
    intro h
    obtain ⟨hp, hl, ht⟩ := h
    rw [qoks_iff] at ht
    have ho : f p < ts.length := by have := hf p; omega
    rw [qA_look (List.getElem?_eq_getElem ho)]
    exact ih _ (List.getElem_mem ho) (ht _ (List.getElem_mem ho))
/-- a term as the law draws it -/
structure Sm (ws : List Int) (oc : Nat) (ps : List Nat) (t : QT) : Prop where
  fit : QFit ws oc ps t
  len : (qPl t).length ≤ 21
  dep13 : qDep t ≤ 13
theorem tells_len {ws : List Int} {oc : Nat} {os : List Nat} {t : QT} : (qPl (qSub (tellsQ os) t)).length ≤ (qPl t).length := by
  have := qSub_len (ss := tellsQ os) (m := 0) (fun s hs => by
    unfold tellsQ at hs
    obtain ⟨o, _, rfl⟩ := List.mem_map.mp hs
    exact Nat.le_refl 0) t
  omega
theorem tells_dep {os : List Nat} {t : QT} : qDep (qSub (tellsQ os) t) ≤ qDep t := by
  have := qSub_dep (ss := tellsQ os) (m := 0) (fun s hs => by
    unfold tellsQ at hs
    obtain ⟨o, _, rfl⟩ := List.mem_map.mp hs
    exact Nat.le_refl 0) t
  omega
theorem tells_pl {os : List Nat} {t : QT} {q : Nat} (h : q ∈ qPl (qSub (tellsQ os) t)) : q ∈ qPl t := by
  rcases qSub_pl t q h with z | ⟨s, hs, z⟩
  · exact z
  · unfold tellsQ at hs
    obtain ⟨o, _, rfl⟩ := List.mem_map.mp hs
    simp [qPl] at z
theorem tells_ok {ws : List Int} {oc od : Nat} {os : List Nat} {t : QT} (h : QOk ws oc t) (hl : oc ≤ os.length) (ho : ∀ o ∈ os, o < od) : QOk ws od (qSub (tellsQ os) t) :=
  qSub_ok (fun s hs => by
    unfold tellsQ at hs
    obtain ⟨o, h2, rfl⟩ := List.mem_map.mp hs
    exact ho o h2) (by unfold tellsQ; rw [List.length_map]; exact hl) t h
/-- terms put into terms may be tried -/
theorem try_sub {ws : List Int} {oc od : Nat} {ps pu : List Nat} {t : QT} {ss : List QT} (ht : Sm ws oc ps t) (o1 : 1 ≤ od) (o4 : od ≤ 4) (hl : oc ≤ ss.length) (hs : ∀ s ∈ ss, QOk ws od s ∧ (qPl s).length ≤ 21 ∧ ∀ q ∈ qPl s, q ∈ pu) (hpu : pu.length ≤ 8) : QTry ws od (qSub ss t) := by
  have ok := qSub_ok (fun s h => (hs s h).1) hl t ht.fit.ok
  refine ⟨ht.fit.w, o1, o4, ok, ?_, ?_⟩
  · have h1 := qSub_len (ss := ss) (m := 21) (fun s h => (hs s h).2.1) t
    have h2 := qTs_le ht.fit.w t ht.fit.ok
    have h3 := ht.len
    have h4 : qTs t * 21 ≤ 64 * 21 := Nat.mul_le_mul_right _ (by omega)
    omega
  · have := qMs_sub (l := qPl (qSub ss t)) (b := ps ++ pu) (QOk.pl _ ok) fun q hq => by
      rcases qSub_pl t q hq with z | ⟨s, h, z⟩
      · exact List.mem_append_left _ (ht.fit.pl q z)
      · exact List.mem_append_right _ ((hs s h).2.2 q z)
    rw [List.length_append] at this
    have := ht.fit.most
    omega
theorem joinT_mem {nb : List (List Nat)} {s u : QT} (h : u ∈ joinT nb s) : ∃ os ∈ nb, u = qSub (tellsQ os) s := by
  unfold joinT at h
  obtain ⟨os, ho, rfl⟩ := List.mem_map.mp h
  exact ⟨os, ho, rfl⟩
theorem try_join {ws : List Int} {oa ob k : Nat} {ps pu : List Nat} {t s : QT} {nb : List (List Nat)} (ht : Sm ws oa ps t) (hs : Sm ws ob pu s) (hb : TbOk oa ob k nb) (k1 : 1 ≤ k) (k4 : k ≤ 4) : QTry ws k (qSub (joinT nb s) t) :=
  try_sub (pu := pu) ht k1 k4 (by unfold joinT; rw [List.length_map, hb.l]; exact Nat.le_refl _) (fun u hu => by
    obtain ⟨os, ho, rfl⟩ := joinT_mem hu
    obtain ⟨a, b⟩ := hb.r os ho
    exact ⟨tells_ok hs.fit.ok (by rw [a]; exact Nat.le_refl _) b, Nat.le_trans (tells_len (ws := ws) (oc := ob)) hs.len, fun q hq => hs.fit.pl q (tells_pl hq)⟩) hs.fit.most
/-- what is asked of the two, and what comes of it -/
theorem five_try {ws : List Int} {k : Nat} {ps pu : List Nat} {t s : QT} {nb : List (List Nat)} (ht : Sm ws 2 ps t) (hs : Sm ws 2 pu s) (hb : TbOk 2 2 k nb) (k1 : 1 ≤ k) (k4 : k ≤ 4) : ∀ (how : Nat) (h : how < 5), QTry ws ([2, 2, 2, 2, k].getD how 0) ((fiveQ t s nb).getD how (.tell 0)) ∧ qDep ((fiveQ t s nb).getD how (.tell 0)) ≤ 26 := by
  have d1 := ht.dep13
  have d2 := hs.dep13
  have two : ∀ u v : QT, (QOk ws 2 u ∧ (qPl u).length ≤ 21 ∧ ∀ q ∈ qPl u, q ∈ pu) → (QOk ws 2 v ∧ (qPl v).length ≤ 21 ∧ ∀ q ∈ qPl v, q ∈ pu) → ∀ s ∈ [u, v], QOk ws 2 s ∧ (qPl s).length ≤ 21 ∧ ∀ q ∈ qPl s, q ∈ pu := fun u v a b x hx => by
    rcases List.mem_cons.mp hx with z | z
    · rw [z]; exact a
    · rw [List.mem_singleton.mp z]; exact b
  have ks : QOk ws 2 s ∧ (qPl s).length ≤ 21 ∧ ∀ q ∈ qPl s, q ∈ pu := ⟨hs.fit.ok, hs.len, hs.fit.pl⟩
  have kt : ∀ o : Nat, o < 2 → QOk ws 2 (.tell o) ∧ (qPl (.tell o)).length ≤ 21 ∧ ∀ q ∈ qPl (.tell o), q ∈ pu := fun o ho => ⟨ho, Nat.zero_le _, fun q hq => by simp [qPl] at hq⟩
  have kn : QOk ws 2 (qSub (tellsQ [1, 0]) s) ∧ (qPl (qSub (tellsQ [1, 0]) s)).length ≤ 21 ∧ ∀ q ∈ qPl (qSub (tellsQ [1, 0]) s), q ∈ pu := ⟨tells_ok hs.fit.ok (by decide) (by decide), Nat.le_trans (tells_len (ws := ws) (oc := 2)) hs.len, fun q hq => hs.fit.pl q (tells_pl hq)⟩
  have dd : ∀ u v : QT, qDep u ≤ 13 → qDep v ≤ 13 → qDep (qSub [u, v] t) ≤ 26 := fun u v a b => by
    have := qSub_dep (ss := [u, v]) (m := 13) (fun x hx => by
      rcases List.mem_cons.mp hx with z | z
      · rw [z]; exact a
      · rw [List.mem_singleton.mp z]; exact b) t
    omega
  intro how h
  rcases (show how = 0 ∨ how = 1 ∨ how = 2 ∨ how = 3 ∨ how = 4 by omega) with rfl | rfl | rfl | rfl | rfl
  · exact ⟨try_sub (od := 2) ht (by decide) (by decide) (Nat.le_refl 2) (two _ _ (kt 0 (by decide)) ks) hs.fit.most, dd _ _ (by rw [qDep]; omega) d2⟩
  · exact ⟨try_sub (od := 2) ht (by decide) (by decide) (Nat.le_refl 2) (two _ _ ks (kt 1 (by decide))) hs.fit.most, dd _ _ d2 (by rw [qDep]; omega)⟩
  · exact ⟨try_sub (od := 2) ht (by decide) (by decide) (Nat.le_refl 2) (two _ _ ks kn) hs.fit.most, dd _ _ d2 (Nat.le_trans tells_dep d2)⟩
  · exact ⟨try_sub (od := 2) ht (by decide) (by decide) (by unfold tellsQ; exact Nat.le_refl 2) (fun x hx => by
      unfold tellsQ at hx
      obtain ⟨o, ho, rfl⟩ := List.mem_map.mp hx
      exact kt o (by rcases List.mem_cons.mp ho with z | z
                     · rw [z]; decide
                     · rw [List.mem_singleton.mp z]; decide)) hs.fit.most, Nat.le_trans tells_dep (by omega)⟩
  · refine ⟨try_join ht hs hb k1 k4, ?_⟩
    have := qSub_dep (ss := joinT nb s) (m := 13) (fun x hx => by
      obtain ⟨os, _, rfl⟩ := joinT_mem hx
      exact Nat.le_trans tells_dep d2) t
    show qDep (qSub (joinT nb s) t) ≤ 26
    omega
theorem five_ans {ws : List Int} {k : Nat} {t s : QT} {nb : List (List Nat)} {f : Nat → Nat} (hf : ∀ p, f p < wd ws p) (ht : QOk ws 2 t) (hs : QOk ws 2 s) (hb : TbOk 2 2 k nb) : ∀ (how : Nat) (h : how < 5), qA f ((fiveQ t s nb).getD how (.tell 0)) = tog how (qA f t) (qA f s) nb := by
  have hr := qA_lt' hf t ht
  have hs2 := qA_lt' hf s hs
  intro how h
  rcases (show how = 0 ∨ how = 1 ∨ how = 2 ∨ how = 3 ∨ how = 4 by omega) with rfl | rfl | rfl | rfl | rfl
  · show qA f (qSub [.tell 0, s] t) = _
    rw [qSub_ans hf (Nat.le_refl 2) t ht, tog]
    rcases (show qA f t = 0 ∨ qA f t = 1 by omega) with z | z <;> rw [z] <;> simp [qA]
  · show qA f (qSub [s, .tell 1] t) = _
    rw [qSub_ans hf (Nat.le_refl 2) t ht, tog]
    rcases (show qA f t = 0 ∨ qA f t = 1 by omega) with z | z <;> rw [z] <;> simp [qA] <;> omega
  · show qA f (qSub [s, qSub (tellsQ [1, 0]) s] t) = _
    rw [qSub_ans hf (Nat.le_refl 2) t ht, tog]
    rcases (show qA f t = 0 ∨ qA f t = 1 by omega) with z | z <;> rw [z]
    · show qA f s = _
      split <;> omega
    · show qA f (qSub (tellsQ [1, 0]) s) = _
      rw [qSub_ans hf (by unfold tellsQ; exact Nat.le_refl 2) s hs]
      rcases (show qA f s = 0 ∨ qA f s = 1 by omega) with y | y <;> rw [y] <;> simp [tellsQ, qA]
  · show qA f (qSub (tellsQ [1, 0]) t) = _
    rw [qSub_ans hf (by unfold tellsQ; exact Nat.le_refl 2) t ht, tog]
    rcases (show qA f t = 0 ∨ qA f t = 1 by omega) with z | z <;> rw [z] <;> simp [tellsQ, qA]
  · show qA f (qSub (joinT nb s) t) = _
    have hl : (joinT nb s).length = 2 := by unfold joinT; rw [List.length_map, hb.l]
    rw [qSub_ans hf (by rw [hl]; exact Nat.le_refl 2) t ht, tog]
    · have hrl : qA f t < nb.length := by rw [hb.l]; exact hr
      have e : (joinT nb s).getD (qA f t) (.tell 0) = qSub (tellsQ nb[qA f t]) s := by
        unfold joinT
        rw [List.getD_eq_getElem?_getD, List.getElem?_map, List.getElem?_eq_getElem hrl]; rfl
      obtain ⟨a, b⟩ := hb.r _ (List.getElem_mem hrl)
      rw [e, qSub_ans hf (by unfold tellsQ; rw [List.length_map, a]; exact Nat.le_refl 2) s hs]
      have hsl : qA f s < nb[qA f t].length := by omega
      unfold tellsQ
      rw [List.getD_eq_getElem?_getD, List.getElem?_map, List.getElem?_eq_getElem hsl, List.getD_eq_getElem?_getD, List.getD_eq_getElem?_getD, List.getElem?_eq_getElem hrl, Option.getD_some, List.getElem?_eq_getElem hsl]
      rfl
    all_goals omega
theorem mk_fit {C Q L x : Addr} {ws : List Int} {oc : Nat} {z : Int} {ps : List Nat} {t : QT} {μ : Sto} {Φ : DK} {Ψ : XD → Sto → Prop} (f : QFit ws oc ps t) (ez : z = (oc : Int)) (h : Φ .non (sset μ x (.ins C NS_Query [qD t, .tup (ws.map .int), .int (oc : Int)]))) :
    c_Query___init__ C Q L [.hd (.ref x), qD t, .tup (ws.map .int), .int z] (sset μ x (.ins C [] [])) Φ Ψ := by
  subst ez
  refine ⟨x, ws, oc, t, rfl, sset_same, f.w, f.o1, f.o4, f.ok, f.try_.len, f.try_.few, ?_⟩
  rw [f.mk_]
  simp only
  rw [sset_sset]
  exact h
theorem mk_rw {C O x : Addr} {r : Rw} {μ : Sto} {Φ : DK} {Ψ : XD → Sto → Prop} (hr : RwOk r) (h : Φ .non (sset μ x (.ins C NSA [.tup (r.h.map .int), .tup (r.c.map .int)]))) :
    c_Row___init__ C O [.hd (.ref x), .tup (r.h.map .int), .tup (r.c.map .int)] (sset μ x (.ins C [] [])) Φ Ψ :=
  ⟨x, r.h, r.c, rfl, hr.hl, hr.cl, sset_same, fun z => absurd ⟨hr.c0, fun y hy => by
    rcases List.mem_append.mp hy with q | q
    · exact hr.hp y q
    · exact hr.cp y q⟩ z, fun _ => by rw [sset_sset]; exact h⟩
theorem natT_back (a : List (List Nat)) : (natT a).map (fun r => r.map Int.toNat) = a := by
  unfold natT
  rw [List.map_map]
  refine (List.map_congr_left fun r _ => ?_).trans (List.map_id _)
  show (r.map fun (n : Nat) => (n : Int)).map Int.toNat = r
  rw [List.map_map]
  exact (List.map_congr_left fun n _ => rfl).trans (List.map_id _)
theorem natT_inj {a b : List (List Nat)} (h : natT a = natT b) : b = a := by rw [← natT_back a, ← natT_back b, h]
theorem five_ask {C : Addr} {ws : List Int} {k : Nat} {ps pu : List Nat} {t s : QT} {nb : List (List Nat)} (ht : Sm ws 2 ps t) (hs : Sm ws 2 pu s) (hb : TbOk 2 2 k nb) (k1 : 1 ≤ k) (k4 : k ≤ 4) : ∀ (how : Nat) (h : how < 5), Ask C how (qO C t ws 2) (qO C s ws 2) (tbD (natT nb)) (.int (([2, 2, 2, 2, k].getD how 0 : Nat) : Int)) (.mk ws ([2, 2, 2, 2, k].getD how 0) ((fiveQ t s nb).getD how (.tell 0))) := by
  have d1 := ht.dep13
  have d2 := hs.dep13
  intro how h
  rcases (show how = 0 ∨ how = 1 ∨ how = 2 ∨ how = 3 ∨ how = 4 by omega) with rfl | rfl | rfl | rfl | rfl
  · exact .and ht.fit.ok (by omega) ht.fit.w _ (fun _ => rfl) fun z => absurd ⟨rfl, rfl, rfl⟩ z
  · exact .or ht.fit.ok (by omega) ht.fit.w _ (fun _ => rfl) fun z => absurd ⟨rfl, rfl, rfl⟩ z
  · exact .xor ht.fit.ok (by omega) ht.fit.w hs.fit.ok (by omega) _ (fun _ => rfl) fun z => absurd ⟨rfl, rfl, rfl⟩ z
  · exact .inv ht.fit.ok (by omega) ht.fit.w _ (fun _ => rfl) fun z => absurd rfl z
  · refine .join (k := (k : Int)) ht.fit.ok (by omega) ht.fit.w hs.fit.ok (by omega) (by rw [natT_len, hb.l]; decide) (fun r hr => ?_) (by omega) (by omega) _ (fun z => absurd rfl z) (fun _ z => absurd ⟨by omega, by omega, nb, rfl, by rw [Int.toNat_natCast]; exact hb⟩ z) fun _ m nb2 e1 e2 e3 e4 e5 => ?_
    · unfold natT at hr
      obtain ⟨os, ho, rfl⟩ := List.mem_map.mp hr
      rw [List.length_map, (hb.r os ho).1]; decide
    · have : m = k := by omega
      subst this
      rw [natT_inj e4]; rfl
def c__law_combines (C Q L S O : Addr) : Con := fun ds μ Φ _ => ∃ (st : Addr) (ns : List Int) (c : List D) (ws : List Int) (ps pu : List Nat) (t s : QT) (nb : List (List Nat)) (k : Nat), ds = [.hd (.ref st), .tup (ws.map .int), .lst [qD t, qD s], tbD (natT nb), .int (k : Int)] ∧ μ st = some (.lst c) ∧ StC ns c ∧ Sm ws 2 ps t ∧ Sm ws 2 pu s ∧ TbOk 2 2 k nb ∧ 1 ≤ k ∧ k ≤ 4 ∧ ∀ c', StC ns c' → Φ (.bl true) (sset μ st (.lst c'))
theorem len__law_combines {C Q L S O ds μ Φ Ψ} (h : c__law_combines C Q L S O ds μ Φ Ψ) : ds.length = 5 := by obtain ⟨_, _, _, _, _, _, _, _, _, _, rfl, _⟩ := h; rfl
theorem ok__law_combines (T : Txt P w K mg) : FnOk P w K mg base (L2N.CX P w) 60 T.f__law_combines T.d__law_combines ["_law_state", "_law_widths_here", "_law_terms_here", "_law_table_here", "_law_outcomes"] (spOf K (c__law_combines T.c_Query T.c_InvalidQuery T.c_TooLarge T.c_SizeMismatch T.c_OutOfRange)) := by
  refine def_okC T.F__law_combines sc__law_combines _ (fun ds μ Φ Ψ h => len__law_combines h) (fun cdv A outer s H E B hW hr =>
    have tk : L2N.Takes (cxOf (L2N.CX P w) P w K mg base N__law_combines "_law_combines" (defScope s__law_combines) T.f__law_combines cdv A outer s H E) (fun cls d _ H => E cls d H) := L2N.takes_of rfl rfl rfl rfl
    ⟨_, (pss_cons (ps_set (i := 5) sc__law_combines.nd rfl (Or.inl rfl) (pe_makeS T.mk_Query (ok_Query___init__ T) (hr.mono (by decide)) rfl T.g_Query T.b_Query___init__ (fun σ => L2N.passAt tk σ) (pa_cons (pe_ix ix_list (pv 2) pe_int (fun _ _ => rfl)) (pa_cons (pv 1) (pa_cons pe_int pa_nil)))))
      (pss_cons (ps_set (i := 6) sc__law_combines.nd rfl (Or.inl rfl) (pe_makeS T.mk_Query (ok_Query___init__ T) (hr.mono (by decide)) rfl T.g_Query T.b_Query___init__ (fun σ => L2N.passAt tk σ) (pa_cons (pe_ix ix_list (pv 2) pe_int (fun _ _ => rfl)) (pa_cons (pv 1) (pa_cons pe_int pa_nil)))))
      (pss_cons (ps_set (i := 7) sc__law_combines.nd rfl (Or.inl rfl) (pe_ix ix_list (pv 2) pe_int (fun _ _ => rfl)))
      (pss_cons (ps_if (pt_cmpR op_eq (pe_call (ok__law_pick T) (hr.mono (by decide)) rfl T.g__law_pick T.F__law_pick.kp T.b__law_pick .nil passN (pa_cons (pv 0) (pa_cons pe_int pa_nil))) pe_int (nomark _)) (pss_cons (ps_set (i := 6) sc__law_combines.nd rfl (Or.inl rfl) (pv 5))
      (pss_one (ps_set (i := 7) sc__law_combines.nd rfl (Or.inl rfl) (pe_ix ix_list (pv 2) pe_int (fun _ _ => rfl))))) pss_nil)
      (pss_cons (ps_set (i := 8) sc__law_combines.nd rfl (Or.inl rfl) (pe_call (ok__law_terms T) (hr.mono (by decide)) rfl T.g__law_terms T.F__law_terms.kp T.b__law_terms .nil passN (pa_cons (pe_ix ix_list (pv 2) pe_int (fun _ _ => rfl)) (pa_cons (pv 7) (pa_cons (pv 3) pa_nil)))))
      (pss_cons (ps_set (i := 9) sc__law_combines.nd rfl (Or.inl rfl) (pe_call (ok__law_endless T) (hr.mono (by decide)) rfl T.g__law_endless T.F__law_endless.kp T.b__law_endless .nil passN (pa_cons (pv 0) (pa_cons (pv 1) pa_nil))))
      (pss_cons (ps_set (i := 10) sc__law_combines.nd rfl (Or.inl rfl) (pe_call (ok__law_walk T) (hr.mono (by decide)) rfl T.g__law_walk T.F__law_walk.kp T.b__law_walk .nil passN (pa_cons (pe_ix ix_list (pv 2) pe_int (fun _ _ => rfl)) (pa_cons (pv 9) pa_nil))))
      (pss_cons (ps_set (i := 11) sc__law_combines.nd rfl (Or.inl rfl) (pe_call (ok__law_walk T) (hr.mono (by decide)) rfl T.g__law_walk T.F__law_walk.kp T.b__law_walk .nil passN (pa_cons (pv 7) (pa_cons (pv 9) pa_nil))))
      (pss_cons (ps_for (passes_of rfl) rfl (pi_range1 rfl T.z_range (pa_cons pe_int pa_nil)) (pg_name (i := 12) sc__law_combines.nd rfl (Or.inl rfl)) (pss_cons (ps_set (i := 13) sc__law_combines.nd rfl (Or.inl rfl) (pe_ix ix_list (pe_lst (pa_cons pe_int (pa_cons pe_int (pa_cons pe_int (pa_cons pe_int (pa_cons (pv 4) pa_nil)))))) (pv 12) (fun _ _ => rfl)))
      (pss_cons (ps_set (i := 14) sc__law_combines.nd rfl (Or.inl rfl) (pe_call (ok__law_due T) (hr.mono (by decide)) rfl T.g__law_due T.F__law_due.kp T.b__law_due .nil passN (pa_cons (pe_ix ix_list (pv 8) (pv 12) (fun _ _ => rfl)) (pa_cons (pv 1) (pa_cons (pv 13) pa_nil)))))
      (pss_cons (ps_if (pt_not (pt_val (pe_call (ok__law_same T) (hr.mono (by decide)) rfl T.g__law_same T.F__law_same.kp T.b__law_same .nil passN (pa_cons (pe_call (ok__law_made T) (hr.mono (by decide)) rfl T.g__law_made T.F__law_made.kp T.b__law_made .nil passN (pa_cons (pv 12) (pa_cons (pv 5) (pa_cons (pv 6) (pa_cons (pv 3) (pa_cons (pv 13) pa_nil)))))) (pa_cons (pv 14) pa_nil))))) (pss_one (ps_ret pe_bl)) pss_nil)
      (pss_one (ps_if (pt_cmpR op_eq (pe_ix ix_tup (pv 14) pe_int (fun _ _ => rfl)) pe_str (nomark _)) (pss_cons (ps_set (i := 15) sc__law_combines.nd rfl (Or.inl rfl) (pe_callS (ok__law_apply T) (hr.mono (by decide)) rfl T.g__law_apply T.F__law_apply.kp T.b__law_apply (fun σ => L2N.passAt tk σ) (pa_cons (pv 12) (pa_cons (pv 5) (pa_cons (pv 6) (pa_cons (pv 3) (pa_cons (pv 13) pa_nil)))))))
      (pss_cons (ps_if (pt_not (pt_val (pe_call (ok__law_same T) (hr.mono (by decide)) rfl T.g__law_same T.F__law_same.kp T.b__law_same .nil passN (pa_cons (pe_callX (i := 15) T.me_Query___call__ T.fn_Query___call__ (ok_Query___call__ T) (hr.mono (by decide)) T.b_Query___call__ (fun σ => L2N.passAt tk σ) rfl (Or.inl rfl) (by exact (pa_cons (pe_makeS T.mk_Row (ok_Row___init__ T) (hr.mono (by decide)) rfl T.g_Row T.b_Row___init__ (fun σ => L2N.passAt tk σ) (pa_cons (pe_ix ix_list (pv 9) pe_int (fun _ _ => rfl)) (pa_cons (pe_ix ix_list (pv 9) pe_int (fun _ _ => rfl)) pa_nil))) pa_nil))) (pa_cons (pe_call (ok__law_together T) (hr.mono (by decide)) rfl T.g__law_together T.F__law_together.kp T.b__law_together .nil passN (pa_cons (pv 12) (pa_cons (pv 10) (pa_cons (pv 11) (pa_cons (pv 3) pa_nil))))) pa_nil))))) (pss_one (ps_ret pe_bl)) pss_nil)
      (pss_one (ps_if (pt_not (pt_val (pe_call (ok__law_same T) (hr.mono (by decide)) rfl T.g__law_same T.F__law_same.kp T.b__law_same .nil passN (pa_cons (pe_fld (pv 15) rfl) (pa_cons (pe_ix ix_tup (pv 14) pe_int (fun _ _ => rfl)) pa_nil))))) (pss_one (ps_ret pe_bl)) pss_nil)))) pss_nil))))))
      (pss_one (ps_ret (pe_and (pe_call (ok__law_same T) (hr.mono (by decide)) rfl T.g__law_same T.F__law_same.kp T.b__law_same .nil passN (pa_cons (pe_tupN (pa_cons (pe_fld (pv 5) rfl) (pa_cons (pe_fld (pv 6) rfl) pa_nil))) (pa_cons (pe_tupN (pa_cons (pe_ix ix_list (pv 2) pe_int (fun _ _ => rfl)) (pa_cons (pv 7) pa_nil))) pa_nil))) (pe_one (pe_call (ok__law_same T) (hr.mono (by decide)) rfl T.g__law_same T.F__law_same.kp T.b__law_same .nil passN (pa_cons (pe_tupN (pa_cons (pe_fld (pv 5) rfl) (pa_cons (pe_fld (pv 5) rfl) pa_nil))) (pa_cons (pe_tupN (pa_cons (pv 1) (pa_cons pe_int pa_nil))) pa_nil)))))))))))))))),
      (sSeq (sAsg (sMakeSW (W := fun cls d _ H => E cls d H) (by exact hW) (sCons (sOp roIxL sVar sInt) (sCons sVar (sCons sInt sNil)))) sName)
      (sSeq (sAsg (sMakeSW (W := fun cls d _ H => E cls d H) (by exact hW) (sCons (sOp roIxL sVar sInt) (sCons sVar (sCons sInt sNil)))) sName)
      (sSeq (sAsg (sOp roIxL sVar sInt) sName)
      (sSeq (sIfS (sTest (sOp roEq (sCall (sCons sVar (sCons sInt sNil))) sInt)) (sSeq (sAsg sVar sName)
      (sAsg (sOp roIxL sVar sInt) sName)) sNext)
      (sSeq (sAsg (sCall (sCons (sOp roIxL sVar sInt) (sCons sVar (sCons sVar sNil)))) sName)
      (sSeq (sAsg (sCall (sCons sVar (sCons sVar sNil))) sName)
      (sSeq (sAsg (sCall (sCons (sOp roIxL sVar sInt) (sCons sVar sNil))) sName)
      (sSeq (sAsg (sCall (sCons sVar (sCons sVar sNil))) sName)
      (sSeq (sFor (siR1 sInt) (fun _ _ _ => sName) (fun _ _ _ => (sSeq (sAsg (sOp roIxL (sLst (sCons sInt (sCons sInt (sCons sInt (sCons sInt (sCons sVar sNil)))))) sVar) sName)
      (sSeq (sAsg (sCall (sCons (sOp roIxL sVar sVar) (sCons sVar (sCons sVar sNil)))) sName)
      (sSeq (sIfS (sNot (sB (sCall (sCons (sCall (sCons sVar (sCons sVar (sCons sVar (sCons sVar (sCons sVar sNil)))))) (sCons sVar sNil))))) (sRet sBl) sNext)
      (sIfS (sTest (sOp roEq (sOp roIxT sVar sInt) sStr)) (sSeq (sAsg (sCallSW (W := fun cls d _ H => E cls d H) (by exact hW) (sCons sVar (sCons sVar (sCons sVar (sCons sVar (sCons sVar sNil)))))) sName)
      (sSeq (sIfS (sNot (sB (sCall (sCons (sCallX (NS := NS_Query) (W := fun cls d _ H => E cls d H) (by exact hW) (sCons (sMakeSW (W := fun cls d _ H => E cls d H) (by exact hW) (sCons (sOp roIxL sVar sInt) (sCons (sOp roIxL sVar sInt) sNil))) sNil)) (sCons (sCall (sCons sVar (sCons sVar (sCons sVar (sCons sVar sNil))))) sNil))))) (sRet sBl) sNext)
      (sIfS (sNot (sB (sCall (sCons (sFldO (NS := NS_Query) (i := 0) T.cls_Query T.na_Query_term rfl (by decide) sVar) (sCons (sOp roIxT sVar sInt) sNil))))) (sRet sBl) sNext))) sNext))))))
      (sRet (sAndV (sCall (sCons (sTup (sCons (sFldO (NS := NS_Query) (i := 0) T.cls_Query T.na_Query_term rfl (by decide) sVar) (sCons (sFldO (NS := NS_Query) (i := 0) T.cls_Query T.na_Query_term rfl (by decide) sVar) sNil))) (sCons (sTup (sCons (sOp roIxL sVar sInt) (sCons sVar sNil))) sNil))) (sCall (sCons (sTup (sCons (sFldO (NS := NS_Query) (i := 1) T.cls_Query T.na_Query_widths rfl (by decide) sVar) (sCons (sFldO (NS := NS_Query) (i := 2) T.cls_Query T.na_Query_outcomes rfl (by decide) sVar) sNil))) (sCons (sTup (sCons sVar (sCons sInt sNil))) sNil))))))))))))))⟩) (fun ds μ Φ Ψ h => ?hv)
  case hv =>
    obtain ⟨st, ns, c, ws, ps, pu, t, s, nb, k, rfl, hc, sc, ht, hs, hb, k1, k4, h⟩ := h
    refine seq_cut fun M hM => ?_
    walk_at "wp"
    have W := ht.fit.w
    have eo : ∀ t ws oc, qO T.c_Query t ws oc = D.obj T.c_Query NS_Query [qD t, .tup (ws.map .int), .int (oc : Int)] := fun _ _ _ => rfl
    refine fun x hx => mk_fit ht.fit rfl ⟨rfl, NS_Query, _, sset_same, ?_⟩
    rw [sdel_sset hx, ← eo]
    clear hx x
    rw [hM]; clear hM M
    refine seq_cut fun M hM => ?_
    walk_at "wp"
    refine fun x hx => mk_fit hs.fit rfl ⟨rfl, NS_Query, _, sset_same, ?_⟩
    rw [sdel_sset hx, ← eo]
    clear hx x
    rw [hM]; clear hM M
    refine seq_cut fun M hM => ?_
    walk_at "wp"
    rw [hM]; clear hM M
    refine seq_cut fun M hM => ?_
    have rest : ∀ (pu : List Nat) (s' : QT) (c : List D), Sm ws 2 pu s' → StC ns c → M [some (.hd (.ref st)), some (.tup (ws.map .int)), some (.lst [qD t, qD s]), some (tbD (natT nb)), some (.int (k : Int)), some (qO T.c_Query t ws 2), some (qO T.c_Query s' ws 2), some (qD s'), none, none, none, none, none, none, none, none] (sset μ st (.lst c)) := by
      intro pu s' c hs sc
      have d1 := ht.dep13
      have d2 := hs.dep13
      rw [hM]; clear hM M
      refine seq_cut fun M hM => ?_
      walk_at "wp"
      refine ⟨ws, t, s', nb, k, rfl, ht.fit.ok, hs.fit.ok, W, by omega, by omega, hb, ?_⟩
      rw [hM]; clear hM M
      refine seq_cut fun M hM => ?_
      walk_at "wp"
      refine ⟨st, ns, c, ws, rfl, sset_same, sc, W, fun r c2 hr hrf sc2 => ?_⟩
      rw [sset_sset, hM]; clear hM M
      refine seq_cut fun M hM => ?_
      walk_at "wp"
      refine ⟨ws, 2, t, r, rfl, ht.fit.ok, W, by omega, hr, hrf, ?_⟩
      rw [hM]; clear hM M
      refine seq_cut fun M hM => ?_
      walk_at "wp"
      refine ⟨ws, 2, s', r, rfl, hs.fit.ok, W, by omega, hr, hrf, ?_⟩
      have hrf2 : ∀ p, rF r p < wd ws p := fun p => by
        have h1 := hrf p
        have h2 := ent_nn hr p
        unfold rF
        omega
      have ha := qA_lt' hrf2 t ht.fit.ok
      have hb2 := qA_lt' hrf2 s' hs.fit.ok
      rw [hM]; clear hM M
      refine seq_cut fun M hM => ?_
      walk_at "wp"
      refine ⟨by decide, by decide, fun i δ' μ' => μ' = sset μ st (.lst c2) ∧ ∃ x1 x2 x3 x4 : Option D, δ' = [some (.hd (.ref st)), some (.tup (ws.map .int)), some (.lst [qD t, qD s]), some (tbD (natT nb)), some (.int (k : Int)), some (qO T.c_Query t ws 2), some (qO T.c_Query s' ws 2), some (qD s'), some (.lst (qDs (fiveQ t s' nb))), some (sdR r), some (.int (qA (rF r) t : Int)), some (.int (qA (rF r) s' : Int)), x1, x2, x3, x4], ⟨rfl, none, none, none, none, rfl⟩, ?_, ?_⟩
      · rintro i d δ' μ' hi ⟨rfl, x1, x2, x3, x4, rfl⟩
        obtain ⟨hj, rfl⟩ := rngD_get hi
        have hi5 : i < 5 := hj
        rw [Int.zero_add]
        have hmany : [D.int 2, .int 2, .int 2, .int 2, .int (k : Int)][i]? = some (.int (([2, 2, 2, 2, k].getD i 0 : Nat) : Int)) := by
          rcases (show i = 0 ∨ i = 1 ∨ i = 2 ∨ i = 3 ∨ i = 4 by omega) with rfl | rfl | rfl | rfl | rfl <;> rfl
        have hfi : (qDs (fiveQ t s' nb))[i]? = some (qD ((fiveQ t s' nb).getD i (.tell 0))) := by
          rcases (show i = 0 ∨ i = 1 ∨ i = 2 ∨ i = 3 ∨ i = 4 by omega) with rfl | rfl | rfl | rfl | rfl <;> (rw [qDs_map]; rfl)
        obtain ⟨htry, hdep⟩ := five_try ht hs hb k1 k4 i hi5
        have hask := five_ask (C := T.c_Query) ht hs hb k1 k4 i hi5
        have hans := five_ans hrf2 ht.fit.ok hs.fit.ok hb i hi5
        generalize [2, 2, 2, 2, k].getD i 0 = many at *
        generalize (fiveQ t s' nb).getD i (.tell 0) = u at *
        refine seq_cut fun N hN => ?_
        walk_at "wp"
        refine ⟨by decide, _, atI_nat hmany, ?_⟩
        rw [hN]; clear hN N
        refine seq_cut fun N hN => ?_
        walk_at "wp"
        refine ⟨_, atI_nat hfi, ws, many, u, rfl, htry.ok, W, by omega, htry.len, ?_⟩
        have pl := pln_due W htry.ok
        rw [hN]; clear hN N
        refine seq_cut fun N hN => ?_
        unfold tbD
        walk_at "wp"
        refine ⟨i, _, _, _, _, _, rfl, hask, ⟨htry, ?_⟩⟩
        refine same_self pl ⟨true, rfl, nofun, fun _ => ?_⟩
        clear pl
        rw [show (.tup (List.map (fun r => .tup (List.map .int r)) (natT nb))) = tbD (natT nb) from rfl]
        cases e : qMk ws u with
        | deep p =>
          rw [show dueD ws many u = .tup [.str "wrong", .tup (nI p)] by unfold dueD; rw [e]]
          rw [hN]; clear hN N
          walk_at "wp"
          exact ⟨fun z => absurd z (by decide), fun _ => ⟨_, _, _, _, rfl⟩⟩
        | large =>
          rw [show dueD ws many u = .tup [.str "refused", .int 0, .int 0, .int 1] by unfold dueD; rw [e]]
          rw [hN]; clear hN N
          walk_at "wp"
          exact ⟨fun z => absurd z (by decide), fun _ => ⟨_, _, _, _, rfl⟩⟩
        | made =>
          rw [show dueD ws many u = .tup [.str "made", qD u, .tup (ws.map .int), .int (many : Int)] by unfold dueD; rw [e]]
          rw [hN]; clear hN N
          walk_at "wp"
          refine ⟨?_, fun z => absurd trivial z⟩
          refine seq_cut fun N hN => ?_
          unfold tbD
          walk_at "wp"
          refine ⟨i, _, _, _, _, _, rfl, hask, ⟨htry, ?_⟩⟩
          unfold MkR
          rw [e]
          simp only
          rw [show (.tup (List.map (fun r => .tup (List.map .int r)) (natT nb))) = tbD (natT nb) from rfl]
          rw [hN]; clear hN N
          refine seq_cut fun N hN => ?_
          rw [eo _ ws many]
          unfold sdR
          walk_at "wp"
          refine fun x hx => mk_rw hr ⟨rfl, NSA, _, sset_same, ?_⟩
          rw [sdel_sset hx, ← eo, show D.obj T.c_Row NSA [.tup (r.h.map .int), .tup (r.c.map .int)] = rwO T.c_Row r from rfl]
          have hd20 : qDep u ≤ 20 := by
            refine (qTD_dep u 20).mp ?_
            unfold qMk at e
            cases e2 : qTD u 20 with
            | none => rfl
            | some p => rw [e2] at e; cases e
          refine ⟨ws, many, [], u, r, rfl, ⟨W, htry.ok, hd20⟩, hr, hrf, i, _, _, k, nb, rfl, hi5, ha, hb2, hb, ?_⟩
          rw [hans]
          refine same_self Pln.int ⟨true, rfl, nofun, fun _ => ?_⟩
          rw [hN]; clear hN N
          rw [eo _ ws many]
          walk_at "wp"
          exact same_self ((pln_q W u htry.ok).up (by omega)) ⟨true, rfl, nofun, fun _ => ⟨rfl, _, _, _, _, rfl⟩⟩
      · rintro δ' μ' ⟨rfl, x1, x2, x3, x4, rfl⟩
        rw [hM]; clear hM M
        rw [eo, eo]
        walk_at "wps"
        have pq : ∀ {t : QT} {ps : List Nat}, Sm ws 2 ps t → Pln (qD t) 15 := fun h => (pln_q W _ h.fit.ok).up (by have := h.dep13; omega)
        refine ⟨by decide, by decide, same_self (Pln.tup (n := 29) (by simp) fun d hd => ?_) ⟨true, rfl, fun _ => ⟨by decide, by decide, same_self (Pln.tup (n := 29) (by simp) fun d hd => ?_) (ret_same (h c2 sc2))⟩, nofun⟩⟩
        · rcases List.mem_cons.mp hd with z | z
          · rw [z]; exact (pq ht).up (by decide)
          · rw [List.mem_singleton.mp z]; exact (pq hs).up (by decide)
        · rcases List.mem_cons.mp hd with z | z
          · rw [z]; exact W.pln
          · rw [List.mem_singleton.mp z]; exact Pln.int
    walk_at "wp"
    refine ⟨st, ns, c, 6, rfl, hc, sc, by decide, by decide, fun y c2 y0 y1 sc2 => ?_⟩
    walk_at "wp"
    exact ⟨fun _ => by
      walk_at "wps"
      exact rest ps t c2 ht sc2, fun _ => rest pu s c2 hs sc2⟩
end
section
variable {P : Program} {w : World} {K : Fg} {mg : Str → Option Value} {base : Heap}
theorem sorted_of' {ps : List Nat} (h : ps.Nodup) (hl : ∀ p ∈ ps, p < 100) : ∃ ss : List Nat, ss.Perm ps ∧ ss.Pairwise (· < ·) :=
  ⟨qMs ps, (List.perm_ext_iff_of_nodup ((qMs_sorted ps).imp fun {a b} q => by omega) h).mpr fun q => qMs_mem hl q, qMs_sorted ps⟩
theorem sm_of {ws : List Int} {oc : Nat} {ps ss : List Nat} {t : QT} (W : WsOk ws) (o1 : 1 ≤ oc) (o4 : oc ≤ 4) (hp : ss.Perm ps) (hs : ss.Pairwise (· < ·)) (p8 : ps.length ≤ 8) (few : wpr ws ps ≤ 256) (h1 : QOk ws oc t) (h2 : qDep t ≤ 13) (h3 : ∀ q ∈ qPl t, q ∈ ps) (h4 : (qPl t).length ≤ 21) : Sm ws oc ss t :=
  ⟨⟨W, o1, o4, h1, hs, by rw [hp.length_eq]; exact p8, by rw [wpr_perm hp]; exact few, fun q hq => hp.mem_iff.mpr (h3 q hq), by omega, by omega⟩, h4, h2⟩
theorem cut_init (ds : List D) : DW.cutD ds none (some (-1)) = ds.take (ds.length - 1) := by
  unfold DW.cutD
  have h : HT.sIx ds.length ds.length (some (-1)) = ds.length - 1 := by
    unfold HT.sIx
    rcases ds with _ | ⟨d, ds⟩
    · rfl
    · simp; omega
  have h0 : HT.sIx ds.length 0 none = 0 := rfl
  rw [h, h0, Nat.sub_zero, List.drop_zero]
def RowOk (b k : Nat) (l : List Int) : Prop := ∃ os : List Nat, l = os.map (fun (n : Nat) => (n : Int)) ∧ os.length = b ∧ ∀ o ∈ os, o < k
theorem wrongs {os : List Nat} {b k x : Nat} {L : List D} (eL : L = List.map D.int (List.map (fun (n : Nat) => (n : Int)) os)) (hl : os.length = b) (b1 : 1 ≤ b) (b4 : b ≤ 4) (hx : x < b) (y : Nat) (hy : y < 4) :
    ∃ wr : List Int, [D.tup (L.take x ++ [D.int (k : Int)] ++ L.drop (x + 1)), .tup (L.take x ++ [D.int (-1)] ++ L.drop (x + 1)), .tup (L ++ [D.int 0]), .tup (DW.cutD L none (some (-1)))][y]? = some (.tup (wr.map .int)) ∧ wr.length ≤ 100 ∧ ¬ RowOk b k wr := by
  subst eL
  rcases (show y = 0 ∨ y = 1 ∨ y = 2 ∨ y = 3 by omega) with rfl | rfl | rfl | rfl
  · refine ⟨(os.map fun (n : Nat) => (n : Int)).take x ++ [(k : Int)] ++ (os.map fun (n : Nat) => (n : Int)).drop (x + 1), ?_, ?_, ?_⟩
    · rw [List.map_append, List.map_append, List.map_take, List.map_drop]; rfl
    · simp only [List.length_append, List.length_take, List.length_drop, List.length_map, List.length_singleton]; omega
    · rintro ⟨o2, e, h1, h2⟩
      have : (k : Int) ∈ o2.map fun (n : Nat) => (n : Int) := by rw [← e]; simp
      obtain ⟨o, ho, e3⟩ := List.mem_map.mp this
      have := h2 o ho
      omega
  · refine ⟨(os.map fun (n : Nat) => (n : Int)).take x ++ [(-1 : Int)] ++ (os.map fun (n : Nat) => (n : Int)).drop (x + 1), ?_, ?_, ?_⟩
    · rw [List.map_append, List.map_append, List.map_take, List.map_drop]; rfl
    · simp only [List.length_append, List.length_take, List.length_drop, List.length_map, List.length_singleton]; omega
    · rintro ⟨o2, e, h1, h2⟩
      have : (-1 : Int) ∈ o2.map fun (n : Nat) => (n : Int) := by rw [← e]; simp
      obtain ⟨o, ho, e3⟩ := List.mem_map.mp this
      omega
  · refine ⟨(os.map fun (n : Nat) => (n : Int)) ++ [0], by rw [List.map_append]; rfl, by simp; omega, ?_⟩
    rintro ⟨o2, e, h1, h2⟩
    have := congrArg List.length e
    simp at this; omega
  · refine ⟨(os.map fun (n : Nat) => (n : Int)).take (os.length - 1), ?_, by simp; omega, ?_⟩
    · rw [cut_init, List.map_take, List.length_map, List.length_map]; rfl
    rintro ⟨o2, e, h1, h2⟩
    have := congrArg List.length e
    simp at this; omega
theorem bads {nb : List (List Nat)} {os : List Nat} {wr : List Int} {a b k x : Nat} {T : List D} {w : D} (hT : T = List.map (fun r => D.tup (List.map D.int r)) (natT nb)) (hb : TbOk a b k nb) (a1 : 1 ≤ a) (a4 : a ≤ 4) (hx : x < a) (eo : nb[x]? = some os) (ew : w = .tup (wr.map .int)) (hw : wr.length ≤ 100) (hn : ¬ RowOk b k wr) (b4 : b ≤ 4) (y : Nat) (hy : y < 4) :
    ∃ tb : List (List Int), [D.tup (T.take x ++ [w] ++ T.drop (x + 1)), .tup (T ++ [.tup ((os.map fun (n : Nat) => (n : Int)).map .int)]), .tup (DW.cutD T none (some (-1))), .tup []][y]? = some (tbD tb) ∧ tb.length ≤ 100 ∧ (∀ r ∈ tb, r.length ≤ 100) ∧ ¬ ∃ n2, tb = natT n2 ∧ TbOk a b k n2 := by
  subst hT ew
  have hl := hb.l
  have hin : os ∈ nb := List.mem_of_getElem? eo
  have hr : ∀ r ∈ natT nb, r.length ≤ 100 := fun r hr => by
    unfold natT at hr
    obtain ⟨os, ho, rfl⟩ := List.mem_map.mp hr
    have := (hb.r os ho).1
    rw [List.length_map]; omega
  unfold tbD
  rcases (show y = 0 ∨ y = 1 ∨ y = 2 ∨ y = 3 by omega) with rfl | rfl | rfl | rfl
  · refine ⟨(natT nb).take x ++ [wr] ++ (natT nb).drop (x + 1), ?_, ?_, fun r h2 => ?_, ?_⟩
    · rw [List.map_append, List.map_append, List.map_take, List.map_drop]; rfl
    · simp only [List.length_append, List.length_take, List.length_drop, List.length_singleton, natT_len]; omega
    · simp only [List.mem_append, List.mem_singleton] at h2
      rcases h2 with (z | z) | z
      · exact hr r (List.mem_of_mem_take z)
      · rw [z]; exact hw
      · exact hr r (List.mem_of_mem_drop z)
    · rintro ⟨n2, e, h2⟩
      have : wr ∈ natT n2 := by rw [← e]; simp
      unfold natT at this
      obtain ⟨o, ho, e3⟩ := List.mem_map.mp this
      exact hn ⟨o, e3.symm, h2.r o ho⟩
  · refine ⟨natT nb ++ [os.map fun (n : Nat) => (n : Int)], ?_, ?_, fun r h2 => ?_, ?_⟩
    · rw [List.map_append]; rfl
    · simp only [List.length_append, List.length_singleton, natT_len]; omega
    · simp only [List.mem_append, List.mem_singleton] at h2
      rcases h2 with z | z
      · exact hr r z
      · rw [z, List.length_map]; have := (hb.r os hin).1; omega
    · rintro ⟨n2, e, h2⟩
      have := congrArg List.length e
      rw [List.length_append, natT_len, natT_len, h2.l, hl] at this
      simp at this
  · refine ⟨(natT nb).take (nb.length - 1), ?_, ?_, fun r h2 => hr r (List.mem_of_mem_take h2), ?_⟩
    · rw [cut_init, List.map_take, List.length_map, natT_len]; rfl
    · rw [List.length_take, natT_len]; omega
    · rintro ⟨n2, e, h2⟩
      have := congrArg List.length e
      rw [List.length_take, natT_len, natT_len, h2.l, hl] at this
      omega
  · refine ⟨[], rfl, by simp, by simp, ?_⟩
    rintro ⟨n2, e, h2⟩
    have := congrArg List.length e
    rw [natT_len, h2.l] at this
    simp at this; omega
theorem moved1 {ws : List Int} (W : WsOk ws) {a : Nat} (ha : a < ws.length) : WsOk (ws.take a ++ [1 + ws[a] % 4] ++ ws.drop (a + 1)) ∧ ws ≠ ws.take a ++ [1 + ws[a] % 4] ++ ws.drop (a + 1) ∧ a < (ws.take a ++ [1 + ws[a] % 4] ++ ws.drop (a + 1)).length := by
  have h1 := W.l1
  have hl : (ws.take a ++ [1 + ws[a] % 4] ++ ws.drop (a + 1)).length = ws.length := by
    simp only [List.length_append, List.length_take, List.length_drop, List.length_singleton]; omega
  have hv := W.w _ (List.getElem_mem ha)
  refine ⟨⟨by omega, by omega, fun x hx => ?_⟩, fun e => ?_, by omega⟩
  · simp only [List.mem_append, List.mem_singleton] at hx
    rcases hx with (z | z) | z
    · exact W.w x (List.mem_of_mem_take z)
    · omega
    · exact W.w x (List.mem_of_mem_drop z)
  · have e2 := congrArg (fun l => l[a]?) e
    rw [List.getElem?_append_left (by rw [List.length_append, List.length_take, List.length_singleton]; omega), List.getElem?_append_right (by rw [List.length_take]; omega), List.length_take, Nat.min_eq_left (by omega), Nat.sub_self, List.getElem?_eq_getElem ha] at e2
    have := Option.some.inj e2
    omega
theorem moved2 {ws : List Int} (W : WsOk ws) {a : Nat} (ha : a < ws.length) (h4 : ws.length < 4) : WsOk (ws ++ ws) ∧ ws ≠ ws ++ ws ∧ a < (ws ++ ws).length := by
  have h0 := W.l0
  refine ⟨⟨by rw [List.length_append]; omega, by rw [List.length_append]; omega, fun x hx => ?_⟩, fun e => ?_, by rw [List.length_append]; omega⟩
  · rcases List.mem_append.mp hx with z | z <;> exact W.w x z
  · have := congrArg List.length e
    rw [List.length_append] at this
    omega
def strT (mv : List Int) (a : Nat) : QT := .look a (List.replicate (wd mv a) (.tell 0))
theorem str_rep (n : Nat) : (List.replicate n [D.tup [.str "tell", .int 0]]).flatten = qDs (List.replicate n (.tell 0)) := by
  induction n with
  | zero => simp [qDs]
  | succ n ih => rw [List.replicate_succ, List.replicate_succ, List.flatten_cons, ih, qDs, qD]; rfl
theorem str_sm {mv : List Int} {a b : Nat} (W : WsOk mv) (b1 : 1 ≤ b) (b4 : b ≤ 4) (ha : a < 100) : Sm mv b [a] (strT mv a) := by
  have hw := W.wd1 a
  have t0 : ∀ n : Nat, qPl.qPls (List.replicate n (.tell 0)) = [] := fun n => by
    induction n with
    | zero => rfl
    | succ n ih => rw [List.replicate_succ, qPl.qPls, ih]; rfl
  have d0 : ∀ n : Nat, qDep.qDeps (List.replicate n (.tell 0)) = 0 := fun n => by
    induction n with
    | zero => rfl
    | succ n ih => rw [List.replicate_succ, qDep.qDeps, ih]; rfl
  have hp : qPl (strT mv a) = [a] := by unfold strT; rw [qPl, t0]
  have hd : qDep (strT mv a) = 1 := by unfold strT; rw [qDep, d0]
  have ok : QOk mv b (strT mv a) := by
    refine ⟨ha, by rw [List.length_replicate], qoks_iff.mpr fun t ht => ?_⟩
    rw [List.eq_of_mem_replicate ht]; exact b1
  refine ⟨⟨W, b1, b4, ok, List.pairwise_singleton _ _, by simp, by simp [wpr]; omega, fun q hq => by rw [hp] at hq; exact hq, by rw [hp]; simp, by omega⟩, by rw [hp]; simp, by omega⟩
theorem tell_sm {mv : List Int} {b o : Nat} (W : WsOk mv) (b1 : 1 ≤ b) (b4 : b ≤ 4) (ho : o < b) : Sm mv b [] (.tell o) :=
  ⟨⟨W, b1, b4, ho, List.Pairwise.nil, by simp, by simp [wpr], fun q hq => by simp [qPl] at hq, by simp [qPl], by simp [qDep]⟩, by simp [qPl], by simp [qDep]⟩
theorem pair_size {C : Addr} {ws ws' : List Int} {oc oc' : Nat} {t t' : QT} {s1 s2 : List Nat} {x y : D} (ht : Sm ws oc s1 t) (hs : Sm ws' oc' s2 t') (h : ¬ (oc = 2 ∧ oc' = 2 ∧ ws = ws')) : ∀ (how : Nat), how < 3 → Ask C how (qO C t ws oc) (qO C t' ws' oc') x y .size := by
  have d1 := ht.dep13
  have d2 := hs.dep13
  intro how hh
  rcases (show how = 0 ∨ how = 1 ∨ how = 2 by omega) with rfl | rfl | rfl
  · exact .and ht.fit.ok (by omega) ht.fit.w _ (fun z => absurd z h) fun _ => rfl
  · exact .or ht.fit.ok (by omega) ht.fit.w _ (fun z => absurd z h) fun _ => rfl
  · exact .xor ht.fit.ok (by omega) ht.fit.w hs.fit.ok (by omega) _ (fun z => absurd z h) fun _ => rfl
theorem eq_ref {a b c : Int} {μ : Sto} {Φ : DK} (h : Φ (.bl true) μ) : oEqD (.tup [.str "refused", .int a, .int b, .int c]) (.tup [.str "refused", .int a, .int b, .int c]) μ Φ := by
  have s : EqSide (.tup [.str "refused", .int a, .int b, .int c]) := ⟨by simp [eqOk, eqOks]; decide +kernel, by simp [dpt, dpts]⟩
  refine ⟨s, s, ?_⟩
  rw [eqD_refl s.1]
  exact h
theorem ne_ref {a b c : Int} {μ : Sto} {Φ : DK} (h : Φ (.bl false) μ) : oNeD (.tup [.str "refused", .int a, .int b, .int c]) (.tup [.str "refused", .int a, .int b, .int c]) μ Φ := by
  have s : EqSide (.tup [.str "refused", .int a, .int b, .int c]) := ⟨by simp [eqOk, eqOks]; decide +kernel, by simp [dpt, dpts]⟩
  refine ⟨s, s, ?_⟩
  rw [eqD_refl s.1]
  exact h
theorem join_bad {C : Addr} {ws : List Int} {a b : Nat} {ss : List Nat} {t s : QT} {tb : List (List Int)} {k : Int} (ht : Sm ws a ss t) (hs : Sm ws b ss s) (b1 : tb.length ≤ 100) (b2 : ∀ r ∈ tb, r.length ≤ 100) (k1 : -5 ≤ k) (k2 : k ≤ 100) (hn : ¬ (1 ≤ k ∧ k ≤ 4 ∧ ∃ nb, tb = natT nb ∧ TbOk a b k.toNat nb)) : Ask C 4 (qO C t ws a) (qO C s ws b) (tbD tb) (.int k) .range := by
  have d1 := ht.dep13
  have d2 := hs.dep13
  refine .join ht.fit.ok (by omega) ht.fit.w hs.fit.ok (by omega) b1 b2 k1 k2 .range (fun z => absurd rfl z) (fun _ _ => rfl) (fun _ m nb2 e1 e2 e3 e4 e5 => absurd ⟨by omega, by omega, nb2, e4, ?_⟩ hn)
  have : k.toNat = m := by omega
  rw [this]; exact e5
theorem join_size {C : Addr} {ws ws' : List Int} {a b : Nat} {ss s2 : List Nat} {t s : QT} {tb : List (List Int)} {k : Int} (ht : Sm ws a ss t) (hs : Sm ws' b s2 s) (b1 : tb.length ≤ 100) (b2 : ∀ r ∈ tb, r.length ≤ 100) (k1 : -5 ≤ k) (k2 : k ≤ 100) (hn : ws ≠ ws') : Ask C 4 (qO C t ws a) (qO C s ws' b) (tbD tb) (.int k) .size := by
  have d1 := ht.dep13
  have d2 := hs.dep13
  exact .join ht.fit.ok (by omega) ht.fit.w hs.fit.ok (by omega) b1 b2 k1 k2 .size (fun _ => rfl) (fun z => absurd z hn) (fun z => absurd z hn)
def c__law_joins (C Q L S O : Addr) : Con := fun ds μ Φ _ => ∃ (st : Addr) (ns : List Int) (c : List D) (ws : List Int) (ps : List Nat) (k : Nat), ds = [.hd (.ref st), .tup (ws.map .int), .lst (nI ps), .int (k : Int)] ∧ μ st = some (.lst c) ∧ StC ns c ∧ WsOk ws ∧ ps.Nodup ∧ ps ≠ [] ∧ ps.length ≤ 8 ∧ (∀ p ∈ ps, p < 100) ∧ wpr ws ps ≤ 256 ∧ (k = 1 ∨ k = 3) ∧ ∀ c', StC ns c' → Φ (.bl true) (sset μ st (.lst c'))
theorem len__law_joins {C Q L S O ds μ Φ Ψ} (h : c__law_joins C Q L S O ds μ Φ Ψ) : ds.length = 4 := by obtain ⟨_, _, _, _, _, _, rfl, _⟩ := h; rfl
theorem ok__law_joins (T : Txt P w K mg) : FnOk P w K mg base (L2N.CX P w) 60 T.f__law_joins T.d__law_joins ["_law_state", "_law_widths_here", "_law_places", "_law_outcomes"] (spOf K (c__law_joins T.c_Query T.c_InvalidQuery T.c_TooLarge T.c_SizeMismatch T.c_OutOfRange)) := by
  refine def_okC T.F__law_joins sc__law_joins _ (fun ds μ Φ Ψ h => len__law_joins h) (fun cdv A outer s H E B hW hr =>
    have tk : L2N.Takes (cxOf (L2N.CX P w) P w K mg base N__law_joins "_law_joins" (defScope s__law_joins) T.f__law_joins cdv A outer s H E) (fun cls d _ H => E cls d H) := L2N.takes_of rfl rfl rfl rfl
    ⟨_, (pss_cons (ps_set (i := 4) sc__law_joins.nd rfl (Or.inl rfl) (pe_op op_add pe_int (pe_call (ok__law_pick T) (hr.mono (by decide)) rfl T.g__law_pick T.F__law_pick.kp T.b__law_pick .nil passN (pa_cons (pv 0) (pa_cons pe_int pa_nil)))))
      (pss_cons (ps_set (i := 5) sc__law_joins.nd rfl (Or.inl rfl) (pe_lst (pa_cons (pe_op op_add pe_int (pe_call (ok__law_pick T) (hr.mono (by decide)) rfl T.g__law_pick T.F__law_pick.kp T.b__law_pick .nil passN (pa_cons (pv 0) (pa_cons pe_int pa_nil)))) (pa_cons (pe_op op_add pe_int (pe_call (ok__law_pick T) (hr.mono (by decide)) rfl T.g__law_pick T.F__law_pick.kp T.b__law_pick .nil passN (pa_cons (pv 0) (pa_cons pe_int pa_nil)))) pa_nil))))
      (pss_cons (ps_set (i := 6) sc__law_joins.nd rfl (Or.inr rfl) (pe_lc (own := [("_law_size", 24)]) rfl sc__law_joins.nd (pi_list (pv 5)) (blkOk_by (N := N__law_joins) (sc := defScope s__law_joins) (by decide +kernel)) (fun _ _ _ _ _ => (pg_name (i := 24) sc__law_joins.nd rfl (Or.inl rfl))) (fun _ _ _ _ _ => pts_nil) (fun _ _ _ _ _ => (pe_call (ok__law_small_term T) (hr.mono (by decide)) rfl T.g__law_small_term T.F__law_small_term.kp T.b__law_small_term .nil passN (pa_cons (pv 0) (pa_cons (pe_lst (pa_cons (pv 1) (pa_cons (pv 24) pa_nil))) (pa_cons (pv 2) pa_nil)))))))
      (pss_cons (ps_set (i := 7) sc__law_joins.nd rfl (Or.inl rfl) (pe_makeS T.mk_Query (ok_Query___init__ T) (hr.mono (by decide)) rfl T.g_Query T.b_Query___init__ (fun σ => L2N.passAt tk σ) (pa_cons (pe_ix ix_list (pv 6) pe_int (fun _ _ => rfl)) (pa_cons (pv 1) (pa_cons (pe_ix ix_list (pv 5) pe_int (fun _ _ => rfl)) pa_nil)))))
      (pss_cons (ps_set (i := 8) sc__law_joins.nd rfl (Or.inl rfl) (pe_makeS T.mk_Query (ok_Query___init__ T) (hr.mono (by decide)) rfl T.g_Query T.b_Query___init__ (fun σ => L2N.passAt tk σ) (pa_cons (pe_ix ix_list (pv 6) pe_int (fun _ _ => rfl)) (pa_cons (pv 1) (pa_cons (pe_ix ix_list (pv 5) pe_int (fun _ _ => rfl)) pa_nil)))))
      (pss_cons (ps_set (i := 9) sc__law_joins.nd rfl (Or.inl rfl) (pe_call (ok__law_table T) (hr.mono (by decide)) rfl T.g__law_table T.F__law_table.kp T.b__law_table .nil passN (pa_cons (pv 0) (pa_cons (pe_ix ix_list (pv 5) pe_int (fun _ _ => rfl)) (pa_cons (pe_ix ix_list (pv 5) pe_int (fun _ _ => rfl)) (pa_cons (pv 4) pa_nil))))))
      (pss_cons (ps_set (i := 10) sc__law_joins.nd rfl (Or.inl rfl) (pe_callTy call_tupleN (by rfl) T.z_tuple (by decide +kernel) (pa_cons (pe_lc (own := [("_law_row", 13)]) rfl sc__law_joins.nd (pi_tup (pv 9)) (blkOk_by (N := N__law_joins) (sc := defScope s__law_joins) (by decide +kernel)) (fun _ _ _ _ _ => (pg_name (i := 13) sc__law_joins.nd rfl (Or.inl rfl))) (fun _ _ _ _ _ => pts_nil) (fun _ _ _ _ _ => (pe_call (ok__law_replaced T) (hr.mono (by decide)) rfl T.g__law_replaced T.F__law_replaced.kp T.b__law_replaced .nil passN (pa_cons (pe_ix ix_list (pv 6) pe_int (fun _ _ => rfl)) (pa_cons (pe_callTy call_tupleN (by rfl) T.z_tuple (by decide +kernel) (pa_cons (pe_lc (own := [("_law_r", 25)]) rfl sc__law_joins.nd (pi_tup (pv 13)) (blkOk_by (N := N__law_joins) (by exact rfl)) (fun _ _ _ _ _ => (pg_name (i := 25) sc__law_joins.nd rfl (Or.inl rfl))) (fun _ _ _ _ _ => pts_nil) (fun _ _ _ _ _ => (pe_tupN (pa_cons pe_str (pa_cons (pv 25) pa_nil))))) pa_nil)) pa_nil))))) pa_nil)))
      (pss_cons (ps_set (i := 11) sc__law_joins.nd rfl (Or.inl rfl) (pe_call (ok__law_due T) (hr.mono (by decide)) rfl T.g__law_due T.F__law_due.kp T.b__law_due .nil passN (pa_cons (pe_call (ok__law_replaced T) (hr.mono (by decide)) rfl T.g__law_replaced T.F__law_replaced.kp T.b__law_replaced .nil passN (pa_cons (pe_ix ix_list (pv 6) pe_int (fun _ _ => rfl)) (pa_cons (pv 10) pa_nil))) (pa_cons (pv 1) (pa_cons (pv 4) pa_nil)))))
      (pss_cons (ps_if (pt_not (pt_val (pe_call (ok__law_same T) (hr.mono (by decide)) rfl T.g__law_same T.F__law_same.kp T.b__law_same .nil passN (pa_cons (pe_call (ok__law_made T) (hr.mono (by decide)) rfl T.g__law_made T.F__law_made.kp T.b__law_made .nil passN (pa_cons pe_int (pa_cons (pv 7) (pa_cons (pv 8) (pa_cons (pv 9) (pa_cons (pv 4) pa_nil)))))) (pa_cons (pv 11) pa_nil))))) (pss_one (ps_ret pe_bl)) pss_nil)
      (pss_cons (ps_set (i := 12) sc__law_joins.nd rfl (Or.inl rfl) (pe_call (ok__law_pick T) (hr.mono (by decide)) rfl T.g__law_pick T.F__law_pick.kp T.b__law_pick .nil passN (pa_cons (pv 0) (pa_cons (pe_ix ix_list (pv 5) pe_int (fun _ _ => rfl)) pa_nil))))
      (pss_cons (ps_set (i := 13) sc__law_joins.nd rfl (Or.inl rfl) (pe_ix ix_tup (pv 9) (pv 12) (fun _ _ => rfl)))
      (pss_cons (ps_set (i := 14) sc__law_joins.nd rfl (Or.inl rfl) (pe_call (ok__law_pick T) (hr.mono (by decide)) rfl T.g__law_pick T.F__law_pick.kp T.b__law_pick .nil passN (pa_cons (pv 0) (pa_cons (pe_ix ix_list (pv 5) pe_int (fun _ _ => rfl)) pa_nil))))
      (pss_cons (ps_set (i := 15) sc__law_joins.nd rfl (Or.inl rfl) (pe_ix ix_list (pe_lst (pa_cons (pe_op op_catN (pe_op op_catN (pe_slice sl_tupN (pv 13) po_none (po_some (pv 14))) (pe_tupN (pa_cons (pv 4) pa_nil))) (pe_slice sl_tupN (pv 13) (po_some (pe_op op_add (pv 14) pe_int)) po_none)) (pa_cons (pe_op op_catN (pe_op op_catN (pe_slice sl_tupN (pv 13) po_none (po_some (pv 14))) (pe_tupN (pa_cons (pe_un un_neg pe_int) pa_nil))) (pe_slice sl_tupN (pv 13) (po_some (pe_op op_add (pv 14) pe_int)) po_none)) (pa_cons (pe_op op_catN (pv 13) (pe_tupN (pa_cons pe_int pa_nil))) (pa_cons (pe_slice sl_tupN (pv 13) po_none (po_some (pe_un un_neg pe_int))) pa_nil))))) (pe_call (ok__law_pick T) (hr.mono (by decide)) rfl T.g__law_pick T.F__law_pick.kp T.b__law_pick .nil passN (pa_cons (pv 0) (pa_cons pe_int pa_nil))) (fun _ _ => rfl)))
      (pss_cons (ps_set (i := 16) sc__law_joins.nd rfl (Or.inl rfl) (pe_lst (pa_cons (pe_op op_catN (pe_op op_catN (pe_slice sl_tupN (pv 9) po_none (po_some (pv 12))) (pe_tupN (pa_cons (pv 15) pa_nil))) (pe_slice sl_tupN (pv 9) (po_some (pe_op op_add (pv 12) pe_int)) po_none)) (pa_cons (pe_op op_catN (pv 9) (pe_tupN (pa_cons (pv 13) pa_nil))) (pa_cons (pe_slice sl_tupN (pv 9) po_none (po_some (pe_un un_neg pe_int))) (pa_cons (pe_tupN pa_nil) pa_nil))))))
      (pss_cons (ps_set (i := 17) sc__law_joins.nd rfl (Or.inl rfl) (pe_ix ix_list (pv 16) (pe_call (ok__law_pick T) (hr.mono (by decide)) rfl T.g__law_pick T.F__law_pick.kp T.b__law_pick .nil passN (pa_cons (pv 0) (pa_cons pe_int pa_nil))) (fun _ _ => rfl)))
      (pss_cons (ps_set (i := 18) sc__law_joins.nd rfl (Or.inl rfl) (pe_ix ix_list (pe_lst (pa_cons pe_int (pa_cons pe_int pa_nil))) (pe_call (ok__law_pick T) (hr.mono (by decide)) rfl T.g__law_pick T.F__law_pick.kp T.b__law_pick .nil passN (pa_cons (pv 0) (pa_cons pe_int pa_nil))) (fun _ _ => rfl)))
      (pss_cons (ps_if (pt_cmpR (op_neD hr.units) (pe_call (ok__law_made T) (hr.mono (by decide)) rfl T.g__law_made T.F__law_made.kp T.b__law_made .nil passN (pa_cons pe_int (pa_cons (pv 7) (pa_cons (pv 8) (pa_cons (pv 17) (pa_cons (pv 4) pa_nil)))))) (pe_tupN (pa_cons pe_str (pa_cons pe_int (pa_cons pe_int (pa_cons pe_int pa_nil))))) (nomark _)) (pss_one (ps_ret pe_bl)) pss_nil)
      (pss_cons (ps_if (pt_cmpR (op_neD hr.units) (pe_call (ok__law_made T) (hr.mono (by decide)) rfl T.g__law_made T.F__law_made.kp T.b__law_made .nil passN (pa_cons pe_int (pa_cons (pv 7) (pa_cons (pv 8) (pa_cons (pv 9) (pa_cons (pv 18) pa_nil)))))) (pe_tupN (pa_cons pe_str (pa_cons pe_int (pa_cons pe_int (pa_cons pe_int pa_nil))))) (nomark _)) (pss_one (ps_ret pe_bl)) pss_nil)
      (pss_cons (ps_set (i := 12) sc__law_joins.nd rfl (Or.inl rfl) (pe_call (ok__law_pick T) (hr.mono (by decide)) rfl T.g__law_pick T.F__law_pick.kp T.b__law_pick .nil passN (pa_cons (pv 0) (pa_cons (pe_callB call_len_seq (by rfl) T.z_len PySem.boot_len (pa_cons (pv 1) pa_nil)) pa_nil))))
      (pss_cons (ps_set (i := 19) sc__law_joins.nd rfl (Or.inl rfl) (pe_op op_catN (pe_op op_catN (pe_slice sl_tupN (pv 1) po_none (po_some (pv 12))) (pe_tupN (pa_cons (pe_op op_add pe_int (pe_op op_mod (pe_callTy call_int1 (by rfl) T.z_int (by decide +kernel) (pa_cons (pe_ix ix_tup (pv 1) (pv 12) (fun _ _ => rfl)) pa_nil)) pe_int)) pa_nil))) (pe_slice sl_tupN (pv 1) (po_some (pe_op op_add (pv 12) pe_int)) po_none)))
      (pss_cons (ps_if (PW.pt (pw_and (pt_cmpR op_lt (pe_callB call_len_seq (by rfl) T.z_len PySem.boot_len (pa_cons (pv 1) pa_nil)) pe_int (nomark _)) (pw_and1 (pt_cmpR op_eq (pe_call (ok__law_pick T) (hr.mono (by decide)) rfl T.g__law_pick T.F__law_pick.kp T.b__law_pick .nil passN (pa_cons (pv 0) (pa_cons pe_int pa_nil))) pe_int (nomark _))))) (pss_one (ps_set (i := 19) sc__law_joins.nd rfl (Or.inl rfl) (pe_op op_catN (pv 1) (pv 1)))) pss_nil)
      (pss_cons (ps_set (i := 20) sc__law_joins.nd rfl (Or.inl rfl) (pe_makeS T.mk_Query (ok_Query___init__ T) (hr.mono (by decide)) rfl T.g_Query T.b_Query___init__ (fun σ => L2N.passAt tk σ) (pa_cons (pe_op op_catN (pe_tupN (pa_cons pe_str (pa_cons (pv 12) pa_nil))) (pe_op op_repA (pe_tupN (pa_cons (pe_tupN (pa_cons pe_str (pa_cons pe_int pa_nil))) pa_nil)) (pe_ix ix_tup (pv 19) (pv 12) (fun _ _ => rfl)))) (pa_cons (pv 19) (pa_cons (pe_ix ix_list (pv 5) pe_int (fun _ _ => rfl)) pa_nil)))))
      (pss_cons (ps_for (passes_of rfl) rfl (pi_list (pe_lst (pa_cons (pe_lst (pa_cons (pv 9) (pa_cons (pv 4) pa_nil))) (pa_cons (pe_lst (pa_cons (pv 17) (pa_cons (pv 4) pa_nil))) (pa_cons (pe_lst (pa_cons (pv 9) (pa_cons (pv 18) pa_nil))) pa_nil))))) (pg_name (i := 21) sc__law_joins.nd rfl (Or.inl rfl)) (pss_one (ps_if (pt_cmpR (op_neD hr.units) (pe_call (ok__law_made T) (hr.mono (by decide)) rfl T.g__law_made T.F__law_made.kp T.b__law_made .nil passN (pa_cons pe_int (pa_cons (pv 7) (pa_cons (pv 20) (pa_cons (pe_ix ix_list (pv 21) pe_int (fun _ _ => rfl)) (pa_cons (pe_ix ix_list (pv 21) pe_int (fun _ _ => rfl)) pa_nil)))))) (pe_tupN (pa_cons pe_str (pa_cons pe_int (pa_cons pe_int (pa_cons pe_int pa_nil))))) (nomark _)) (pss_one (ps_ret pe_bl)) pss_nil)))
      (pss_cons (ps_set (i := 22) sc__law_joins.nd rfl (Or.inl rfl) (pe_lst (pa_cons (pe_makeS T.mk_Query (ok_Query___init__ T) (hr.mono (by decide)) rfl T.g_Query T.b_Query___init__ (fun σ => L2N.passAt tk σ) (pa_cons (pe_tupN (pa_cons pe_str (pa_cons pe_int pa_nil))) (pa_cons (pv 19) (pa_cons pe_int pa_nil)))) (pa_cons (pe_makeS T.mk_Query (ok_Query___init__ T) (hr.mono (by decide)) rfl T.g_Query T.b_Query___init__ (fun σ => L2N.passAt tk σ) (pa_cons (pe_tupN (pa_cons pe_str (pa_cons pe_int pa_nil))) (pa_cons (pv 1) (pa_cons pe_int pa_nil)))) (pa_cons (pe_makeS T.mk_Query (ok_Query___init__ T) (hr.mono (by decide)) rfl T.g_Query T.b_Query___init__ (fun σ => L2N.passAt tk σ) (pa_cons (pe_tupN (pa_cons pe_str (pa_cons pe_int pa_nil))) (pa_cons (pv 1) (pa_cons (pv 3) pa_nil)))) pa_nil)))))
      (pss_cons (ps_for (passes_of rfl) rfl (pi_range1 rfl T.z_range (pa_cons pe_int pa_nil)) (pg_name (i := 23) sc__law_joins.nd rfl (Or.inl rfl)) (pss_cons (ps_if (pt_cmpR (op_neD hr.units) (pe_call (ok__law_made T) (hr.mono (by decide)) rfl T.g__law_made T.F__law_made.kp T.b__law_made .nil passN (pa_cons (pv 23) (pa_cons (pe_ix ix_list (pv 22) pe_int (fun _ _ => rfl)) (pa_cons (pe_ix ix_list (pv 22) pe_int (fun _ _ => rfl)) (pa_cons (pe_tupN pa_nil) (pa_cons pe_int pa_nil)))))) (pe_tupN (pa_cons pe_str (pa_cons pe_int (pa_cons pe_int (pa_cons pe_int pa_nil))))) (nomark _)) (pss_one (ps_ret pe_bl)) pss_nil)
      (pss_cons (ps_if (pt_cmpR (op_neD hr.units) (pe_call (ok__law_made T) (hr.mono (by decide)) rfl T.g__law_made T.F__law_made.kp T.b__law_made .nil passN (pa_cons (pv 23) (pa_cons (pe_ix ix_list (pv 22) pe_int (fun _ _ => rfl)) (pa_cons (pe_ix ix_list (pv 22) pe_int (fun _ _ => rfl)) (pa_cons (pe_tupN pa_nil) (pa_cons pe_int pa_nil)))))) (pe_tupN (pa_cons pe_str (pa_cons pe_int (pa_cons pe_int (pa_cons pe_int pa_nil))))) (nomark _)) (pss_one (ps_ret pe_bl)) pss_nil)
      (pss_one (ps_if (pt_cmpR (op_neD hr.units) (pe_call (ok__law_made T) (hr.mono (by decide)) rfl T.g__law_made T.F__law_made.kp T.b__law_made .nil passN (pa_cons (pv 23) (pa_cons (pe_ix ix_list (pv 22) pe_int (fun _ _ => rfl)) (pa_cons (pe_ix ix_list (pv 22) pe_int (fun _ _ => rfl)) (pa_cons (pe_tupN pa_nil) (pa_cons pe_int pa_nil)))))) (pe_tupN (pa_cons pe_str (pa_cons pe_int (pa_cons pe_int (pa_cons pe_int pa_nil))))) (nomark _)) (pss_one (ps_ret pe_bl)) pss_nil)))))
      (pss_one (ps_ret (pe_and (pe_cmpR (op_eqD hr.units) (pe_call (ok__law_made T) (hr.mono (by decide)) rfl T.g__law_made T.F__law_made.kp T.b__law_made .nil passN (pa_cons pe_int (pa_cons (pe_ix ix_list (pv 22) pe_int (fun _ _ => rfl)) (pa_cons (pe_ix ix_list (pv 22) pe_int (fun _ _ => rfl)) (pa_cons (pe_tupN pa_nil) (pa_cons pe_int pa_nil)))))) (pe_tupN (pa_cons pe_str (pa_cons pe_int (pa_cons pe_int (pa_cons pe_int pa_nil))))) (nomark _)) (pe_one (pe_cmpR op_eq (pe_ix ix_tup (pe_call (ok__law_made T) (hr.mono (by decide)) rfl T.g__law_made T.F__law_made.kp T.b__law_made .nil passN (pa_cons pe_int (pa_cons (pe_ix ix_list (pv 22) pe_int (fun _ _ => rfl)) (pa_cons (pe_ix ix_list (pv 22) pe_int (fun _ _ => rfl)) (pa_cons (pe_tupN pa_nil) (pa_cons pe_int pa_nil)))))) pe_int (fun _ _ => rfl)) pe_str (nomark _))))))))))))))))))))))))))))))),
      (sSeq (sAsg (sOp roInt0 sInt (sCall (sCons sVar (sCons sInt sNil)))) sName)
      (sSeq (sAsg (sLst (sCons (sOp roInt0 sInt (sCall (sCons sVar (sCons sInt sNil)))) (sCons (sOp roInt0 sInt (sCall (sCons sVar (sCons sInt sNil)))) sNil))) sName)
      (sSeq (sAsg (sLc (siL sVar) (gwName List.mem_cons_self) (fun _ _ _ => sName) (fun _ _ _ => sYes) (fun _ _ _ => (sCall (sCons sVar (sCons (sLst (sCons sVar (sCons sVar sNil))) (sCons sVar sNil)))))) sName)
      (sSeq (sAsg (sMakeSW (W := fun cls d _ H => E cls d H) (by exact hW) (sCons (sOp roIxL sVar sInt) (sCons sVar (sCons (sOp roIxL sVar sInt) sNil)))) sName)
      (sSeq (sAsg (sMakeSW (W := fun cls d _ H => E cls d H) (by exact hW) (sCons (sOp roIxL sVar sInt) (sCons sVar (sCons (sOp roIxL sVar sInt) sNil)))) sName)
      (sSeq (sAsg (sCall (sCons sVar (sCons (sOp roIxL sVar sInt) (sCons (sOp roIxL sVar sInt) (sCons sVar sNil))))) sName)
      (sSeq (sAsg (sCB rcTuple (sCons (sLc (siT sVar) (gwName List.mem_cons_self) (fun _ _ _ => sName) (fun _ _ _ => sYes) (fun _ _ _ => (sCall (sCons (sOp roIxL sVar sInt) (sCons (sCB rcTuple (sCons (sLc (siT sVar) (gwName List.mem_cons_self) (fun _ _ _ => sName) (fun _ _ _ => sYes) (fun _ _ _ => (sTup (sCons sStr (sCons sVar sNil))))) sNil)) sNil))))) sNil)) sName)
      (sSeq (sAsg (sCall (sCons (sCall (sCons (sOp roIxL sVar sInt) (sCons sVar sNil))) (sCons sVar (sCons sVar sNil)))) sName)
      (sSeq (sIfS (sNot (sB (sCall (sCons (sCall (sCons sInt (sCons sVar (sCons sVar (sCons sVar (sCons sVar sNil)))))) (sCons sVar sNil))))) (sRet sBl) sNext)
      (sSeq (sAsg (sCall (sCons sVar (sCons (sOp roIxL sVar sInt) sNil))) sName)
      (sSeq (sAsg (sOp roIxT sVar sVar) sName)
      (sSeq (sAsg (sCall (sCons sVar (sCons (sOp roIxL sVar sInt) sNil))) sName)
      (sSeq (sAsg (sOp roIxL (sLst (sCons (sOp roCatT (sOp roCatT (sSlT sVar sNoPart (sPart sVar)) (sTup (sCons sVar sNil))) (sSlT sVar (sPart (sOp roInt0 sVar sInt)) sNoPart)) (sCons (sOp roCatT (sOp roCatT (sSlT sVar sNoPart (sPart sVar)) (sTup (sCons (sUn ruInt sInt) sNil))) (sSlT sVar (sPart (sOp roInt0 sVar sInt)) sNoPart)) (sCons (sOp roCatT sVar (sTup (sCons sInt sNil))) (sCons (sSlT sVar sNoPart (sPart (sUn ruInt sInt))) sNil))))) (sCall (sCons sVar (sCons sInt sNil)))) sName)
      (sSeq (sAsg (sLst (sCons (sOp roCatT (sOp roCatT (sSlT sVar sNoPart (sPart sVar)) (sTup (sCons sVar sNil))) (sSlT sVar (sPart (sOp roInt0 sVar sInt)) sNoPart)) (sCons (sOp roCatT sVar (sTup (sCons sVar sNil))) (sCons (sSlT sVar sNoPart (sPart (sUn ruInt sInt))) (sCons (sTup sNil) sNil))))) sName)
      (sSeq (sAsg (sOp roIxL sVar (sCall (sCons sVar (sCons sInt sNil)))) sName)
      (sSeq (sAsg (sOp roIxL (sLst (sCons sInt (sCons sInt sNil))) (sCall (sCons sVar (sCons sInt sNil)))) sName)
      (sSeq (sIfS (sTest (sOp roNeD (sCall (sCons sInt (sCons sVar (sCons sVar (sCons sVar (sCons sVar sNil)))))) (sTup (sCons sStr (sCons sInt (sCons sInt (sCons sInt sNil))))))) (sRet sBl) sNext)
      (sSeq (sIfS (sTest (sOp roNeD (sCall (sCons sInt (sCons sVar (sCons sVar (sCons sVar (sCons sVar sNil)))))) (sTup (sCons sStr (sCons sInt (sCons sInt (sCons sInt sNil))))))) (sRet sBl) sNext)
      (sSeq (sAsg (sCall (sCons sVar (sCons (sCB rcLen (sCons sVar sNil)) sNil))) sName)
      (sSeq (sAsg (sOp roCatT (sOp roCatT (sSlT sVar sNoPart (sPart sVar)) (sTup (sCons (sOp roInt0 sInt (sOp roInt (sCB rcInt (sCons (sOp roIxT sVar sVar) sNil)) sInt)) sNil))) (sSlT sVar (sPart (sOp roInt0 sVar sInt)) sNoPart)) sName)
      (sSeq (sIfS (sAnd (sTest (sOp roBl0 (sCB rcLen (sCons sVar sNil)) sInt)) (sTest (sOp roEq (sCall (sCons sVar (sCons sInt sNil))) sInt))) (sAsg (sOp roCatT sVar sVar) sName) sNext)
      (sSeq (sAsg (sMakeSW (W := fun cls d _ H => E cls d H) (by exact hW) (sCons (sOp roCatT (sTup (sCons sStr (sCons sVar sNil))) (sOp roRepT (sTup (sCons (sTup (sCons sStr (sCons sInt sNil))) sNil)) (sOp roIxT sVar sVar))) (sCons sVar (sCons (sOp roIxL sVar sInt) sNil)))) sName)
      (sSeq (sFor (siL (sLst (sCons (sLst (sCons sVar (sCons sVar sNil))) (sCons (sLst (sCons sVar (sCons sVar sNil))) (sCons (sLst (sCons sVar (sCons sVar sNil))) sNil))))) (fun _ _ _ => sName) (fun _ _ _ => (sIfS (sTest (sOp roNeD (sCall (sCons sInt (sCons sVar (sCons sVar (sCons (sOp roIxL sVar sInt) (sCons (sOp roIxL sVar sInt) sNil)))))) (sTup (sCons sStr (sCons sInt (sCons sInt (sCons sInt sNil))))))) (sRet sBl) sNext)))
      (sSeq (sAsg (sLst (sCons (sMakeSW (W := fun cls d _ H => E cls d H) (by exact hW) (sCons (sTup (sCons sStr (sCons sInt sNil))) (sCons sVar (sCons sInt sNil)))) (sCons (sMakeSW (W := fun cls d _ H => E cls d H) (by exact hW) (sCons (sTup (sCons sStr (sCons sInt sNil))) (sCons sVar (sCons sInt sNil)))) (sCons (sMakeSW (W := fun cls d _ H => E cls d H) (by exact hW) (sCons (sTup (sCons sStr (sCons sInt sNil))) (sCons sVar (sCons sVar sNil)))) sNil)))) sName)
      (sSeq (sFor (siR1 sInt) (fun _ _ _ => sName) (fun _ _ _ => (sSeq (sIfS (sTest (sOp roNeD (sCall (sCons sVar (sCons (sOp roIxL sVar sInt) (sCons (sOp roIxL sVar sInt) (sCons (sTup sNil) (sCons sInt sNil)))))) (sTup (sCons sStr (sCons sInt (sCons sInt (sCons sInt sNil))))))) (sRet sBl) sNext)
      (sSeq (sIfS (sTest (sOp roNeD (sCall (sCons sVar (sCons (sOp roIxL sVar sInt) (sCons (sOp roIxL sVar sInt) (sCons (sTup sNil) (sCons sInt sNil)))))) (sTup (sCons sStr (sCons sInt (sCons sInt (sCons sInt sNil))))))) (sRet sBl) sNext)
      (sIfS (sTest (sOp roNeD (sCall (sCons sVar (sCons (sOp roIxL sVar sInt) (sCons (sOp roIxL sVar sInt) (sCons (sTup sNil) (sCons sInt sNil)))))) (sTup (sCons sStr (sCons sInt (sCons sInt (sCons sInt sNil))))))) (sRet sBl) sNext)))))
      (sRet (sAndV (sOp roEqD (sCall (sCons sInt (sCons (sOp roIxL sVar sInt) (sCons (sOp roIxL sVar sInt) (sCons (sTup sNil) (sCons sInt sNil)))))) (sTup (sCons sStr (sCons sInt (sCons sInt (sCons sInt sNil)))))) (sOp roEq (sOp roIxT (sCall (sCons sInt (sCons (sOp roIxL sVar sInt) (sCons (sOp roIxL sVar sInt) (sCons (sTup sNil) (sCons sInt sNil)))))) sInt) sStr))))))))))))))))))))))))))))⟩) (fun ds μ Φ Ψ h => ?hv)
  case hv =>
    obtain ⟨st, ns, c, ws, ps, k, rfl, hc, sc, W, nd, p0, p8, pl, few, hk, h⟩ := h
    obtain ⟨ss, hp, hs⟩ := sorted_of' nd pl
    have eo : ∀ t ws oc, qO T.c_Query t ws oc = D.obj T.c_Query NS_Query [qD t, .tup (ws.map .int), .int (oc : Int)] := fun _ _ _ => rfl
    refine seq_cut fun M hM => ?_
    walk_at "wp"
    refine ⟨st, ns, c, 4, rfl, hc, sc, by decide, by decide, fun y c1 y0 y1 sc => ?_⟩
    obtain ⟨kk, ek, k1, k4⟩ : ∃ s : Nat, (1 : Int) + y = (s : Int) ∧ 1 ≤ s ∧ s ≤ 4 := ⟨(1 + y).toNat, by omega, by omega, by omega⟩
    walk_at "wp"
    rw [ek]
    clear y0 y1 ek y
    rw [hM]; clear hM M
    refine seq_cut fun M hM => ?_
    walk_at "wp"
    refine ⟨st, ns, c1, 4, rfl, sset_same, sc, by decide, by decide, fun y c2 y0 y1 sc => ?_⟩
    obtain ⟨a, ea, a1, a4⟩ : ∃ s : Nat, (1 : Int) + y = (s : Int) ∧ 1 ≤ s ∧ s ≤ 4 := ⟨(1 + y).toNat, by omega, by omega, by omega⟩
    rw [sset_sset]
    walk_at "wp"
    rw [ea]
    clear y0 y1 ea y
    refine ⟨st, ns, c2, 4, rfl, sset_same, sc, by decide, by decide, fun y c3 y0 y1 sc => ?_⟩
    obtain ⟨b, eb, b1, b4⟩ : ∃ s : Nat, (1 : Int) + y = (s : Int) ∧ 1 ≤ s ∧ s ≤ 4 := ⟨(1 + y).toNat, by omega, by omega, by omega⟩
    rw [sset_sset]
    walk_at "wp"
    rw [eb]
    clear y0 y1 eb y
    rw [hM]; clear hM M
    refine ⟨by decide, ?_⟩
    refine seq_cut fun M hM => ?_
    walk_at "wp"
    refine lcG_drawN (StC ns) (fun i acc => ∃ ts : List QT, acc = qDs ts ∧ ts.length = i ∧ ∀ j (hj : j < ts.length), Sm ws ([a, b].getD j 0) ss ts[j]) (Nat.le_of_ble_eq_true rfl) sset_same sc ⟨[], rfl, rfl, by simp⟩ (fun i d μ2 X acc c7 hi hs2 sc ⟨ts, e, hl, hT⟩ hla hx => ?_) (fun acc c4 ⟨ts, e, hl, hT⟩ hla sc => ?_)
    · obtain ⟨sz, esz, rfl, s1, s4⟩ : ∃ sz : Nat, [a, b].getD i 0 = sz ∧ d = .int (sz : Int) ∧ 1 ≤ sz ∧ sz ≤ 4 := by
        rcases i with _ | _ | i
        · exact ⟨a, rfl, (Option.some.inj hi).symm, a1, a4⟩
        · exact ⟨b, rfl, (Option.some.inj hi).symm, b1, b4⟩
        · cases hi
      walk_at "wp"
      refine ⟨by decide, st, ns, c7, ws, sz, ps, rfl, hs2, sc, W, s1, s4, p0, p8, pl, fun t c8 q1 q2 q3 q4 sc => hx _ c8 sc ⟨ts ++ [t], by rw [e, qDs_map, qDs_map, List.map_append]; rfl, by rw [List.length_append, hl]; rfl, fun j hj => ?_⟩⟩
      by_cases z : j < ts.length
      · rw [List.getElem_append_left z]; exact hT j z
      · rw [List.length_append, List.length_singleton] at hj
        have : j = i := by omega
        subst this
        rw [List.getElem_append_right (by omega), esz]
        simp only [List.getElem_singleton]
        exact sm_of W s1 s4 hp hs p8 few q1 (by omega) q3 q4
    obtain ⟨t, s, rfl⟩ : ∃ t s, ts = [t, s] := by
      rcases ts with _ | ⟨t, _ | ⟨s, _ | ⟨u, ts⟩⟩⟩
      · cases hl
      · cases hl
      · exact ⟨t, s, rfl⟩
      · have : ts.length + 1 + 1 + 1 = 2 := hl
        omega
    have ht : Sm ws a ss t := hT 0 (by simp)
    have hs : Sm ws b ss s := hT 1 (by simp)
    have d1 := ht.dep13
    have d2 := hs.dep13
    subst e
    clear hT hl
    rw [sset_sset, show qDs [t, s] = [qD t, qD s] by rw [qDs, qDs, qDs]]
    rw [hM]; clear hM M
    refine seq_cut fun M hM => ?_
    walk_at "wp"
    refine fun x hx => mk_fit ht.fit rfl ⟨rfl, NS_Query, _, sset_same, ?_⟩
    rw [sdel_sset hx, ← eo]
    clear hx x
    rw [hM]; clear hM M
    refine seq_cut fun M hM => ?_
    walk_at "wp"
    refine fun x hx => mk_fit hs.fit rfl ⟨rfl, NS_Query, _, sset_same, ?_⟩
    rw [sdel_sset hx, ← eo]
    clear hx x
    rw [hM]; clear hM M
    refine seq_cut fun M hM => ?_
    walk_at "wp"
    refine ⟨st, ns, c4, a, b, kk, rfl, sset_same, sc, a4, b4, k1, k4, fun nb c5 hb sc => ?_⟩
    rw [sset_sset, hM]; clear hM M
    refine seq_cut fun M hM => ?_
    unfold tbD
    walk_at "wp"
    have hl4 : nb.length = a := hb.l
    refine lcG_mapN (fun i => qD (qSub (tellsQ (nb.getD i [])) s)) (by rw [List.length_map, natT_len]; omega) (fun i d μ2 X hi hsub hx => ?_) ?_
    · unfold natT at hi
      rw [List.map_map, List.getElem?_map, Option.map_eq_some_iff] at hi
      obtain ⟨os, hos, rfl⟩ := hi
      have hm := List.mem_of_getElem? hos
      have hol := (hb.r os hm).1
      rw [List.getD_eq_getElem?_getD, hos] at hx
      walk_at "wps"
      refine ⟨_, rfl, lcG_mapN (fun i => .tup [.str "tell", .int ((os.getD i 0 : Nat) : Int)]) ?_ (fun j d μ3 X3 hj hsub3 hx3 => ?_) ?_⟩
      · rw [List.length_map, List.length_map]; omega
      · rw [List.map_map, List.getElem?_map, Option.map_eq_some_iff] at hj
        obtain ⟨o, ho, rfl⟩ := hj
        rw [List.getD_eq_getElem?_getD, ho] at hx3
        walk_at "wps"
        exact ⟨by decide, hx3⟩
      · have e : (List.range ((os.map fun (n : Nat) => (n : Int)).map D.int).length).map (fun i => D.tup [.str "tell", .int ((os.getD i 0 : Nat) : Int)]) = qDs (tellsQ os) := by
          rw [tellsQ_D, List.length_map, List.length_map]
          refine List.ext_getElem (by rw [List.length_map, List.length_range, List.length_map]) fun i h1 h2 => ?_
          have hi : i < os.length := by rw [List.length_map] at h2; exact h2
          rw [List.getElem_map, List.getElem_range, List.getElem_map, List.getD_eq_getElem?_getD, List.getElem?_eq_getElem hi]
          rfl
        rw [e]
        refine ⟨_, .lst _, ws, b, s, tellsQ os, rfl, hs.fit.ok, W, by unfold tellsQ; rw [List.length_map, hol]; exact Nat.le_refl _, by omega, hx⟩
    have ej : (List.range (List.map (fun r => D.tup (List.map D.int r)) (natT nb)).length).map (fun i => qD (qSub (tellsQ (nb.getD i [])) s)) = qDs (joinT nb s) := by
      rw [List.length_map, natT_len, qDs_map]
      unfold joinT
      rw [List.map_map]
      refine List.ext_getElem (by rw [List.length_map, List.length_range, List.length_map]) fun i a b => ?_
      have hi : i < nb.length := by rw [List.length_map] at b; exact b
      rw [List.getElem_map, List.getElem_range, List.getElem_map, List.getD_eq_getElem?_getD, List.getElem?_eq_getElem hi]
      rfl
    rw [ej]
    clear ej
    refine ⟨_, .lst _, ?_⟩
    rw [hM]; clear hM M
    refine seq_cut fun M hM => ?_
    walk_at "wp"
    have hjl : (joinT nb s).length = a := by unfold joinT; rw [List.length_map]; exact hl4
    have htry := try_join ht hs hb k1 k4
    have hdep := qSub_dep (ss := joinT nb s) (m := 13) (fun x hx => by
      obtain ⟨os, _, rfl⟩ := joinT_mem hx
      exact Nat.le_trans tells_dep d2) t
    refine ⟨ws, a, t, joinT nb s, rfl, ht.fit.ok, W, by omega, by omega, ws, kk, _, rfl, htry.ok, W, by omega, htry.len, ?_⟩
    have pld := pln_due W htry.ok
    have nbl : (natT nb).length ≤ 100 := by rw [natT_len]; omega
    have nbr : ∀ r ∈ natT nb, r.length ≤ 100 := fun r hr => by
      unfold natT at hr
      obtain ⟨os, ho, rfl⟩ := List.mem_map.mp hr
      have := (hb.r os ho).1
      rw [List.length_map]; omega
    have hask : Ask T.c_Query 4 (qO T.c_Query t ws a) (qO T.c_Query s ws b) (tbD (natT nb)) (.int (kk : Int)) (.mk ws kk (qSub (joinT nb s) t)) := by
      refine .join (k := (kk : Int)) ht.fit.ok (by omega) W hs.fit.ok (by omega) nbl nbr (by omega) (by omega) _ (fun z => absurd rfl z) (fun _ z => absurd ⟨by omega, by omega, nb, rfl, by rw [Int.toNat_natCast]; exact hb⟩ z) fun _ m nb2 e1 e2 e3 e4 e5 => ?_
      have : m = kk := by omega
      subst this
      rw [natT_inj e4]
    rw [hM]; clear hM M
    refine seq_cut fun M hM => ?_
    walk_at "wp"
    refine ⟨4, _, _, _, _, _, rfl, hask, ⟨htry, same_self pld ⟨true, rfl, nofun, fun _ => ?_⟩⟩⟩
    generalize dueD ws kk (qSub (joinT nb s) t) = due
    clear pld hask htry hdep
    rw [hM]; clear hM M
    refine seq_cut fun M hM => ?_
    walk_at "wp"
    refine ⟨st, ns, c5, (a : Int), rfl, sset_same, sc, by omega, log_small (by omega), fun y c6 y0 y1 sc => ?_⟩
    rw [sset_sset]
    obtain ⟨at_, rfl⟩ : ∃ s : Nat, y = (s : Int) := ⟨y.toNat, by omega⟩
    rw [hM]; clear hM M
    refine seq_cut fun M hM => ?_
    walk_at "wp"
    have hat : at_ < nb.length := by omega
    obtain ⟨hos, hok⟩ := hb.r _ (List.getElem_mem hat)
    refine ⟨_, atI_nat (v := .tup ((nb[at_].map fun (n : Nat) => (n : Int)).map .int)) (by unfold natT; rw [List.map_map, List.getElem?_map, List.getElem?_eq_getElem hat]; rfl), ?_⟩
    generalize hr : nb[at_] = os at *
    rw [hM]; clear hM M
    refine seq_cut fun M hM => ?_
    walk_at "wp"
    refine ⟨st, ns, c6, (b : Int), rfl, sset_same, sc, by omega, log_small (by omega), fun z c7 z0 z1 sc => ?_⟩
    rw [sset_sset]
    obtain ⟨x_, rfl⟩ : ∃ s : Nat, z = (s : Int) := ⟨z.toNat, by omega⟩
    rw [hM]; clear hM M
    refine seq_cut fun M hM => ?_
    walk_at "wp"
    have osl : os.length ≤ 4 := by omega
    refine ⟨by decide, by simp; omega, by simp; omega, by decide, by simp; omega, by simp; omega, by decide, by omega, by decide, ?_⟩
    refine ⟨st, ns, c7, 4, rfl, sset_same, sc, by decide, by decide, fun y c8 y0 y1 sc => ?_⟩
    rw [sset_sset]
    obtain ⟨wh, rfl⟩ : ∃ s : Nat, y = (s : Int) := ⟨y.toNat, by omega⟩
    obtain ⟨wr, ewr, hwr, hbr⟩ := wrongs (k := kk) (x := x_) rfl hos b1 b4 (by omega) wh (by omega)
    walk_at "wp"
    refine ⟨_, atI_nat ewr, ?_⟩
    rw [hM]; clear hM M
    refine seq_cut fun M hM => ?_
    walk_at "wp"
    refine ⟨by decide, by simp; omega, by simp; omega, by decide, by omega, by decide, by decide, ?_⟩
    rw [hM]; clear hM M
    refine seq_cut fun M hM => ?_
    walk_at "wp"
    refine ⟨st, ns, c8, 4, rfl, sset_same, sc, by decide, by decide, fun y c9 y2 y3 sc => ?_⟩
    rw [sset_sset]
    obtain ⟨wt, rfl⟩ : ∃ s : Nat, y = (s : Int) := ⟨y.toNat, by omega⟩
    obtain ⟨tb, etb, tb1, tb2, tb3⟩ := bads (k := kk) (x := at_) (w := .tup (wr.map .int)) rfl hb a1 a4 (by omega) (by rw [List.getElem?_eq_getElem hat, hr]) rfl hwr hbr b4 wt (by omega)
    walk_at "wp"
    refine ⟨_, atI_nat etb, ?_⟩
    rw [hM]; clear hM M
    refine seq_cut fun M hM => ?_
    walk_at "wp"
    refine ⟨by decide, st, ns, c9, 2, rfl, sset_same, sc, by decide, by decide, fun y c10 y4 y5 sc => ?_⟩
    rw [sset_sset]
    obtain ⟨z_, ez, hz0, hz⟩ : ∃ z : Int, atI [D.int 0, .int 5] y = some (.int z) ∧ 0 ≤ z ∧ ¬ (1 ≤ z ∧ z ≤ 4) ∧ z ≤ 5 := by
      rcases (show y = 0 ∨ y = 1 by omega) with rfl | rfl
      · exact ⟨0, rfl, by omega, by omega, by omega⟩
      · exact ⟨5, rfl, by omega, by omega, by omega⟩
    walk_at "wp"
    refine ⟨_, ez, ?_⟩
    have hrows : (List.map (fun r => D.tup (List.map D.int r)) (natT nb)).length ≤ 1000 := by rw [List.length_map]; omega
    generalize D.lst [D.tup (List.take at_ (List.map (fun r => D.tup (List.map D.int r)) (natT nb)) ++ [D.tup (List.map D.int wr)] ++ List.drop (at_ + 1) (List.map (fun r => D.tup (List.map D.int r)) (natT nb))), D.tup (List.map (fun r => D.tup (List.map D.int r)) (natT nb) ++ [D.tup (List.map D.int (List.map (fun (n : Nat) => (n : Int)) os))]), D.tup (DW.cutD (List.map (fun r => D.tup (List.map D.int r)) (natT nb)) none (some (-1))), D.tup []] = dtb
    rw [show (.tup (List.map (fun r => .tup (List.map .int r)) (natT nb))) = tbD (natT nb) from rfl]
    rw [hM]; clear hM M
    refine seq_cut fun M hM => ?_
    walk_at "wp"
    refine ⟨4, _, _, _, _, _, rfl, join_bad ht hs tb1 tb2 (by omega) (by omega) (fun z => tb3 (by rw [Int.toNat_natCast] at z; exact z.2.2)), ?_⟩
    simp only
    walk_at "wp"
    refine ⟨by decide, ne_ref ⟨false, rfl, nofun, fun _ => ?_⟩⟩
    rw [hM]; clear hM M
    refine seq_cut fun M hM => ?_
    walk_at "wp"
    refine ⟨4, _, _, _, _, _, rfl, join_bad ht hs nbl nbr (by omega) (by omega) (fun z => hz.1 ⟨z.1, z.2.1⟩), ?_⟩
    simp only
    walk_at "wp"
    refine ⟨by decide, ne_ref ⟨false, rfl, nofun, fun _ => ?_⟩⟩
    rw [hM]; clear hM M
    refine seq_cut fun M hM => ?_
    walk_at "wp"
    refine ⟨st, ns, c10, (ws.length : Int), rfl, sset_same, sc, by have := W.l0; omega, log_small (by have := W.l1; omega), fun y c11 y6 y7 sc => ?_⟩
    rw [sset_sset]
    obtain ⟨a2, rfl⟩ : ∃ s : Nat, y = (s : Int) := ⟨y.toNat, by omega⟩
    rw [hM]; clear hM M
    refine seq_cut fun M hM => ?_
    walk_at "wp"
    have ha2 : a2 < ws.length := by omega
    have hv := W.w _ (List.getElem_mem ha2)
    refine ⟨.int ws[a2], atI_nat (by rw [List.getElem?_map, List.getElem?_eq_getElem ha2]; rfl), ws[a2], .inl ⟨rfl, ?_⟩⟩
    walk_at "wp"
    refine ⟨by decide, by decide, by have := W.l1; simp; omega, by have := W.l1; simp; omega, ?_⟩
    have emv : List.take a2 (List.map D.int ws) ++ [D.int (1 + ws[a2] % 4)] ++ List.drop (a2 + 1) (List.map D.int ws) = (ws.take a2 ++ [1 + ws[a2] % 4] ++ ws.drop (a2 + 1)).map .int := by
      rw [List.map_append, List.map_append, List.map_take, List.map_drop]; rfl
    rw [emv]
    rw [hM]; clear hM M emv
    refine seq_cut fun M hM => ?_
    walk_at "wp"
    have main : ∀ (mv : List Int) (c : List D), WsOk mv → ws ≠ mv → a2 < mv.length → StC ns c → M [some (.hd (.ref st)), some (.tup (ws.map .int)), some (.lst (nI ps)), some (.int (k : Int)), some (.int (kk : Int)), some (.lst [.int (a : Int), .int (b : Int)]), some (.lst [qD t, qD s]), some (qO T.c_Query t ws a), some (qO T.c_Query s ws b), some (tbD (natT nb)), some (.tup (qDs (joinT nb s))), some due, some (.int (a2 : Int)), some (.tup ((os.map fun (n : Nat) => (n : Int)).map .int)), some (.int (x_ : Int)), some (.tup (wr.map .int)), some dtb, some (tbD tb), some (.int z_), some (.tup (mv.map .int)), none, none, none, none, none, none] (sset μ st (.lst c)) := by
      intro mv c WM hne ham sc
      rw [hM]; clear hM M
      refine seq_cut fun M hM => ?_
      walk_at "wp"
      have hmv : mv[a2] = (wd mv a2 : Int) := by
        obtain ⟨x, e1, e2, _⟩ := WM.at_ a2
        rw [Nat.mod_eq_of_lt ham, List.getElem?_eq_getElem ham] at e1
        rw [Option.some.inj e1, e2]
      have hwd := WM.wd1 a2
      have hl1 := W.l1
      refine ⟨by decide, by decide, by decide, .int (wd mv a2 : Int), atI_nat (by rw [List.getElem?_map, List.getElem?_eq_getElem ham, hmv]; rfl), ?_⟩
      walk_at "wp"
      refine ⟨by omega, by omega, by decide, ?_⟩
      rw [str_rep]
      refine ⟨by rw [qDs_len, List.length_replicate]; omega, ?_⟩
      have estr : D.tup (D.str "look" :: .int (a2 : Int) :: qDs (List.replicate (wd mv a2) (.tell 0))) = qD (strT mv a2) := by unfold strT; rw [qD]
      have hst := str_sm (a := a2) WM b1 b4 (by omega)
      rw [estr]
      clear estr hmv hwd
      generalize strT mv a2 = u at *
      refine fun x hx => mk_fit hst.fit rfl ⟨rfl, NS_Query, _, sset_same, ?_⟩
      rw [sdel_sset hx, ← eo]
      clear hx x
      rw [hM]; clear hM M
      refine seq_cut fun M hM => ?_
      walk_at "wp"
      refine ⟨by decide, by decide, by decide, by decide, fun i δ' μ' => μ' = sset μ st (.lst c) ∧ ∃ x1 : Option D, δ' = [some (.hd (.ref st)), some (.tup (ws.map .int)), some (.lst (nI ps)), some (.int (k : Int)), some (.int (kk : Int)), some (.lst [.int (a : Int), .int (b : Int)]), some (.lst [qD t, qD s]), some (qO T.c_Query t ws a), some (qO T.c_Query s ws b), some (tbD (natT nb)), some (.tup (qDs (joinT nb s))), some due, some (.int (a2 : Int)), some (.tup ((os.map fun (n : Nat) => (n : Int)).map .int)), some (.int (x_ : Int)), some (.tup (wr.map .int)), some dtb, some (tbD tb), some (.int z_), some (.tup (mv.map .int)), some (qO T.c_Query u mv b), x1, none, none, none, none], ⟨rfl, none, rfl⟩, ?_, ?_⟩
      · rintro i d δ' μ' hi ⟨rfl, x1, rfl⟩
        obtain ⟨tx, kx, rfl, b1, b2, b3, b4⟩ : ∃ (tx : List (List Int)) (kx : Int), d = .lst [tbD tx, .int kx] ∧ tx.length ≤ 100 ∧ (∀ r ∈ tx, r.length ≤ 100) ∧ -5 ≤ kx ∧ kx ≤ 100 := by
          rcases i with _ | _ | _ | i
          · exact ⟨natT nb, kk, (Option.some.inj hi).symm, nbl, nbr, by omega, by omega⟩
          · exact ⟨tb, kk, (Option.some.inj hi).symm, tb1, tb2, by omega, by omega⟩
          · exact ⟨natT nb, z_, (Option.some.inj hi).symm, nbl, nbr, by omega, by omega⟩
          · cases hi
        walk_at "wp"
        refine ⟨4, _, _, _, _, _, rfl, join_size ht hst b1 b2 b3 b4 hne, ?_⟩
        simp only
        walk_at "wp"
        exact ⟨by decide, ne_ref ⟨false, rfl, nofun, fun _ => ⟨rfl, _, rfl⟩⟩⟩
      · rintro δ' μ' ⟨rfl, x1, rfl⟩
        rw [hM]; clear hM M
        refine seq_cut fun M hM => ?_
        walk_at "wp"
        have e0 : D.tup [.str "tell", .int 0] = qD (.tell 0) := by rw [qD]; rfl
        have e1 : D.tup [.str "tell", .int 1] = qD (.tell 1) := by rw [qD]; rfl
        have g0 := tell_sm (o := 0) (b := 2) WM (by decide) (by decide) (by decide)
        have g1 := tell_sm (o := 1) (b := 2) W (by decide) (by decide) (by decide)
        have g2 := tell_sm (o := 0) (b := k) W (by omega) (by omega) (by omega)
        rw [e0, e1]
        refine ⟨by decide, fun x hx => mk_fit g0.fit rfl ⟨rfl, NS_Query, _, sset_same, ?_⟩⟩
        rw [sdel_sset hx, ← eo]
        clear hx x
        refine ⟨by decide, fun x hx => mk_fit g1.fit rfl ⟨rfl, NS_Query, _, sset_same, ?_⟩⟩
        rw [sdel_sset hx, ← eo]
        clear hx x
        refine ⟨by decide, fun x hx => mk_fit g2.fit rfl ⟨rfl, NS_Query, _, sset_same, ?_⟩⟩
        rw [sdel_sset hx, ← eo]
        clear hx x
        refine ⟨by decide, ?_⟩
        rw [hM]; clear hM M
        refine seq_cut fun M hM => ?_
        have fin : ∀ x : Option D, M [some (.hd (.ref st)), some (.tup (ws.map .int)), some (.lst (nI ps)), some (.int (k : Int)), some (.int (kk : Int)), some (.lst [.int (a : Int), .int (b : Int)]), some (.lst [qD t, qD s]), some (qO T.c_Query t ws a), some (qO T.c_Query s ws b), some (tbD (natT nb)), some (.tup (qDs (joinT nb s))), some due, some (.int (a2 : Int)), some (.tup ((os.map fun (n : Nat) => (n : Int)).map .int)), some (.int (x_ : Int)), some (.tup (wr.map .int)), some dtb, some (tbD tb), some (.int z_), some (.tup (mv.map .int)), some (qO T.c_Query u mv b), x1, some (.lst [qO T.c_Query (.tell 0) mv 2, qO T.c_Query (.tell 1) ws 2, qO T.c_Query (.tell 0) ws k]), x, none, none] (sset μ st (.lst c)) := by
          intro x
          rw [hM]; clear hM M
          walk_at "wps"
          refine ⟨by decide, 3, _, _, _, _, .size, rfl, .inv g2.fit.ok (by have := g2.dep13; omega) W .size (fun z => absurd z (by omega)) (fun _ => rfl), ?_⟩
          simp only
          refine ⟨by decide, eq_ref ⟨true, rfl, fun _ => ⟨by decide, 3, _, _, _, _, .mk ws 2 (qSub (tellsQ [1, 0]) (.tell 1)), rfl, .inv g1.fit.ok (by have := g1.dep13; omega) W _ (fun _ => rfl) (fun z => absurd rfl z), ?_⟩, nofun⟩⟩
          have g3 := tell_sm (o := 0) (b := 2) W (by decide) (by decide) (by decide)
          have e3 : qSub (tellsQ [1, 0]) (.tell 1) = .tell 0 := by rw [qSub]; rfl
          simp only
          rw [e3]
          refine ⟨g3.fit.try_, ?_⟩
          unfold dueD
          rw [g3.fit.mk_]
          simp only
          walk_at "wps"
          exact ret_same (by simpa using h c sc)
        walk_at "wp"
        refine ⟨by decide, by decide, fun i δ' μ' => μ' = sset μ st (.lst c) ∧ ∃ x : Option D, δ' = [some (.hd (.ref st)), some (.tup (ws.map .int)), some (.lst (nI ps)), some (.int (k : Int)), some (.int (kk : Int)), some (.lst [.int (a : Int), .int (b : Int)]), some (.lst [qD t, qD s]), some (qO T.c_Query t ws a), some (qO T.c_Query s ws b), some (tbD (natT nb)), some (.tup (qDs (joinT nb s))), some due, some (.int (a2 : Int)), some (.tup ((os.map fun (n : Nat) => (n : Int)).map .int)), some (.int (x_ : Int)), some (.tup (wr.map .int)), some dtb, some (tbD tb), some (.int z_), some (.tup (mv.map .int)), some (qO T.c_Query u mv b), x1, some (.lst [qO T.c_Query (.tell 0) mv 2, qO T.c_Query (.tell 1) ws 2, qO T.c_Query (.tell 0) ws k]), x, none, none], ⟨rfl, none, rfl⟩, ?_, ?_⟩
        · rintro i d δ' μ' hi ⟨rfl, x, rfl⟩
          obtain ⟨hj, rfl⟩ := rngD_get hi
          have hi3 : i < 3 := hj
          rw [Int.zero_add]
          refine seq_cut fun N hN => ?_
          walk_at "wp"
          refine ⟨by decide, i, _, _, _, _, _, rfl, pair_size g0 g1 (fun z => hne z.2.2.symm) i hi3, ?_⟩
          simp only
          refine ⟨by decide, ne_ref ⟨false, rfl, nofun, fun _ => ?_⟩⟩
          rw [hN]; clear hN N
          refine seq_cut fun N hN => ?_
          walk_at "wp"
          refine ⟨by decide, i, _, _, _, _, _, rfl, pair_size g1 g2 (fun z => by have := z.2.1; omega) i hi3, ?_⟩
          simp only
          refine ⟨by decide, ne_ref ⟨false, rfl, nofun, fun _ => ?_⟩⟩
          rw [hN]; clear hN N
          walk_at "wp"
          refine ⟨by decide, i, _, _, _, _, _, rfl, pair_size g2 g1 (fun z => by have := z.1; omega) i hi3, ?_⟩
          simp only
          exact ⟨by decide, ne_ref ⟨false, rfl, nofun, fun _ => ⟨rfl, _, rfl⟩⟩⟩
        · rintro δ' μ' ⟨rfl, x, rfl⟩
          exact fin x
    obtain ⟨m1, m2, m3⟩ := moved1 W ha2
    refine ⟨fun z => ⟨st, ns, c11, 3, rfl, sset_same, sc, by decide, by decide, fun y c12 y8 y9 sc => ?_⟩, fun _ => main _ c11 m1 m2 m3 sc⟩
    rw [sset_sset]
    walk_at "wp"
    refine ⟨fun _ => ⟨by omega, ?_⟩, fun _ => main _ c12 m1 m2 m3 sc⟩
    obtain ⟨n1, n2, n3⟩ := moved2 W ha2 (by omega)
    rw [← List.map_append]
    exact main _ c12 n1 n2 n3 sc
end
section
variable {P : Program} {w : World} {K : Fg} {mg : Str → Option Value} {base : Heap}
theorem WsOk.hrf {ws : List Int} {r : Rw} (hr : RwOk r) (hrf : RFit ws r) : ∀ p, rF r p < wd ws p := fun p => by
  have h1 := hrf p
  have h2 := ent_nn hr p
  unfold rF
  omega
theorem fix_ask {C : Addr} {ws : List Int} {oc p o : Nat} {ps : List Nat} {t : QT} {b : D} (h : QFit ws oc ps t) (hp : p < 100) (ho : o < wd ws p) : Ask C 5 (qO C t ws oc) b (.int (p : Int)) (.int (o : Int)) (.mk ws oc (qFx p o t)) :=
  .fix h _ (fun z => absurd ⟨by omega, by omega, by omega, by rw [Int.toNat_natCast]; omega⟩ z) fun q o2 e1 e2 _ _ => by rw [show q = p by omega, show o2 = o by omega]
theorem fix_range {C : Addr} {ws : List Int} {oc : Nat} {ps : List Nat} {t : QT} {b : D} {p x : Int} (h : QFit ws oc ps t) (hn : ¬ (0 ≤ p ∧ p < 100 ∧ 0 ≤ x ∧ x < (wd ws p.toNat : Int))) : Ask C 5 (qO C t ws oc) b (.int p) (.int x) .range :=
  .fix h _ (fun _ => rfl) fun q o e1 e2 h3 h4 => absurd ⟨by omega, by omega, by omega, by subst e1; rw [Int.toNat_natCast]; omega⟩ hn
theorem due_fit {ws : List Int} {oc : Nat} {ps : List Nat} {t : QT} (h : QFit ws oc ps t) : dueD ws oc t = .tup [.str "made", qD t, .tup (ws.map .int), .int (oc : Int)] := by unfold dueD; rw [h.mk_]
theorem sset_under {μ : Sto} {p st : Addr} {x y z : Cell} (h : p ≠ st) : sset (sset (sset μ st x) p y) st z = sset (sset μ st z) p y := by
  funext a
  unfold sset
  by_cases e1 : a = st
  · subst e1; rw [if_pos rfl, if_neg h.symm, if_pos rfl]
  · rw [if_neg e1]
    by_cases e2 : a = p
    · rw [if_pos e2, if_pos e2]
    · rw [if_neg e2, if_neg e2, if_neg e1, if_neg e1]
theorem sset_get {μ : Sto} {p st : Addr} {x y : Cell} (h : p ≠ st) : sset (sset μ st x) p y st = some x := by rw [sset_ne h.symm, sset_same]
def c__law_fixes (C Q L S O : Addr) : Con := fun ds μ Φ _ => ∃ (st : Addr) (ns : List Int) (c : List D) (ws : List Int) (ps : List Nat) (t : QT) (k : Nat), ds = [.hd (.ref st), qO C t ws k, qD t, .tup (ws.map .int), .int (k : Int)] ∧ μ st = some (.lst c) ∧ StC ns c ∧ QFit ws k ps t ∧ ∀ c', StC ns c' → Φ (.bl true) (sset μ st (.lst c'))
theorem len__law_fixes {C Q L S O ds μ Φ Ψ} (h : c__law_fixes C Q L S O ds μ Φ Ψ) : ds.length = 5 := by obtain ⟨_, _, _, _, _, _, _, rfl, _⟩ := h; rfl
theorem ok__law_fixes (T : Txt P w K mg) : FnOk P w K mg base (L2N.CX P w) 60 T.f__law_fixes T.d__law_fixes ["_law_state", "_law_query", "_law_term", "_law_widths_here", "_law_k"] (spOf K (c__law_fixes T.c_Query T.c_InvalidQuery T.c_TooLarge T.c_SizeMismatch T.c_OutOfRange)) := by
  refine def_okC T.F__law_fixes sc__law_fixes _ (fun ds μ Φ Ψ h => len__law_fixes h) (fun cdv A outer s H E B hW hr =>
    have tk : L2N.Takes (cxOf (L2N.CX P w) P w K mg base N__law_fixes "_law_fixes" (defScope s__law_fixes) T.f__law_fixes cdv A outer s H E) (fun cls d _ H => E cls d H) := L2N.takes_of rfl rfl rfl rfl
    ⟨_, (pss_cons (ps_set (i := 5) sc__law_fixes.nd rfl (Or.inl rfl) (pe_call (ok__law_endless T) (hr.mono (by decide)) rfl T.g__law_endless T.F__law_endless.kp T.b__law_endless .nil passN (pa_cons (pv 0) (pa_cons (pv 3) pa_nil))))
      (pss_cons (ps_set (i := 6) sc__law_fixes.nd rfl (Or.inl rfl) (pe_call (ok__law_named T) (hr.mono (by decide)) rfl T.g__law_named T.F__law_named.kp T.b__law_named .nil passN (pa_cons (pv 2) (pa_cons (pe_lst pa_nil) pa_nil))))
      (pss_cons (ps_for (passes_of rfl) rfl (pi_list (pe_lst (pa_cons (pe_ix ix_list (pe_op op_cat (pv 6) (pe_lst (pa_cons pe_int pa_nil))) (pe_call (ok__law_pick T) (hr.mono (by decide)) rfl T.g__law_pick T.F__law_pick.kp T.b__law_pick .nil passN (pa_cons (pv 0) (pa_cons (pe_op op_add pe_int (pe_callB call_len_seq (by rfl) T.z_len PySem.boot_len (pa_cons (pv 6) pa_nil))) pa_nil))) (fun _ _ => rfl)) (pa_cons (pe_call (ok__law_pick T) (hr.mono (by decide)) rfl T.g__law_pick T.F__law_pick.kp T.b__law_pick .nil passN (pa_cons (pv 0) (pa_cons pe_int pa_nil))) (pa_cons pe_int pa_nil))))) (pg_name (i := 7) sc__law_fixes.nd rfl (Or.inl rfl)) (pss_cons (ps_set (i := 8) sc__law_fixes.nd rfl (Or.inl rfl) (pe_call (ok__law_width T) (hr.mono (by decide)) rfl T.g__law_width T.F__law_width.kp T.b__law_width .nil passN (pa_cons (pv 3) (pa_cons (pv 7) pa_nil))))
      (pss_cons (ps_set (i := 9) sc__law_fixes.nd rfl (Or.inl rfl) (pe_call (ok__law_pick T) (hr.mono (by decide)) rfl T.g__law_pick T.F__law_pick.kp T.b__law_pick .nil passN (pa_cons (pv 0) (pa_cons (pv 8) pa_nil))))
      (pss_cons (ps_set (i := 10) sc__law_fixes.nd rfl (Or.inl rfl) (pe_call (ok__law_without T) (hr.mono (by decide)) rfl T.g__law_without T.F__law_without.kp T.b__law_without .nil passN (pa_cons (pv 2) (pa_cons (pv 7) (pa_cons (pv 9) pa_nil)))))
      (pss_cons (ps_if (pt_not (pt_val (pe_call (ok__law_same T) (hr.mono (by decide)) rfl T.g__law_same T.F__law_same.kp T.b__law_same .nil passN (pa_cons (pe_call (ok__law_made T) (hr.mono (by decide)) rfl T.g__law_made T.F__law_made.kp T.b__law_made .nil passN (pa_cons pe_int (pa_cons (pv 1) (pa_cons (pv 1) (pa_cons (pv 7) (pa_cons (pv 9) pa_nil)))))) (pa_cons (pe_tupN (pa_cons pe_str (pa_cons (pv 10) (pa_cons (pv 3) (pa_cons (pv 4) pa_nil))))) pa_nil))))) (pss_one (ps_ret pe_bl)) pss_nil)
      (pss_cons (ps_set (i := 11) sc__law_fixes.nd rfl (Or.inl rfl) (pe_callS (ok_fix_place T) (hr.mono (by decide)) rfl T.g_fix_place T.F_fix_place.kp T.b_fix_place (fun σ => L2N.passAt tk σ) (pa_cons (pv 1) (pa_cons (pv 7) (pa_cons (pv 9) pa_nil)))))
      (pss_cons (ps_if (pt_not (pt_val (pe_call (ok__law_same T) (hr.mono (by decide)) rfl T.g__law_same T.F__law_same.kp T.b__law_same .nil passN (pa_cons (pe_callX (i := 11) T.me_Query___call__ T.fn_Query___call__ (ok_Query___call__ T) (hr.mono (by decide)) T.b_Query___call__ (fun σ => L2N.passAt tk σ) rfl (Or.inl rfl) (by exact (pa_cons (pe_makeS T.mk_Row (ok_Row___init__ T) (hr.mono (by decide)) rfl T.g_Row T.b_Row___init__ (fun σ => L2N.passAt tk σ) (pa_cons (pe_ix ix_list (pv 5) pe_int (fun _ _ => rfl)) (pa_cons (pe_ix ix_list (pv 5) pe_int (fun _ _ => rfl)) pa_nil))) pa_nil))) (pa_cons (pe_call (ok__law_walk T) (hr.mono (by decide)) rfl T.g__law_walk T.F__law_walk.kp T.b__law_walk .nil passN (pa_cons (pv 10) (pa_cons (pv 5) pa_nil))) pa_nil))))) (pss_one (ps_ret pe_bl)) pss_nil)
      (pss_cons (ps_if (pt_not (pt_val (pe_call (ok__law_same T) (hr.mono (by decide)) rfl T.g__law_same T.F__law_same.kp T.b__law_same .nil passN (pa_cons (pe_fld (pe_callS (ok_fix_place T) (hr.mono (by decide)) rfl T.g_fix_place T.F_fix_place.kp T.b_fix_place (fun σ => L2N.passAt tk σ) (pa_cons (pv 11) (pa_cons (pv 7) (pa_cons (pe_op op_sub (pv 8) pe_int) pa_nil)))) rfl) (pa_cons (pv 10) pa_nil))))) (pss_one (ps_ret pe_bl)) pss_nil)
      (pss_cons (ps_set (i := 12) sc__law_fixes.nd rfl (Or.inl rfl) (pe_ix ix_list (pe_lst (pa_cons (pv 8) (pa_cons (pe_un un_neg pe_int) (pa_cons (pe_op op_add (pv 8) pe_int) pa_nil)))) (pe_call (ok__law_pick T) (hr.mono (by decide)) rfl T.g__law_pick T.F__law_pick.kp T.b__law_pick .nil passN (pa_cons (pv 0) (pa_cons pe_int pa_nil))) (fun _ _ => rfl)))
      (pss_one (ps_if (pt_cmpR (op_neD hr.units) (pe_call (ok__law_made T) (hr.mono (by decide)) rfl T.g__law_made T.F__law_made.kp T.b__law_made .nil passN (pa_cons pe_int (pa_cons (pv 1) (pa_cons (pv 1) (pa_cons (pv 7) (pa_cons (pv 12) pa_nil)))))) (pe_tupN (pa_cons pe_str (pa_cons pe_int (pa_cons pe_int (pa_cons pe_int pa_nil))))) (nomark _)) (pss_one (ps_ret pe_bl)) pss_nil)))))))))))
      (pss_cons (ps_for (passes_of rfl) rfl (pi_list (pe_lst (pa_cons (pe_un un_neg pe_int) (pa_cons (pe_op op_add pe_int (pe_call (ok__law_pick T) (hr.mono (by decide)) rfl T.g__law_pick T.F__law_pick.kp T.b__law_pick .nil passN (pa_cons (pv 0) (pa_cons pe_int pa_nil)))) pa_nil)))) (pg_name (i := 7) sc__law_fixes.nd rfl (Or.inl rfl)) (pss_one (ps_if (pt_cmpR (op_neD hr.units) (pe_call (ok__law_made T) (hr.mono (by decide)) rfl T.g__law_made T.F__law_made.kp T.b__law_made .nil passN (pa_cons pe_int (pa_cons (pv 1) (pa_cons (pv 1) (pa_cons (pv 7) (pa_cons pe_int pa_nil)))))) (pe_tupN (pa_cons pe_str (pa_cons pe_int (pa_cons pe_int (pa_cons pe_int pa_nil))))) (nomark _)) (pss_one (ps_ret pe_bl)) pss_nil)))
      (pss_one (ps_ret (pe_call (ok__law_same T) (hr.mono (by decide)) rfl T.g__law_same T.F__law_same.kp T.b__law_same .nil passN (pa_cons (pe_fld (pv 1) rfl) (pa_cons (pv 2) pa_nil))))))))),
      (sSeq (sAsg (sCall (sCons sVar (sCons sVar sNil))) sName)
      (sSeq (sAsg (sRestE (sCall (sCons sVar (sCons (sOwn sNil) sNil)))) sName)
      (sSeq (sFor (siL (sLst (sCons (sOp roIxL (sOp roCatL sVar (sLst (sCons sInt sNil))) (sCall (sCons sVar (sCons (sOp roInt0 sInt (sCB rcLen (sCons sVar sNil))) sNil)))) (sCons (sCall (sCons sVar (sCons sInt sNil))) (sCons sInt sNil))))) (fun _ _ _ => sName) (fun _ _ _ => (sSeq (sAsg (sCall (sCons sVar (sCons sVar sNil))) sName)
      (sSeq (sAsg (sCall (sCons sVar (sCons sVar sNil))) sName)
      (sSeq (sAsg (sCall (sCons sVar (sCons sVar (sCons sVar sNil)))) sName)
      (sSeq (sIfS (sNot (sB (sCall (sCons (sCall (sCons sInt (sCons sVar (sCons sVar (sCons sVar (sCons sVar sNil)))))) (sCons (sTup (sCons sStr (sCons sVar (sCons sVar (sCons sVar sNil))))) sNil))))) (sRet sBl) sNext)
      (sSeq (sAsg (sCallSW (W := fun cls d _ H => E cls d H) (by exact hW) (sCons sVar (sCons sVar (sCons sVar sNil)))) sName)
      (sSeq (sIfS (sNot (sB (sCall (sCons (sCallX (NS := NS_Query) (W := fun cls d _ H => E cls d H) (by exact hW) (sCons (sMakeSW (W := fun cls d _ H => E cls d H) (by exact hW) (sCons (sOp roIxL sVar sInt) (sCons (sOp roIxL sVar sInt) sNil))) sNil)) (sCons (sCall (sCons sVar (sCons sVar sNil))) sNil))))) (sRet sBl) sNext)
      (sSeq (sIfS (sNot (sB (sCall (sCons (sFldO (NS := NS_Query) (i := 0) T.cls_Query T.na_Query_term rfl (by decide) (sCallSW (W := fun cls d _ H => E cls d H) (by exact hW) (sCons sVar (sCons sVar (sCons (sOp roInt0 sVar sInt) sNil))))) (sCons sVar sNil))))) (sRet sBl) sNext)
      (sSeq (sAsg (sOp roIxL (sLst (sCons sVar (sCons (sUn ruInt sInt) (sCons (sOp roInt0 sVar sInt) sNil)))) (sCall (sCons sVar (sCons sInt sNil)))) sName)
      (sIfS (sTest (sOp roNeD (sCall (sCons sInt (sCons sVar (sCons sVar (sCons sVar (sCons sVar sNil)))))) (sTup (sCons sStr (sCons sInt (sCons sInt (sCons sInt sNil))))))) (sRet sBl) sNext)))))))))))
      (sSeq (sFor (siL (sLst (sCons (sUn ruInt sInt) (sCons (sOp roInt0 sInt (sCall (sCons sVar (sCons sInt sNil)))) sNil)))) (fun _ _ _ => sName) (fun _ _ _ => (sIfS (sTest (sOp roNeD (sCall (sCons sInt (sCons sVar (sCons sVar (sCons sVar (sCons sInt sNil)))))) (sTup (sCons sStr (sCons sInt (sCons sInt (sCons sInt sNil))))))) (sRet sBl) sNext)))
      (sRet (sCall (sCons (sFldO (NS := NS_Query) (i := 0) T.cls_Query T.na_Query_term rfl (by decide) sVar) (sCons sVar sNil))))))))⟩) (fun ds μ Φ Ψ h => ?hv)
  case hv =>
    obtain ⟨st, ns, c, ws, ps, t, k, rfl, hc, sc, ht, h⟩ := h
    have eo : ∀ t ws oc, qO T.c_Query t ws oc = D.obj T.c_Query NS_Query [qD t, .tup (ws.map .int), .int (oc : Int)] := fun _ _ _ => rfl
    have W := ht.w
    have dt := ht.dep
    refine seq_cut fun M hM => ?_
    walk_at "wp"
    refine ⟨st, ns, c, ws, rfl, hc, sc, W, fun r c2 hr hrf sc => ?_⟩
    have hrf2 := WsOk.hrf hr hrf
    rw [hM]; clear hM M
    refine seq_cut fun M hM => ?_
    walk_at "wp"
    refine ⟨by decide, fun p hp => ⟨ws, k, t, p, [], rfl, sset_same, ht.ok, W, ⟨List.nodup_nil, by simp⟩, by omega, p, _, rfl, sset_same, ?_⟩⟩
    rw [sset_sset, sset_sset]
    have hnm : NmOk (qNm t []) := NmOk.nm t [] ht.ok ⟨List.nodup_nil, by simp⟩
    have hnl := hnm.len
    generalize qNm t [] = nm at *
    have hps : p ≠ st := fun z => by subst z; rw [sset_same] at hp; cases hp
    have hp0 : μ p = none := by rw [sset_ne hps] at hp; exact hp
    rw [hM]; clear hM M
    refine seq_cut fun M hM => ?_
    walk_at "wp"
    rw [nI_len]
    refine ⟨by decide, by omega, st, ns, c2, 1 + (nm.length : Int), rfl, sset_get hps, sc, by omega, (by rw [show (1 : Int) + (nm.length : Int) = ((1 + nm.length : Nat) : Int) by omega]; exact log_small (by omega)), fun y c3 y0 y1 sc => ?_⟩
    rw [sset_under hps]
    obtain ⟨y, rfl⟩ : ∃ s : Nat, y = (s : Int) := ⟨y.toNat, by omega⟩
    obtain ⟨p1, e1, hp1⟩ : ∃ p1 : Nat, (nI nm ++ [D.int 0])[y]? = some (.int (p1 : Int)) ∧ p1 < 100 := by
      by_cases hy : y < nm.length
      · refine ⟨nm[y], ?_, hnm.lt _ (List.getElem_mem hy)⟩
        rw [List.getElem?_append_left (by rw [nI_len]; exact hy)]
        unfold nI
        rw [List.getElem?_map, List.getElem?_eq_getElem hy]; rfl
      · refine ⟨0, ?_, by decide⟩
        rw [List.getElem?_append_right (by rw [nI_len]; omega), nI_len, show y - nm.length = 0 by omega]; rfl
    walk_at "wp"
    refine ⟨_, atI_nat e1, st, ns, c3, 100, rfl, sset_get hps, sc, by decide, by decide, fun y2 c4 y2' y3 sc => ?_⟩
    rw [sset_under hps]
    obtain ⟨p2, rfl⟩ : ∃ s : Nat, y2 = (s : Int) := ⟨y2.toNat, by omega⟩
    refine ⟨by decide, fun i δ' μ' => ∃ (c5 : List D) (x1 x2 x3 x4 x5 x6 : Option D), StC ns c5 ∧ μ' = sset (sset μ st (.lst c5)) p (.frz (nI nm)) ∧ δ' = [some (.hd (.ref st)), some (qO T.c_Query t ws k), some (qD t), some (.tup (ws.map .int)), some (.int (k : Int)), some (sdR r), some (.lst (nI nm)), x1, x2, x3, x4, x5, x6], ⟨c4, none, none, none, none, none, none, sc, rfl, rfl⟩, ?_, ?_⟩
    · rintro i d δ' μ' hi ⟨c5, x1, x2, x3, x4, x5, x6, sc, rfl, rfl⟩
      obtain ⟨q, rfl, hq⟩ : ∃ q : Nat, d = .int (q : Int) ∧ q < 100 := by
        rcases i with _ | _ | _ | i
        · exact ⟨p1, (Option.some.inj hi).symm, hp1⟩
        · exact ⟨p2, (Option.some.inj hi).symm, by omega⟩
        · exact ⟨99, (Option.some.inj hi).symm, by decide⟩
        · cases hi
      have hwd := W.wd1 q
      refine seq_cut fun N hN => ?_
      walk_at "wp"
      refine ⟨ws, q, rfl, W, ?_⟩
      rw [hN]; clear hN N
      refine seq_cut fun N hN => ?_
      walk_at "wp"
      refine ⟨st, ns, c5, (wd ws q : Int), rfl, sset_get hps, sc, by omega, log_small (by omega), fun o c6 o0 o1 sc => ?_⟩
      rw [sset_under hps]
      obtain ⟨o, rfl⟩ : ∃ s : Nat, o = (s : Int) := ⟨o.toNat, by omega⟩
      have ho : o < wd ws q := by omega
      have hf := ht.fix ho
      rw [hN]; clear hN N
      refine seq_cut fun N hN => ?_
      walk_at "wp"
      refine ⟨ws, k, q, o, t, rfl, ht.ok, W, ho, by omega, ?_⟩
      rw [hN]; clear hN N
      refine seq_cut fun N hN => ?_
      walk_at "wp"
      refine ⟨5, _, _, _, _, _, rfl, fix_ask ht hq ho, ⟨hf.try_, ?_⟩⟩
      have pl := pln_due hf.w hf.ok
      rw [due_fit hf] at pl ⊢
      refine ⟨by decide, same_self pl ⟨true, rfl, nofun, fun _ => ?_⟩⟩
      rw [hN]; clear hN N pl
      refine seq_cut fun N hN => ?_
      walk_at "wp"
      refine ⟨ws, k, ps, t, q, o, rfl, ht, fun z => absurd ⟨by omega, by omega, by omega, by rw [Int.toNat_natCast]; omega⟩ z, fun q2 o2 e2 e3 _ _ => ?_⟩
      rw [show q2 = q by omega, show o2 = o by omega]
      rw [hN]; clear hN N
      refine seq_cut fun N hN => ?_
      rw [eo (qFx q o t)]
      unfold sdR
      walk_at "wp"
      refine fun x hx => mk_rw hr ⟨rfl, NSA, _, sset_same, ?_⟩
      rw [sdel_sset hx, ← eo, show D.obj T.c_Row NSA [.tup (r.h.map .int), .tup (r.c.map .int)] = rwO T.c_Row r from rfl, show D.lst [.tup (r.h.map .int), .tup (r.c.map .int)] = sdR r from rfl]
      refine ⟨ws, k, [], qFx q o t, r, rfl, ⟨W, hf.ok, hf.dep⟩, hr, hrf, ws, k, qFx q o t, r, rfl, hf.ok, W, by have := hf.dep; omega, hr, hrf, same_self Pln.int ⟨true, rfl, nofun, fun _ => ?_⟩⟩
      rw [hN]; clear hN N
      refine seq_cut fun N hN => ?_
      walk_at "wp"
      refine ⟨ws, k, ps, qFx q o t, q, (wd ws q : Int) - 1, rfl, hf, fun z => absurd ⟨by omega, by omega, by omega, by rw [Int.toNat_natCast]; omega⟩ z, fun q2 o2 e2 e3 _ _ => ?_⟩
      rw [show q2 = q by omega, qFx_same _ fun z => (qFx_pl ho t ht.ok q z).2 rfl]
      refine ⟨_, _, rfl, rfl, same_self ((pln_q W _ hf.ok).up (by have := hf.dep; omega)) ⟨true, rfl, nofun, fun _ => ?_⟩⟩
      rw [hN]; clear hN N
      refine seq_cut fun N hN => ?_
      walk_at "wp"
      refine ⟨by decide, st, ns, c6, 3, rfl, sset_get hps, sc, by decide, by decide, fun y c7 y5 y6 sc => ?_⟩
      rw [sset_under hps]
      obtain ⟨wv, ewv, hwv⟩ : ∃ z : Int, atI [D.int (wd ws q : Int), .int (-1), .int ((wd ws q : Int) + 1)] y = some (.int z) ∧ (z < 0 ∨ (wd ws q : Int) ≤ z) := by
        rcases (show y = 0 ∨ y = 1 ∨ y = 2 by omega) with rfl | rfl | rfl
        · exact ⟨_, rfl, by omega⟩
        · exact ⟨_, rfl, by omega⟩
        · exact ⟨_, rfl, by omega⟩
      walk_at "wp"
      refine ⟨_, ewv, ?_⟩
      rw [hN]; clear hN N
      walk_at "wp"
      refine ⟨5, _, _, _, _, _, rfl, fix_range ht (fun z => by rw [Int.toNat_natCast] at z; omega), ?_⟩
      simp only
      exact ⟨by decide, ne_ref ⟨false, rfl, nofun, fun _ => ⟨c7, _, _, _, _, _, _, sc, rfl, rfl⟩⟩⟩
    · rintro δ' μ' ⟨c5, x1, x2, x3, x4, x5, x6, sc, rfl, rfl⟩
      rw [hM]; clear hM M
      refine seq_cut fun M hM => ?_
      walk_at "wp"
      refine ⟨st, ns, c5, 3, rfl, sset_get hps, sc, by decide, by decide, fun y c6 y0 y1 sc => ?_⟩
      rw [sset_under hps]
      walk_at "wp"
      refine ⟨by decide, fun i δ' μ' => μ' = sset (sset μ st (.lst c6)) p (.frz (nI nm)) ∧ ∃ x : Option D, δ' = [some (.hd (.ref st)), some (qO T.c_Query t ws k), some (qD t), some (.tup (ws.map .int)), some (.int (k : Int)), some (sdR r), some (.lst (nI nm)), x, x2, x3, x4, x5, x6], ⟨rfl, _, rfl⟩, ?_, ?_⟩
      · rintro i d δ' μ' hi ⟨rfl, x, rfl⟩
        obtain ⟨q, rfl, hq⟩ : ∃ q : Int, d = .int q ∧ (q < 0 ∨ 100 ≤ q) := by
          rcases i with _ | _ | i
          · exact ⟨-1, (Option.some.inj hi).symm, by omega⟩
          · exact ⟨100 + y, (Option.some.inj hi).symm, by omega⟩
          · cases hi
        walk_at "wp"
        refine ⟨5, _, _, _, _, _, rfl, fix_range ht (fun z => by omega), ?_⟩
        simp only
        exact ⟨by decide, ne_ref ⟨false, rfl, nofun, fun _ => ⟨rfl, _, rfl⟩⟩⟩
      · rintro δ' μ' ⟨rfl, x, rfl⟩
        rw [hM]; clear hM M
        rw [eo]
        walk_at "wps"
        have := ht.dep
        exact same_self ((pln_q W t ht.ok).up (by omega)) ⟨_, Sub.set Sub.refl (by rw [sset_ne hps]; exact hp0), h c6 sc⟩
theorem tail_ask {C : Addr} {ws : List Int} {oc o : Nat} {ps : List Nat} {t : QT} {b y : D} (h : QFit ws oc ps t) (ho : o < wd ws 0) : Ask C 6 (qO C t ws oc) b y (.int (o : Int)) (.mk (rotW ws) oc (qLow (qFx 0 o t))) :=
  .tail h _ (fun z => absurd ⟨by omega, by omega⟩ z) fun o2 e1 _ => by rw [show o2 = o by omega]
theorem tail_range {C : Addr} {ws : List Int} {oc : Nat} {ps : List Nat} {t : QT} {b y : D} {x : Int} (h : QFit ws oc ps t) (hn : ¬ (0 ≤ x ∧ x < (wd ws 0 : Int))) : Ask C 6 (qO C t ws oc) b y (.int x) .range :=
  .tail h _ (fun _ => rfl) fun o e h2 => absurd ⟨by omega, by omega⟩ hn
theorem tail_ans {ws : List Int} {oc : Nat} {ps : List Nat} {t : QT} {r a : Rw} (h : QFit ws oc ps t) (hr : ∀ p, rF r p < wd ws p) (ha : ∀ p, ent a p = ent r (p + 1)) : qA (rF a) (qLow (qFx 0 (rF r 0) t)) = qA (rF r) t := by
  have ho := hr 0
  have hf := h.fix ho
  have h0 : 0 ∉ qPl (qFx 0 (rF r 0) t) := fun z => (qFx_pl ho t h.ok 0 z).2 rfl
  have e1 : rF a = fun p => rF r (p + 1) := funext fun p => by unfold rF; rw [ha]
  have e2 : (fun p => if p = 0 then rF r 0 else rF r p) = rF r := funext fun p => by
    split
    · rename_i z; rw [z]
    · rfl
  rw [e1, qLow_ans hr _ hf.ok h0, qFx_ans ho hr t h.ok, e2]
def c__law_tails (C Q L S O : Addr) : Con := fun ds μ Φ _ => ∃ (st : Addr) (ns : List Int) (c : List D) (ws : List Int) (ps : List Nat) (t : QT) (k : Nat), ds = [.hd (.ref st), qO C t ws k, qD t, .tup (ws.map .int), .int (k : Int)] ∧ μ st = some (.lst c) ∧ StC ns c ∧ QFit ws k ps t ∧ ∀ c', StC ns c' → Φ (.bl true) (sset μ st (.lst c'))
theorem len__law_tails {C Q L S O ds μ Φ Ψ} (h : c__law_tails C Q L S O ds μ Φ Ψ) : ds.length = 5 := by obtain ⟨_, _, _, _, _, _, _, rfl, _⟩ := h; rfl
theorem ok__law_tails (T : Txt P w K mg) : FnOk P w K mg base (L2N.CX P w) 60 T.f__law_tails T.d__law_tails ["_law_state", "_law_query", "_law_term", "_law_widths_here", "_law_k"] (spOf K (c__law_tails T.c_Query T.c_InvalidQuery T.c_TooLarge T.c_SizeMismatch T.c_OutOfRange)) := by
  refine def_okC T.F__law_tails sc__law_tails _ (fun ds μ Φ Ψ h => len__law_tails h) (fun cdv A outer s H E B hW hr =>
    have tk : L2N.Takes (cxOf (L2N.CX P w) P w K mg base N__law_tails "_law_tails" (defScope s__law_tails) T.f__law_tails cdv A outer s H E) (fun cls d _ H => E cls d H) := L2N.takes_of rfl rfl rfl rfl
    ⟨_, (pss_cons (ps_set (i := 5) sc__law_tails.nd rfl (Or.inl rfl) (pe_call (ok__law_endless T) (hr.mono (by decide)) rfl T.g__law_endless T.F__law_endless.kp T.b__law_endless .nil passN (pa_cons (pv 0) (pa_cons (pv 3) pa_nil))))
      (pss_cons (ps_set (i := 6) sc__law_tails.nd rfl (Or.inl rfl) (pe_makeS T.mk_Row (ok_Row___init__ T) (hr.mono (by decide)) rfl T.g_Row T.b_Row___init__ (fun σ => L2N.passAt tk σ) (pa_cons (pe_ix ix_list (pv 5) pe_int (fun _ _ => rfl)) (pa_cons (pe_ix ix_list (pv 5) pe_int (fun _ _ => rfl)) pa_nil))))
      (pss_cons (ps_set (i := 7) sc__law_tails.nd rfl (Or.inl rfl) (pe_call (ok__law_walk T) (hr.mono (by decide)) rfl T.g__law_walk T.F__law_walk.kp T.b__law_walk .nil passN (pa_cons (pv 2) (pa_cons (pv 5) pa_nil))))
      (pss_cons (ps_set (i := 8) sc__law_tails.nd rfl (Or.inl rfl) (pv 1))
      (pss_cons (ps_for (passes_of rfl) rfl (pi_range1 rfl T.z_range (pa_cons pe_int pa_nil)) (pg_name (i := 9) sc__law_tails.nd rfl (Or.inl rfl)) (pss_cons (ps_set (i := 10) sc__law_tails.nd rfl (Or.inl rfl) (pe_ix ix_tup (pv 3) pe_int (fun _ _ => rfl)))
      (pss_cons (ps_set (i := 11) sc__law_tails.nd rfl (Or.inl rfl) (pe_call (ok__law_pick T) (hr.mono (by decide)) rfl T.g__law_pick T.F__law_pick.kp T.b__law_pick .nil passN (pa_cons (pv 0) (pa_cons (pv 10) pa_nil))))
      (pss_cons (ps_set (i := 12) sc__law_tails.nd rfl (Or.inl rfl) (pe_call (ok__law_lowered T) (hr.mono (by decide)) rfl T.g__law_lowered T.F__law_lowered.kp T.b__law_lowered .nil passN (pa_cons (pe_call (ok__law_without T) (hr.mono (by decide)) rfl T.g__law_without T.F__law_without.kp T.b__law_without .nil passN (pa_cons (pv 2) (pa_cons pe_int (pa_cons (pv 11) pa_nil)))) pa_nil)))
      (pss_cons (ps_set (i := 13) sc__law_tails.nd rfl (Or.inl rfl) (pe_op op_catN (pe_slice sl_tupN (pv 3) (po_some pe_int) po_none) (pe_slice sl_tupN (pv 3) po_none (po_some pe_int))))
      (pss_cons (ps_if (pt_not (pt_val (pe_call (ok__law_same T) (hr.mono (by decide)) rfl T.g__law_same T.F__law_same.kp T.b__law_same .nil passN (pa_cons (pe_call (ok__law_made T) (hr.mono (by decide)) rfl T.g__law_made T.F__law_made.kp T.b__law_made .nil passN (pa_cons pe_int (pa_cons (pv 8) (pa_cons (pv 8) (pa_cons pe_int (pa_cons (pv 11) pa_nil)))))) (pa_cons (pe_tupN (pa_cons pe_str (pa_cons (pv 12) (pa_cons (pv 13) (pa_cons (pv 4) pa_nil))))) pa_nil))))) (pss_one (ps_ret pe_bl)) pss_nil)
      (pss_cons (ps_for (passes_of rfl) rfl (pi_list (pe_lst (pa_cons (pe_un un_neg pe_int) (pa_cons (pv 10) pa_nil)))) (pg_name (i := 14) sc__law_tails.nd rfl (Or.inl rfl)) (pss_one (ps_if (pt_cmpR (op_neD hr.units) (pe_call (ok__law_made T) (hr.mono (by decide)) rfl T.g__law_made T.F__law_made.kp T.b__law_made .nil passN (pa_cons pe_int (pa_cons (pv 8) (pa_cons (pv 8) (pa_cons pe_int (pa_cons (pv 14) pa_nil)))))) (pe_tupN (pa_cons pe_str (pa_cons pe_int (pa_cons pe_int (pa_cons pe_int pa_nil))))) (nomark _)) (pss_one (ps_ret pe_bl)) pss_nil)))
      (pss_cons (ps_set (i := 15) sc__law_tails.nd rfl (Or.inl rfl) (pe_call (ok__law_endless_entry T) (hr.mono (by decide)) rfl T.g__law_endless_entry T.F__law_endless_entry.kp T.b__law_endless_entry .nil passN (pa_cons (pv 5) (pa_cons (pv 9) pa_nil))))
      (pss_cons (ps_set (i := 8) sc__law_tails.nd rfl (Or.inl rfl) (pe_callS (ok_query_tail T) (hr.mono (by decide)) rfl T.g_query_tail T.F_query_tail.kp T.b_query_tail (fun σ => L2N.passAt tk σ) (pa_cons (pv 8) (pa_cons (pv 15) pa_nil))))
      (pss_cons (ps_set (i := 6) sc__law_tails.nd rfl (Or.inl rfl) (pe_methX (pl := _) (pv 6) T.cls_Row T.me_Row_after (ok_Row_after T) (hr.mono (by decide)) T.b_Row_after (fun σ => L2N.passAt tk σ) (pa_cons pe_int pa_nil)))
      (pss_cons (ps_set (i := 2) sc__law_tails.nd rfl (Or.inl rfl) (pe_call (ok__law_lowered T) (hr.mono (by decide)) rfl T.g__law_lowered T.F__law_lowered.kp T.b__law_lowered .nil passN (pa_cons (pe_call (ok__law_without T) (hr.mono (by decide)) rfl T.g__law_without T.F__law_without.kp T.b__law_without .nil passN (pa_cons (pv 2) (pa_cons pe_int (pa_cons (pv 15) pa_nil)))) pa_nil)))
      (pss_cons (ps_set (i := 3) sc__law_tails.nd rfl (Or.inl rfl) (pv 13))
      (pss_one (ps_if (PW.pt (pw_or (pt_not (pt_val (pe_call (ok__law_same T) (hr.mono (by decide)) rfl T.g__law_same T.F__law_same.kp T.b__law_same .nil passN (pa_cons (pe_callX (i := 8) T.me_Query___call__ T.fn_Query___call__ (ok_Query___call__ T) (hr.mono (by decide)) T.b_Query___call__ (fun σ => L2N.passAt tk σ) rfl (Or.inl rfl) (by exact (pa_cons (pv 6) pa_nil))) (pa_cons (pv 7) pa_nil))))) (pw_or1 (pt_not (pt_val (pe_call (ok__law_same T) (hr.mono (by decide)) rfl T.g__law_same T.F__law_same.kp T.b__law_same .nil passN (pa_cons (pe_fld (pv 8) rfl) (pa_cons (pv 2) pa_nil)))))))) (pss_one (ps_ret pe_bl)) pss_nil))))))))))))))
      (pss_one (ps_ret pe_bl))))))),
      (sSeq (sAsg (sCall (sCons sVar (sCons sVar sNil))) sName)
      (sSeq (sAsg (sMakeSW (W := fun cls d _ H => E cls d H) (by exact hW) (sCons (sOp roIxL sVar sInt) (sCons (sOp roIxL sVar sInt) sNil))) sName)
      (sSeq (sAsg (sCall (sCons sVar (sCons sVar sNil))) sName)
      (sSeq (sAsg sVar sName)
      (sSeq (sFor (siR1 sInt) (fun _ _ _ => sName) (fun _ _ _ => (sSeq (sAsg (sOp roIxT sVar sInt) sName)
      (sSeq (sAsg (sCall (sCons sVar (sCons sVar sNil))) sName)
      (sSeq (sAsg (sCall (sCons (sCall (sCons sVar (sCons sInt (sCons sVar sNil)))) sNil)) sName)
      (sSeq (sAsg (sOp roCatT (sSlT sVar (sPart sInt) sNoPart) (sSlT sVar sNoPart (sPart sInt))) sName)
      (sSeq (sIfS (sNot (sB (sCall (sCons (sCall (sCons sInt (sCons sVar (sCons sVar (sCons sInt (sCons sVar sNil)))))) (sCons (sTup (sCons sStr (sCons sVar (sCons sVar (sCons sVar sNil))))) sNil))))) (sRet sBl) sNext)
      (sSeq (sFor (siL (sLst (sCons (sUn ruInt sInt) (sCons sVar sNil)))) (fun _ _ _ => sName) (fun _ _ _ => (sIfS (sTest (sOp roNeD (sCall (sCons sInt (sCons sVar (sCons sVar (sCons sInt (sCons sVar sNil)))))) (sTup (sCons sStr (sCons sInt (sCons sInt (sCons sInt sNil))))))) (sRet sBl) sNext)))
      (sSeq (sAsg (sCall (sCons sVar (sCons sVar sNil))) sName)
      (sSeq (sAsg (sCallSW (W := fun cls d _ H => E cls d H) (by exact hW) (sCons sVar (sCons sVar sNil))) sName)
      (sSeq (sAsg (sMethXW (NS := NS_Row) (W := fun cls d _ H => E cls d H) (by decide) (by exact hW) sVar (sCons sInt sNil)) sName)
      (sSeq (sAsg (sCall (sCons (sCall (sCons sVar (sCons sInt (sCons sVar sNil)))) sNil)) sName)
      (sSeq (sAsg sVar sName)
      (sIfS (sOr (sNot (sB (sCall (sCons (sCallX (NS := NS_Query) (W := fun cls d _ H => E cls d H) (by exact hW) (sCons sVar sNil)) (sCons sVar sNil))))) (sNot (sB (sCall (sCons (sFldO (NS := NS_Query) (i := 0) T.cls_Query T.na_Query_term rfl (by decide) sVar) (sCons sVar sNil)))))) (sRet sBl) sNext))))))))))))))
      (sRet sBl))))))⟩) (fun ds μ Φ Ψ h => ?hv)
  case hv =>
    obtain ⟨st, ns, c, ws, ps, t, k, rfl, hc, sc, ht, h⟩ := h
    have eo : ∀ t ws oc, qO T.c_Query t ws oc = D.obj T.c_Query NS_Query [qD t, .tup (ws.map .int), .int (oc : Int)] := fun _ _ _ => rfl
    have W := ht.w
    have dt := ht.dep
    refine seq_cut fun M hM => ?_
    walk_at "wp"
    refine ⟨st, ns, c, ws, rfl, hc, sc, W, fun r c2 hr hrf sc => ?_⟩
    have hrf2 := WsOk.hrf hr hrf
    rw [hM]; clear hM M
    refine seq_cut fun M hM => ?_
    unfold sdR
    walk_at "wp"
    refine fun x hx => mk_rw hr ⟨rfl, NSA, _, sset_same, ?_⟩
    rw [sdel_sset hx, show D.obj T.c_Row NSA [.tup (r.h.map .int), .tup (r.c.map .int)] = rwO T.c_Row r from rfl, show D.lst [.tup (r.h.map .int), .tup (r.c.map .int)] = sdR r from rfl]
    clear hx x
    rw [hM]; clear hM M
    refine seq_cut fun M hM => ?_
    walk_at "wp"
    refine ⟨ws, k, t, r, rfl, ht.ok, W, by omega, hr, hrf, ?_⟩
    rw [hM]; clear hM M
    refine seq_cut fun M hM => ?_
    walk_at "wp"
    rw [hM]; clear hM M
    refine seq_cut fun M hM => ?_
    walk_at "wp"
    refine ⟨by decide, by decide, fun i δ' μ' => ∃ (c5 : List D) (ws' : List Int) (ps' : List Nat) (t' : QT) (r' : Rw) (x1 x2 x3 x4 x5 x6 x7 : Option D), StC ns c5 ∧ QFit ws' k ps' t' ∧ RwOk r' ∧ (∀ p, ent r' p = ent r (p + i)) ∧ (∀ p, wd ws' p = wd ws (p + i)) ∧ qA (rF r') t' = qA (rF r) t ∧ μ' = sset μ st (.lst c5) ∧ δ' = [some (.hd (.ref st)), some (qO T.c_Query t ws k), some (qD t'), some (.tup (ws'.map .int)), some (.int (k : Int)), some (sdR r), some (rwO T.c_Row r'), some (.int (qA (rF r) t : Int)), some (qO T.c_Query t' ws' k), x1, x2, x3, x4, x5, x6, x7], ⟨c2, ws, ps, t, r, none, none, none, none, none, none, none, sc, ht, hr, fun _ => rfl, fun _ => rfl, rfl, rfl, rfl⟩, ?_, ?_⟩
    · rintro i d δ' μ' hi ⟨c5, ws', ps', t', r', x1, x2, x3, x4, x5, x6, x7, sc, ht', hr', he, hw', hq, rfl, rfl⟩
      obtain ⟨hj, rfl⟩ := rngD_get hi
      have W' := ht'.w
      have hwd := W'.wd1 0
      have dt' := ht'.dep
      refine seq_cut fun N hN => ?_
      walk_at "wp"
      have e0 : (ws'.map D.int)[0]? = some (.int (wd ws' 0 : Int)) := by
        obtain ⟨x, e1, e2, _⟩ := W'.at_ 0
        rw [Nat.zero_mod] at e1
        rw [List.getElem?_map, e1, e2]; rfl
      refine ⟨_, atI_nat (j := 0) e0, ?_⟩
      rw [hN]; clear hN N
      refine seq_cut fun N hN => ?_
      walk_at "wp"
      refine ⟨st, ns, c5, (wd ws' 0 : Int), rfl, sset_same, sc, by omega, log_small (by omega), fun o c6 o0 o1 sc => ?_⟩
      rw [sset_sset]
      obtain ⟨o, rfl⟩ : ∃ s : Nat, o = (s : Int) := ⟨o.toNat, by omega⟩
      have ho : o < wd ws' 0 := by omega
      have hf := ht'.fix ho
      have h0 : 0 ∉ qPl (qFx 0 o t') := fun z => (qFx_pl ho t' ht'.ok 0 z).2 rfl
      have hl := hf.low h0
      rw [hN]; clear hN N
      refine seq_cut fun N hN => ?_
      walk_at "wp"
      refine ⟨ws', k, 0, o, t', rfl, ht'.ok, W', ho, by omega, ws', k, qFx 0 o t', rfl, hf.ok, W', h0, by have := hf.dep; omega, ?_⟩
      rw [hN]; clear hN N
      refine seq_cut fun N hN => ?_
      walk_at "wp"
      rw [cut_rot]
      refine ⟨by rw [← List.length_append, cut_rot, List.length_map, rotW_len]; have := W'.l1; omega, ?_⟩
      rw [hN]; clear hN N
      refine seq_cut fun N hN => ?_
      walk_at "wp"
      refine ⟨6, _, _, _, _, _, rfl, tail_ask ht' ho, ⟨hl.try_, ?_⟩⟩
      have pl := pln_due hl.w hl.ok
      rw [due_fit hl] at pl ⊢
      refine ⟨by decide, same_self pl ⟨true, rfl, nofun, fun _ => ?_⟩⟩
      rw [hN]; clear hN N pl
      refine seq_cut fun N hN => ?_
      walk_at "wp"
      refine ⟨by decide, fun j δ' μ' => μ' = sset μ st (.lst c6) ∧ ∃ x : Option D, δ' = [some (.hd (.ref st)), some (qO T.c_Query t ws k), some (qD t'), some (.tup (ws'.map .int)), some (.int (k : Int)), some (sdR r), some (rwO T.c_Row r'), some (.int (qA (rF r) t : Int)), some (qO T.c_Query t' ws' k), some (.int (i : Int)), some (.int (wd ws' 0 : Int)), some (.int (o : Int)), some (qD (qLow (qFx 0 o t'))), some (.tup ((rotW ws').map .int)), x, x7], ⟨rfl, _, rfl⟩, ?_, ?_⟩
      · rintro j d δ' μ' hi ⟨rfl, x, rfl⟩
        obtain ⟨q, rfl, hq⟩ : ∃ q : Int, d = .int q ∧ ¬ (0 ≤ q ∧ q < (wd ws' 0 : Int)) := by
          rcases j with _ | _ | j
          · exact ⟨-1, (Option.some.inj hi).symm, by omega⟩
          · exact ⟨(wd ws' 0 : Int), (Option.some.inj hi).symm, by omega⟩
          · cases hi
        walk_at "wp"
        refine ⟨6, _, _, _, _, _, rfl, tail_range ht' hq, ?_⟩
        simp only
        exact ⟨by decide, ne_ref ⟨false, rfl, nofun, fun _ => ⟨rfl, _, rfl⟩⟩⟩
      · rintro δ' μ' ⟨rfl, x, rfl⟩
        clear hl h0 hf
        rw [hN]; clear hN N
        refine seq_cut fun N hN => ?_
        walk_at "wp"
        refine ⟨r, i, rfl, hr, ?_⟩
        have hrf' : RFit ws' r' := fun p => by rw [he, hw']; exact hrf _
        have hrf3 := WsOk.hrf hr' hrf'
        have hent : ent r i = ((rF r' 0 : Nat) : Int) := by
          have h1 := he 0
          rw [Nat.zero_add] at h1
          have h2 := ent_nn hr' 0
          unfold rF
          omega
        have ho := hrf3 0
        have hans := fun a => tail_ans (a := a) ht' hrf3
        have hf := ht'.fix ho
        have h0 : 0 ∉ qPl (qFx 0 (rF r' 0) t') := fun z => (qFx_pl ho t' ht'.ok 0 z).2 rfl
        have hl := hf.low h0
        rw [hent]
        rw [hN]; clear hN N
        refine seq_cut fun N hN => ?_
        walk_at "wp"
        refine ⟨ws', k, ps', t', _, rfl, ht', fun z => absurd ⟨by omega, by omega⟩ z, fun o2 e1 _ => ?_⟩
        rw [show o2 = rF r' 0 by omega]
        rw [hN]; clear hN N
        refine seq_cut fun N hN => ?_
        walk_at "wp"
        refine ⟨_, rfl, r', 1, rfl, hr', fun z => absurd z (by decide), fun n a e1 hla => ?_⟩
        have hn1 : n = 1 := by omega
        subst hn1
        have hra := (hr'.aft 1).1.least hla
        have ha : ∀ p, ent a p = ent r' (p + 1) := fun p => by rw [hla.ent_eq, ent_aft hr'.c0, Nat.add_comm]
        have hans := hans a ha
        clear e1
        rw [hN]; clear hN N
        refine seq_cut fun N hN => ?_
        walk_at "wp"
        refine ⟨ws', k, 0, rF r' 0, t', rfl, ht'.ok, W', ho, by omega, ws', k, _, rfl, hf.ok, W', h0, by have := hf.dep; omega, ?_⟩
        rw [hN]; clear hN N
        refine seq_cut fun N hN => ?_
        walk_at "wp"
        rw [hN]; clear hN N
        have hdl := hl.dep
        have hrf4 : RFit (rotW ws') a := fun p => by rw [ha, wd_rot W']; exact hrf' _
        rw [eo (qLow (qFx 0 (rF r' 0) t'))]
        walk_at "wp"
        refine ⟨rotW ws', k, [], _, a, rfl, ⟨hl.w, hl.ok, hdl⟩, hra.1, hrf4, ?_⟩
        rw [hans, hq]
        refine same_self Pln.int ⟨true, rfl, nofun, fun _ => ?_⟩
        refine same_self ((pln_q hl.w _ hl.ok).up (by omega)) ⟨true, rfl, nofun, fun _ => ?_⟩
        exact ⟨c6, rotW ws', _, _, a, _, _, _, _, _, _, _, sc, hl, hra.1, fun p => by rw [ha, he]; congr 1; omega, fun p => by rw [wd_rot W', hw']; congr 1; omega, by rw [hans, hq], rfl, rfl⟩
    · rintro δ' μ' ⟨c5, ws', ps', t', r', x1, x2, x3, x4, x5, x6, x7, sc, ht', hr', he, hw', hq, rfl, rfl⟩
      rw [hM]; clear hM M
      walk_at "wps"
      exact ret_same (h c5 sc)
end
section
variable {P : Program} {w : World} {K : Fg} {mg : Str → Option Value} {base : Heap}
/-- places of which the law draws -/
structure Pls (ws : List Int) (ps : List Nat) : Prop where
  nd : ps.Nodup
  lt : ∀ p ∈ ps, p < 100
  n0 : ps ≠ []
  l8 : ps.length ≤ 8
  few : wpr ws ps ≤ 256
theorem Pls.sm {ws : List Int} {oc : Nat} {ps : List Nat} {t : QT} (h : Pls ws ps) (W : WsOk ws) (o1 : 1 ≤ oc) (o4 : oc ≤ 4) (h1 : QOk ws oc t) (h2 : qDep t ≤ 13) (h3 : ∀ q ∈ qPl t, q ∈ ps) (h4 : (qPl t).length ≤ 21) : ∃ ss, Sm ws oc ss t := by
  obtain ⟨ss, a, b⟩ := sorted_of' h.nd h.lt
  exact ⟨ss, sm_of W o1 o4 a b h.l8 h.few h1 h2 h3 h4⟩
theorem Pls.of {ws : List Int} {ps : List Nat} {n m : Nat} (p1 : ps.Nodup) (p2 : ∀ p ∈ ps, p < 100) (p3 : ps.length ≤ n) (p4 : ∀ i, i ≤ ps.length → wpl ws (ps.take i) ≤ m) (p5 : 1 ≤ n → ps ≠ []) (n1 : 1 ≤ n) (n8 : n ≤ 8) (hm : m ≤ 256) : Pls ws ps :=
  ⟨p1, p2, p5 n1, by omega, by have := p4 ps.length (Nat.le_refl _); rw [List.take_length, wpl_wpr] at this; omega⟩
def c_law : Con := fun ds μ Φ _ => ∃ ns : List Int, ds = [.scr ns] ∧ ns.length ≤ 63 ∧ Φ (.bl true) μ
theorem len_law {ds μ Φ Ψ} (h : c_law ds μ Φ Ψ) : ds.length = 1 := by obtain ⟨_, rfl, _⟩ := h; rfl
theorem ok_law (T : Txt P w K mg) : FnOk P w K mg base (L2N.CX P w) 70 T.f_law T.d_law ["_law_script"] (spOf K c_law) := by
  refine def_okC T.F_law sc_law _ (fun ds μ Φ Ψ h => len_law h) (fun cdv A outer s H E B hW hr =>
    have tk : L2N.Takes (cxOf (L2N.CX P w) P w K mg base N_law "law" (defScope s_law) T.f_law cdv A outer s H E) (fun cls d _ H => E cls d H) := L2N.takes_of rfl rfl rfl rfl
    ⟨_, (pss_cons (ps_set (i := 1) sc_law.nd rfl (Or.inr rfl) (pe_call (ok__law_start T) (hr.mono (by decide)) rfl T.g__law_start T.F__law_start.kp T.b__law_start .nil passN (pa_cons (pv 0) pa_nil)))
      (pss_cons (ps_set (i := 2) sc_law.nd rfl (Or.inl rfl) (pe_call (ok__law_widths T) (hr.mono (by decide)) rfl T.g__law_widths T.F__law_widths.kp T.b__law_widths .nil passN (pa_cons (pv 1) pa_nil)))
      (pss_cons (ps_set (i := 3) sc_law.nd rfl (Or.inl rfl) (pe_call (ok__law_look_places T) (hr.mono (by decide)) rfl T.g__law_look_places T.F__law_look_places.kp T.b__law_look_places .nil passN (pa_cons (pv 1) (pa_cons (pv 2) (pa_cons (pe_op op_add pe_int (pe_call (ok__law_pick T) (hr.mono (by decide)) rfl T.g__law_pick T.F__law_pick.kp T.b__law_pick .nil passN (pa_cons (pv 1) (pa_cons pe_int pa_nil)))) (pa_cons pe_int pa_nil))))))
      (pss_cons (ps_if (PW.pt (pw_and (pt_cmpR op_eq (pe_call (ok__law_pick T) (hr.mono (by decide)) rfl T.g__law_pick T.F__law_pick.kp T.b__law_pick .nil passN (pa_cons (pv 1) (pa_cons pe_int pa_nil))) pe_int (nomark _)) (pw_and1 (pt_cmpR op_notIn_seq pe_int (pv 3) (by with_unfolding_all rfl))))) (pss_one (ps_set (i := 3) sc_law.nd rfl (Or.inl rfl) (pe_op op_cat (pe_lst (pa_cons pe_int pa_nil)) (pv 3)))) pss_nil)
      (pss_cons (ps_set (i := 4) sc_law.nd rfl (Or.inr rfl) (pe_lst (pa_cons (pv 2) (pa_cons pe_int pa_nil))))
      (pss_cons (ps_set (i := 5) sc_law.nd rfl (Or.inl rfl) (pe_lst (pa_cons (pe_call (ok__law_small_term T) (hr.mono (by decide)) rfl T.g__law_small_term T.F__law_small_term.kp T.b__law_small_term .nil passN (pa_cons (pv 1) (pa_cons (pv 4) (pa_cons (pv 3) pa_nil)))) (pa_cons (pe_call (ok__law_small_term T) (hr.mono (by decide)) rfl T.g__law_small_term T.F__law_small_term.kp T.b__law_small_term .nil passN (pa_cons (pv 1) (pa_cons (pv 4) (pa_cons (pv 3) pa_nil)))) pa_nil))))
      (pss_cons (ps_if (pt_cmpR op_eq (pe_call (ok__law_pick T) (hr.mono (by decide)) rfl T.g__law_pick T.F__law_pick.kp T.b__law_pick .nil passN (pa_cons (pv 1) (pa_cons pe_int pa_nil))) pe_int (nomark _)) (pss_cons (ps_set (i := 9) sc_law.nd rfl (Or.inl rfl) (pe_call (ok__law_look_places T) (hr.mono (by decide)) rfl T.g__law_look_places T.F__law_look_places.kp T.b__law_look_places .nil passN (pa_cons (pv 1) (pa_cons (pv 2) (pa_cons (pe_op op_add pe_int (pe_call (ok__law_pick T) (hr.mono (by decide)) rfl T.g__law_pick T.F__law_pick.kp T.b__law_pick .nil passN (pa_cons (pv 1) (pa_cons pe_int pa_nil)))) (pa_cons pe_int pa_nil))))))
      (pss_cons (ps_set (i := 10) sc_law.nd rfl (Or.inr rfl) (pe_lst (pa_cons (pv 3) (pa_cons (pv 9) (pa_cons (pe_call (ok__law_look_places T) (hr.mono (by decide)) rfl T.g__law_look_places T.F__law_look_places.kp T.b__law_look_places .nil passN (pa_cons (pv 1) (pa_cons (pv 2) (pa_cons pe_int (pa_cons pe_int pa_nil))))) pa_nil)))))
      (pss_one (ps_setLc (i := 5) (own := [("_law_turn", 11)]) rfl sc_law.nd rfl rfl (sw_true rfl rfl rfl (by decide +kernel)) (pi_range1 rfl T.z_range (pa_cons pe_int pa_nil)) (blkOk_by (N := N_law) (sc := defScope s_law) (by decide +kernel)) (fun _ _ _ _ _ => (pg_name (i := 11) sc_law.nd rfl (Or.inl rfl))) (fun _ _ _ _ _ => pts_nil) (fun _ _ _ _ _ => (pe_call (ok__law_chain T) (hr.mono (by decide)) rfl T.g__law_chain T.F__law_chain.kp T.b__law_chain .nil passN (pa_cons (pv 1) (pa_cons (pv 4) (pa_cons (pe_ix ix_list (pv 10) (pe_call (ok__law_pick T) (hr.mono (by decide)) rfl T.g__law_pick T.F__law_pick.kp T.b__law_pick .nil passN (pa_cons (pv 1) (pa_cons pe_int pa_nil))) (fun _ _ => rfl)) (pa_cons (pe_op op_add pe_int (pe_call (ok__law_pick T) (hr.mono (by decide)) rfl T.g__law_pick T.F__law_pick.kp T.b__law_pick .nil passN (pa_cons (pv 1) (pa_cons pe_int pa_nil)))) pa_nil)))))))))) pss_nil)
      (pss_cons (ps_set (i := 6) sc_law.nd rfl (Or.inl rfl) (pe_op op_add pe_int (pe_call (ok__law_pick T) (hr.mono (by decide)) rfl T.g__law_pick T.F__law_pick.kp T.b__law_pick .nil passN (pa_cons (pv 1) (pa_cons pe_int pa_nil)))))
      (pss_cons (ps_if (pt_not (pt_val (pe_call (ok__law_combines T) (hr.mono (by decide)) rfl T.g__law_combines T.F__law_combines.kp T.b__law_combines .nil passN (pa_cons (pv 1) (pa_cons (pv 2) (pa_cons (pv 5) (pa_cons (pe_call (ok__law_table T) (hr.mono (by decide)) rfl T.g__law_table T.F__law_table.kp T.b__law_table .nil passN (pa_cons (pv 1) (pa_cons pe_int (pa_cons pe_int (pa_cons (pv 6) pa_nil))))) (pa_cons (pv 6) pa_nil)))))))) (pss_one (ps_ret pe_bl)) pss_nil)
      (pss_cons (ps_if (pt_not (pt_val (pe_call (ok__law_joins T) (hr.mono (by decide)) rfl T.g__law_joins T.F__law_joins.kp T.b__law_joins .nil passN (pa_cons (pv 1) (pa_cons (pv 2) (pa_cons (pv 3) (pa_cons (pe_ix ix_list (pe_lst (pa_cons pe_int (pa_cons pe_int pa_nil))) (pe_call (ok__law_pick T) (hr.mono (by decide)) rfl T.g__law_pick T.F__law_pick.kp T.b__law_pick .nil passN (pa_cons (pv 1) (pa_cons pe_int pa_nil))) (fun _ _ => rfl)) pa_nil))))))) (pss_one (ps_ret pe_bl)) pss_nil)
      (pss_cons (ps_set (i := 7) sc_law.nd rfl (Or.inl rfl) (pe_call (ok__law_small_term T) (hr.mono (by decide)) rfl T.g__law_small_term T.F__law_small_term.kp T.b__law_small_term .nil passN (pa_cons (pv 1) (pa_cons (pe_lst (pa_cons (pv 2) (pa_cons (pv 6) pa_nil))) (pa_cons (pv 3) pa_nil)))))
      (pss_cons (ps_set (i := 8) sc_law.nd rfl (Or.inl rfl) (pe_makeS T.mk_Query (ok_Query___init__ T) (hr.mono (by decide)) rfl T.g_Query T.b_Query___init__ (fun σ => L2N.passAt tk σ) (pa_cons (pv 7) (pa_cons (pv 2) (pa_cons (pv 6) pa_nil)))))
      (pss_cons (ps_if (PW.pt (pw_or (pt_not (pt_val (pe_call (ok__law_fixes T) (hr.mono (by decide)) rfl T.g__law_fixes T.F__law_fixes.kp T.b__law_fixes .nil passN (pa_cons (pv 1) (pa_cons (pv 8) (pa_cons (pv 7) (pa_cons (pv 2) (pa_cons (pv 6) pa_nil)))))))) (pw_or1 (pt_not (pt_val (pe_call (ok__law_tails T) (hr.mono (by decide)) rfl T.g__law_tails T.F__law_tails.kp T.b__law_tails .nil passN (pa_cons (pv 1) (pa_cons (pv 8) (pa_cons (pv 7) (pa_cons (pv 2) (pa_cons (pv 6) pa_nil))))))))))) (pss_one (ps_ret pe_bl)) pss_nil)
      (pss_cons (ps_if (pt_not (pt_val (pe_call (ok__law_same T) (hr.mono (by decide)) rfl T.g__law_same T.F__law_same.kp T.b__law_same .nil passN (pa_cons (pe_tupN (pa_cons (ClX.pe_cval (pe_glob (v := .ref T.c_Query) rfl T.g_Query rfl)) (pa_cons (ClX.pe_cval (pe_glob (v := .ref T.c_Query) rfl T.g_Query rfl)) (pa_cons (ClX.pe_cval (pe_glob (v := .ref T.c_Query) rfl T.g_Query rfl)) pa_nil)))) (pa_cons (pe_tupN (pa_cons pe_int (pa_cons pe_int (pa_cons pe_int pa_nil)))) pa_nil))))) (pss_one (ps_ret pe_bl)) pss_nil)
      (pss_one (ps_ret (pe_call (ok__law_same T) (hr.mono (by decide)) rfl T.g__law_same T.F__law_same.kp T.b__law_same .nil passN (pa_cons (pe_tupN (pa_cons (pe_fld (pv 8) rfl) (pa_cons (pe_fld (pv 8) rfl) (pa_cons (pe_fld (pv 8) rfl) pa_nil)))) (pa_cons (pe_tupN (pa_cons (pv 7) (pa_cons (pv 2) (pa_cons (pv 6) pa_nil)))) pa_nil))))))))))))))))))),
      (sSeq (sAsg (sCall (sCons sVar sNil)) sName)
      (sSeq (sAsg (sCall (sCons sVar sNil)) sName)
      (sSeq (sAsg (sCall (sCons sVar (sCons sVar (sCons (sOp roInt0 sInt (sCall (sCons sVar (sCons sInt sNil)))) (sCons sInt sNil))))) sName)
      (sSeq (sIfS (sAnd (sTest (sOp roEq (sCall (sCons sVar (sCons sInt sNil))) sInt)) (sTest (sOp (roIn (neg := true)) sInt sVar))) (sAsg (sOp roCatL (sLst (sCons sInt sNil)) sVar) sName) sNext)
      (sSeq (sAsg (sLst (sCons sVar (sCons sInt sNil))) sName)
      (sSeq (sAsg (sLst (sCons (sCall (sCons sVar (sCons sVar (sCons sVar sNil)))) (sCons (sCall (sCons sVar (sCons sVar (sCons sVar sNil)))) sNil))) sName)
      (sSeq (sIfS (sTest (sOp roEq (sCall (sCons sVar (sCons sInt sNil))) sInt)) (sSeq (sAsg (sCall (sCons sVar (sCons sVar (sCons (sOp roInt0 sInt (sCall (sCons sVar (sCons sInt sNil)))) (sCons sInt sNil))))) sName)
      (sSeq (sAsg (sLst (sCons sVar (sCons sVar (sCons (sCall (sCons sVar (sCons sVar (sCons sInt (sCons sInt sNil))))) sNil)))) sName)
      (sAsg (sLc (siR1 sInt) (gwName List.mem_cons_self) (fun _ _ _ => sName) (fun _ _ _ => sYes) (fun _ _ _ => (sCall (sCons sVar (sCons sVar (sCons (sOp roIxL sVar (sCall (sCons sVar (sCons sInt sNil)))) (sCons (sOp roInt0 sInt (sCall (sCons sVar (sCons sInt sNil)))) sNil))))))) sName))) sNext)
      (sSeq (sAsg (sOp roInt0 sInt (sCall (sCons sVar (sCons sInt sNil)))) sName)
      (sSeq (sIfS (sNot (sB (sCall (sCons sVar (sCons sVar (sCons sVar (sCons (sCall (sCons sVar (sCons sInt (sCons sInt (sCons sVar sNil))))) (sCons sVar sNil)))))))) (sRet sBl) sNext)
      (sSeq (sIfS (sNot (sB (sCall (sCons sVar (sCons sVar (sCons sVar (sCons (sOp roIxL (sLst (sCons sInt (sCons sInt sNil))) (sCall (sCons sVar (sCons sInt sNil)))) sNil))))))) (sRet sBl) sNext)
      (sSeq (sAsg (sCall (sCons sVar (sCons (sLst (sCons sVar (sCons sVar sNil))) (sCons sVar sNil)))) sName)
      (sSeq (sAsg (sMakeSW (W := fun cls d _ H => E cls d H) (by exact hW) (sCons sVar (sCons sVar (sCons sVar sNil)))) sName)
      (sSeq (sIfS (sOr (sNot (sB (sCall (sCons sVar (sCons sVar (sCons sVar (sCons sVar (sCons sVar sNil)))))))) (sNot (sB (sCall (sCons sVar (sCons sVar (sCons sVar (sCons sVar (sCons sVar sNil))))))))) (sRet sBl) sNext)
      (sSeq (sIfS (sNot (sB (sCall (sCons (sTup (sCons (sCVal (n := 300) T.rd_Query T.cv_Query_MOST_LOOKS sHd) (sCons (sCVal (n := 20) T.rd_Query T.cv_Query_MOST_LEVELS sHd) (sCons (sCVal (n := 256) T.rd_Query T.cv_Query_MOST_CHOICES sHd) sNil)))) (sCons (sTup (sCons sInt (sCons sInt (sCons sInt sNil)))) sNil))))) (sRet sBl) sNext)
      (sRet (sCall (sCons (sTup (sCons (sFldO (NS := NS_Query) (i := 0) T.cls_Query T.na_Query_term rfl (by decide) sVar) (sCons (sFldO (NS := NS_Query) (i := 1) T.cls_Query T.na_Query_widths rfl (by decide) sVar) (sCons (sFldO (NS := NS_Query) (i := 2) T.cls_Query T.na_Query_outcomes rfl (by decide) sVar) sNil)))) (sCons (sTup (sCons sVar (sCons sVar (sCons sVar sNil)))) sNil))))))))))))))))))⟩) (fun ds μ Φ Ψ h => ?hv)
  case hv =>
    obtain ⟨ns, rfl, hlen, h⟩ := h
    have eo : ∀ t ws oc, qO T.c_Query t ws oc = D.obj T.c_Query NS_Query [qD t, .tup (ws.map .int), .int (oc : Int)] := fun _ _ _ => rfl
    refine seq_cut fun M hM => ?_
    walk_at "wp"
    refine ⟨ns, rfl, hlen, fun p c hp sc => ?_⟩
    have fin : ∀ c' : List D, ∃ μ2, DW.Sub μ2 (sset μ p (.lst c')) ∧ Φ (.bl true) μ2 := fun c' => ⟨μ, Sub.set Sub.refl hp, h⟩
    rw [hM]; clear hM M
    refine seq_cut fun M hM => ?_
    walk_at "wp"
    refine ⟨p, ns, c, rfl, sset_same, sc, fun ws c1 W sc => ?_⟩
    rw [sset_sset, hM]; clear hM M
    refine seq_cut fun M hM => ?_
    walk_at "wp"
    refine ⟨p, ns, c1, 4, rfl, sset_same, sc, by decide, by decide, fun y c2 y0 y1 sc => ?_⟩
    rw [sset_sset]
    obtain ⟨m, hm, m1, m4⟩ : ∃ s : Nat, (1 : Int) + y = (s : Int) ∧ 1 ≤ s ∧ s ≤ 4 := ⟨(1 + y).toNat, by omega, by omega, by omega⟩
    walk_at "wp"
    rw [hm]
    refine ⟨p, ns, c2, ws, m, 64, rfl, sset_same, sc, W, by omega, by decide, by decide, fun ps c3 p1 p2 p3 p4 p5 sc => ?_⟩
    rw [sset_sset, hM]; clear hM M
    refine seq_cut fun M hM => ?_
    walk_at "wp"
    refine ⟨p, ns, c3, 2, rfl, sset_same, sc, by decide, by decide, fun y c4 y2 y3 sc => ?_⟩
    rw [sset_sset]
    walk_at "wp"
    have P0 : Pls ws ps := Pls.of p1 p2 p3 p4 p5 m1 (by omega) (by decide)
    have pf : wpr ws ps ≤ 64 := by have := p4 ps.length (Nat.le_refl _); rw [List.take_length, wpl_wpr] at this; exact this
    have main : ∀ (ps : List Nat) (c4 : List D), Pls ws ps → StC ns c4 → M [some (.scr ns), some (.hd (.ref p)), some (.tup (ws.map .int)), some (.lst (nI ps)), none, none, none, none, none, none, none, none] (sset μ p (.lst c4)) := by
      clear P0 pf p1 p2 p3 p4 p5 ps y0 y1 y2 y3 hm m1 m4
      intro ps c4 P0 sc
      rw [hM]; clear hM M
      refine seq_cut fun M hM => ?_
      walk_at "wp"
      refine ⟨by decide, ?_⟩
      rw [hM]; clear hM M
      refine seq_cut fun M hM => ?_
      rw [show D.lst [.tup (ws.map .int), .int 2] = szD ws 2 from rfl]
      walk_at "wp"
      refine ⟨p, ns, c4, ws, 2, ps, rfl, sset_same, sc, W, by decide, by decide, P0.n0, P0.l8, P0.lt, fun t c5 t1 t2 t3 t4 sc => ?_⟩
      obtain ⟨s1, ht⟩ := P0.sm W (by decide) (by decide) t1 (by omega) t3 t4
      rw [sset_sset]
      refine ⟨p, ns, c5, ws, 2, ps, rfl, sset_same, sc, W, by decide, by decide, P0.n0, P0.l8, P0.lt, fun s c6 t1 t2 t3 t4 sc => ?_⟩
      obtain ⟨s2, hs⟩ := P0.sm W (by decide) (by decide) t1 (by omega) t3 t4
      rw [sset_sset]
      refine ⟨by decide, ?_⟩
      rw [hM]; clear hM M
      refine seq_cut fun M hM => ?_
      have two : ∀ (s1 s2 : List Nat) (t s : QT) (c6 : List D) (x1 x2 x3 : Option D), Sm ws 2 s1 t → Sm ws 2 s2 s → StC ns c6 → M [some (.scr ns), some (.hd (.ref p)), some (.tup (ws.map .int)), some (.lst (nI ps)), some (szD ws 2), some (.lst [qD t, qD s]), none, none, none, x1, x2, x3] (sset μ p (.lst c6)) := by
        intro s1 s2 t s c6 x1 x2 x3 ht hs sc
        rw [hM]; clear hM M
        refine seq_cut fun M hM => ?_
        walk_at "wp"
        refine ⟨p, ns, c6, 4, rfl, sset_same, sc, by decide, by decide, fun y c7 y0 y1 sc => ?_⟩
        rw [sset_sset]
        obtain ⟨k, hk, k1, k4⟩ : ∃ s : Nat, (1 : Int) + y = (s : Int) ∧ 1 ≤ s ∧ s ≤ 4 := ⟨(1 + y).toNat, by omega, by omega, by omega⟩
        walk_at "wp"
        rw [hk]
        clear y0 y1 hk y
        rw [hM]; clear hM M
        refine seq_cut fun M hM => ?_
        walk_at "wp"
        refine ⟨p, ns, c7, 2, 2, k, rfl, sset_same, sc, by decide, by decide, k1, k4, fun nb c8 hb sc => ?_⟩
        rw [sset_sset]
        refine ⟨p, ns, c8, ws, s1, s2, t, s, nb, k, rfl, sset_same, sc, ht, hs, hb, k1, k4, fun c9 sc => ⟨true, rfl, nofun, fun _ => ?_⟩⟩
        rw [sset_sset]
        rw [hM]; clear hM M
        refine seq_cut fun M hM => ?_
        walk_at "wp"
        refine ⟨by decide, p, ns, c9, 2, rfl, sset_same, sc, by decide, by decide, fun y c10 y0 y1 sc => ?_⟩
        rw [sset_sset]
        obtain ⟨oc, eoc, hoc⟩ : ∃ k : Nat, atI [D.int 1, D.int 3] y = some (.int k) ∧ (k = 1 ∨ k = 3) := by
          rcases (show y = 0 ∨ y = 1 by omega) with rfl | rfl
          · exact ⟨1, rfl, .inl rfl⟩
          · exact ⟨3, rfl, .inr rfl⟩
        walk_at "wp"
        refine ⟨_, eoc, p, ns, c10, ws, ps, oc, rfl, sset_same, sc, W, P0.nd, P0.n0, P0.l8, P0.lt, P0.few, hoc, fun c11 sc => ⟨true, rfl, nofun, fun _ => ?_⟩⟩
        rw [sset_sset]
        clear y0 y1 eoc y
        rw [hM]; clear hM M
        refine seq_cut fun M hM => ?_
        walk_at "wp"
        refine ⟨by decide, p, ns, c11, ws, k, ps, rfl, sset_same, sc, W, k1, k4, P0.n0, P0.l8, P0.lt, fun u c12 t1 t2 t3 t4 sc => ?_⟩
        obtain ⟨s3, hu⟩ := P0.sm W k1 k4 t1 (by omega) t3 t4
        rw [sset_sset]
        rw [hM]; clear hM M
        refine seq_cut fun M hM => ?_
        walk_at "wp"
        refine fun x hx => mk_fit hu.fit rfl ⟨rfl, NS_Query, _, sset_same, ?_⟩
        rw [sdel_sset hx, ← eo]
        clear hx x
        rw [hM]; clear hM M
        refine seq_cut fun M hM => ?_
        walk_at "wp"
        refine ⟨p, ns, c12, ws, s3, u, k, rfl, sset_same, sc, hu.fit, fun c13 sc => ⟨true, rfl, nofun, fun _ => ⟨p, ns, c13, ws, s3, u, k, rfl, by rw [sset_sset]; exact sset_same, sc, hu.fit, fun c14 sc => ⟨true, rfl, nofun, fun _ => ?_⟩⟩⟩⟩
        rw [sset_sset, sset_sset]
        rw [hM]; clear hM M
        rw [eo]
        walk_at "wps"
        have tri : ∀ {a b c : D}, Pln a 29 → Pln b 29 → Pln c 29 → Pln (.tup [a, b, c]) 30 := fun ha hb hc => Pln.tup (by simp) fun d hd => by
          simp only [List.mem_cons, List.not_mem_nil, or_false] at hd
          rcases hd with z | z | z
          · rw [z]; exact ha
          · rw [z]; exact hb
          · rw [z]; exact hc
        have du := hu.fit.dep
        exact ⟨by decide, by decide, same_self (tri Pln.int Pln.int Pln.int) ⟨true, rfl, nofun, fun _ => ⟨by decide, by decide, same_self (tri ((pln_q W u hu.fit.ok).up (by omega)) W.pln Pln.int) (fin c14)⟩⟩⟩
      walk_at "wp"
      refine ⟨p, ns, c6, 5, rfl, sset_same, sc, by decide, by decide, fun y c7 y0 y1 sc => ?_⟩
      rw [sset_sset]
      walk_at "wp"
      refine ⟨fun _ => ?_, fun _ => two s1 s2 t s c7 _ _ _ ht hs sc⟩
      refine seq_cut fun N hN => ?_
      walk_at "wp"
      refine ⟨p, ns, c7, 8, rfl, sset_same, sc, by decide, by decide, fun y c8 y0 y1 sc => ?_⟩
      rw [sset_sset]
      obtain ⟨n, hn, n1, n8⟩ : ∃ s : Nat, (1 : Int) + y = (s : Int) ∧ 1 ≤ s ∧ s ≤ 8 := ⟨(1 + y).toNat, by omega, by omega, by omega⟩
      walk_at "wp"
      rw [hn]
      refine ⟨p, ns, c8, ws, n, 256, rfl, sset_same, sc, W, n8, by decide, by decide, fun qs c9 q1 q2 q3 q4 q5 sc => ?_⟩
      have P1 : Pls ws qs := Pls.of q1 q2 q3 q4 q5 n1 n8 (by decide)
      rw [sset_sset]
      rw [hN]; clear hN N
      refine seq_cut fun N hN => ?_
      walk_at "wp"
      refine ⟨p, ns, c9, ws, 8, 256, rfl, sset_same, sc, W, by decide, by decide, by decide, fun rs c10 q1 q2 q3 q4 q5 sc => ?_⟩
      have P2 : Pls ws rs := Pls.of q1 q2 q3 q4 q5 (by decide) (by decide) (by decide)
      rw [sset_sset]
      refine ⟨by decide, ?_⟩
      rw [hN]; clear hN N
      walk_at "wp"
      refine ⟨by decide, by decide, lcG_drawN (StC ns) (fun i acc => ∃ ts : List QT, acc = qDs ts ∧ ts.length = i ∧ ∀ t ∈ ts, ∃ ss, Sm ws 2 ss t) (by rw [rngD_len]; decide) sset_same sc ⟨[], rfl, rfl, by simp⟩ (fun i d μ2 X acc c11 hi hs2 sc ⟨ts, e, hl, hT⟩ hla hx => ?_) (fun acc c11 ⟨ts, e, hl, hT⟩ hla sc => ?_)⟩
      · walk_at "wp"
        refine ⟨p, ns, c11, 3, rfl, hs2, sc, by decide, by decide, fun y c12 y0 y1 sc => ?_⟩
        obtain ⟨us, eus, Pu⟩ : ∃ us, atI [D.lst (nI ps), .lst (nI qs), .lst (nI rs)] y = some (.lst (nI us)) ∧ Pls ws us := by
          rcases (show y = 0 ∨ y = 1 ∨ y = 2 by omega) with rfl | rfl | rfl
          · exact ⟨ps, rfl, P0⟩
          · exact ⟨qs, rfl, P1⟩
          · exact ⟨rs, rfl, P2⟩
        walk_at "wp"
        refine ⟨_, eus, p, ns, c12, 6, rfl, sset_same, sc, by decide, by decide, fun y c13 y0 y1 sc => ?_⟩
        rw [sset_sset]
        obtain ⟨lv, hlv, lv1⟩ : ∃ s : Nat, (8 : Int) + y = (s : Int) ∧ s ≤ 13 := ⟨(8 + y).toNat, by omega, by omega⟩
        walk_at "wp"
        rw [hlv]
        refine ⟨p, ns, c13, ws, 2, lv, us, rfl, sset_same, sc, W, by decide, by decide, Pu.n0, Nat.le_trans Pu.l8 (by decide), Pu.lt, by omega, fun u c14 t1 t2 t3 t4 sc => ?_⟩
        rw [sset_sset]
        refine hx _ c14 sc ⟨ts ++ [u], by rw [e, qDs_map, qDs_map, List.map_append]; rfl, by rw [List.length_append, hl]; rfl, fun v hv => ?_⟩
        rcases List.mem_append.mp hv with z | z
        · exact hT v z
        · rw [List.mem_singleton.mp z]
          exact Pu.sm W (by decide) (by decide) t1 (by omega) t3 (by omega)
      · have hl : ts.length = 2 := hl
        obtain ⟨t, s, rfl⟩ : ∃ t s, ts = [t, s] := by
          rcases ts with _ | ⟨t, _ | ⟨s, _ | ⟨u, ts⟩⟩⟩
          · cases hl
          · cases hl
          · exact ⟨t, s, rfl⟩
          · have : ts.length + 1 + 1 + 1 = 2 := hl
            omega
        obtain ⟨s1, ht⟩ := hT t (by simp)
        obtain ⟨s2, hs⟩ := hT s (by simp)
        subst e
        rw [sset_sset, show qDs [t, s] = [qD t, qD s] by rw [qDs, qDs, qDs]]
        exact two s1 s2 t s c11 _ _ _ ht hs sc
    refine ⟨fun _ => nin_N (z := 0) ⟨.lst _, ?_⟩, fun _ => main ps c4 P0 sc⟩
    refine ⟨_, rfl, fun q => ?_, fun _ => main ps c4 P0 sc⟩
    rw [nI_len]
    have h0 : 0 ∉ ps := fun z => by simp [z] at q
    refine ⟨by decide, by omega, ?_⟩
    have hw0 := W.wd1 0
    refine main (0 :: ps) c4 ⟨List.nodup_cons.mpr ⟨h0, p1⟩, fun x hx => ?_, by simp, by rw [List.length_cons]; omega, ?_⟩ sc
    · rcases List.mem_cons.mp hx with z | z
      · rw [z]; decide
      · exact p2 x z
    · rw [wpr]
      exact Nat.le_trans (Nat.mul_le_mul hw0.2 pf) (by decide)
end
end LW
set_option Elab.async false
set_option linter.all false
set_option maxRecDepth 100000
set_option maxHeartbeats 4000000
namespace LW
open PySem PySem.Spec L2 DW PyProof.Rows NdefX HX
theorem kit_refS {K : PySem.W.Frag} {R C : Addr} {b : Bool} (h0 : PySem.W.subIn K (.ref R) (.ref R) = some true) (h1 : PySem.W.isClsIn K C = true) (h2 : PySem.W.typeIn K (.ref C) = some (.type "type")) (h3 : PySem.W.subIn K (.ref R) (.ref C) = some b) : PySem.W.kitOne K (.ref R) (.ref C) = some b := by
  unfold PySem.W.kitOne
  by_cases e : R = C
  · subst e
    rw [h0] at h3
    rw [if_pos (by simp)]
    exact h3
  · rw [if_neg (by simp [e])]
    have h1' : (PySem.W.clsIn K C).isSome = true := h1
    show (if ((PySem.W.clsIn K C).isSome && PySem.W.typeIn K (.ref C) == some (.type "type")) = true then PySem.W.subIn K (.ref R) (.ref C) else none) = some b
    rw [if_pos (by rw [h1', h2] <;> rfl)]
    exact h3
theorem kit_tyS {K : PySem.W.Frag} {R : Addr} {T : String} {b : Bool} (h1 : PySem.W.kitMeta T = true) (h3 : PySem.W.subIn K (.ref R) (.type T) = some b) : PySem.W.kitOne K (.ref R) (.type T) = some b := by
  unfold PySem.W.kitOne
  rw [if_neg (by simp)]
  show (if PySem.W.kitMeta T = true then PySem.W.subIn K (.ref R) (.type T) else none) = some b
  rw [if_pos h1]
  exact h3
theorem sci_InvalidTerm : NScope ["self", "path", "__class__"] ["self", "path"] ["__class__"] (defScope si_InvalidTerm) := nscope_by (by decide +kernel)
theorem okinit_InvalidTerm {CX : CXT} {P : Program} {w : World} {K : Fg} {mg : Str → Option Value} {base : Heap} {f C D cc cda : Addr} {file : Str} {kV doc pm ct oc : Value} {an od : Option Addr} {osl : Array (Option Value)}
    (lk : K.lookup f = some ⟨oc, od, .func (PySem.W.ksFn "__init__" "InvalidTerm.__init__" (defArgs si_InvalidTerm) (defBody si_InvalidTerm) (defScope si_InvalidTerm) .none kV doc pm an (.ref cda) ct cc), osl⟩)
    (hcd : PySem.W.codeIn K (.ref cda) "InvalidTerm.__init__" = true) (T : SupC K C D cc f cda file) (hfile : ((P.main.file : Str) == file) = true) (htop : (P.main.scope.names.lookup ("super" : Str)).isSome = false) (hms : mg "super" = none) :
    FnOk P w K mg base CX 1 f (PySem.W.ksFn "__init__" "InvalidTerm.__init__" (defArgs si_InvalidTerm) (defBody si_InvalidTerm) (defScope si_InvalidTerm) .none kV doc pm an (.ref cda) ct cc) ["self", "path"] (spInit K C "path" (okPath K)) :=
  sup_fn (k := 0) lk hcd sci_InvalidTerm T rfl rfl hfile htop hms rfl (by decide) fun X hP hw hK hN hsc hL hr => by
    obtain ⟨L, hL⟩ := hL
    have v0 : ∀ p, PE X (.Name "self" p) (tVar 0) := fun p => pv 0 (hN := by rw [hN]; rfl) (hv := .inl (by rw [hsc]; rfl))
    have v1 : ∀ p, PE X (.Name "path" p) (tVar 1) := fun p => pv 1 (hN := by rw [hN]; rfl) (hv := .inl (by rw [hsc]; rfl))
    subst hK
    exact ⟨msg_path hr (by decide) (by decide) (v1 _), by rw [hL]; rfl, by rw [hL]; rfl, by rw [hL]; rfl, by rw [hL]; rfl, ⟨_, by rw [hL]; rfl⟩, by rw [hL]; rfl, v0 _, v1 _⟩
open PyProof.Rows in
theorem all_mk {P : Program} {w : World} {K : PySem.W.Frag} {h : Heap} {mg : Str → Option Value} {fa c_OutOfRange c_TooLarge c_SizeMismatch c_InvalidQuery c_InvalidTerm c_InvalidAim c_InvalidGame c_ChoosersError c_Query c_Row fi_InvalidQuery f0 f1 f2 f3 f4 f5 f6 f7 f8 f9 f10 f11 f12 f13 f14 f15 f16 f17 f18 f19 f20 f21 f22 f23 f24 f25 f26 f27 f28 f29 f30 f31 f32 f33 dA33 f34 f35 f36 f37 f38 f39 f40 f41 f42 f43 f44 f45 f46 f47 f48 f49 f50 f51 f52 f53 f54 f55 f56 f57 f58 f59 f60 f61 f62 f63 f64 f65 : Addr} (X : K.In h) (G : h.Ns mainGlobals mg) (hfa : mg "law" = some (.ref fa)) (hP : ((P.main.file : Str) == fileP) = true) (htop_ : (P.main.scope.names.lookup ("super" : Str)).isSome = false)
    (FI0 : fnI K f0 = vI "is_number" "is_number" s_is_number [])
    (FI1 : fnI K f1 = vI "is_below" "is_below" s_is_below [])
    (FI2 : fnI K f2 = vI "count_choices" "count_choices" s_count_choices [])
    (FI3 : fnI K f3 = vI "has_outcomes" "has_outcomes" s_has_outcomes [])
    (FI4 : fnI K f4 = vI "width_at" "width_at" s_width_at [])
    (FI5 : fnI K f5 = vI "terms_behind" "terms_behind" s_terms_behind [])
    (FI6 : fnI K f6 = vI "are_widths" "are_widths" s_are_widths [])
    (FI7 : fnI K f7 = vI "require_form" "require_form" s_require_form [])
    (FI8 : fnI K f8 = vI "has_query_form" "has_query_form" s_has_query_form [])
    (FI9 : fnI K f9 = vI "wrong_query" "wrong_query" s_wrong_query [])
    (FI10 : fnI K f10 = vI "places_of" "places_of" s_places_of [])
    (FI11 : fnI K f11 = vI "require_few" "require_few" s_require_few [])
    (FI12 : fnI K f12 = vI "followed" "followed" s_followed [])
    (FI13 : fnI K f13 = vI "wrong_numbers" "wrong_numbers" s_wrong_numbers [])
    (FI14 : fnI K f14 = vI "fixed_term" "fixed_term" s_fixed_term [])
    (FI15 : fnI K f15 = vI "lowered_term" "lowered_term" s_lowered_term [])
    (FI16 : fnI K f16 = vI "term_with_tells" "term_with_tells" s_term_with_tells [])
    (FI17 : fnI K f17 = vI "term_with_outcomes" "term_with_outcomes" s_term_with_outcomes [])
    (FI18 : fnI K f18 = vI "require_same_widths" "require_same_widths" s_require_same_widths [])
    (FI19 : fnI K f19 = vI "require_two_outcomes" "require_two_outcomes" s_require_two_outcomes [])
    (FI20 : fnI K f20 = vI "require_combined" "require_combined" s_require_combined [])
    (FI21 : fnI K f21 = vI "__init__" "Query.__init__" s_Query___init__ [])
    (FI22 : fnI K f22 = vI "__call__" "Query.__call__" s_Query___call__ [])
    (FI23 : fnI K f23 = vI "__invert__" "Query.__invert__" s_Query___invert__ [])
    (FI24 : fnI K f24 = vI "__and__" "Query.__and__" s_Query___and__ [])
    (FI25 : fnI K f25 = vI "__or__" "Query.__or__" s_Query___or__ [])
    (FI26 : fnI K f26 = vI "__xor__" "Query.__xor__" s_Query___xor__ [])
    (FI27 : fnI K f27 = vI "fix_place" "fix_place" s_fix_place [])
    (FI28 : fnI K f28 = vI "query_tail" "query_tail" s_query_tail [])
    (FI29 : fnI K f29 = vI "join_queries" "join_queries" s_join_queries [])
    (FI30 : fnI K f30 = vI "shortest_cycle" "shortest_cycle" s_shortest_cycle [])
    (FI31 : fnI K f31 = vI "turned_cycle" "turned_cycle" s_turned_cycle [])
    (FI32 : fnI K f32 = vI "count_spare" "count_spare" s_count_spare [])
    (FI33 : fnI K f33 = vI "__init__" "Row.__init__" s_Row___init__ [])
    (FI34 : fnI K f34 = vI "__getitem__" "Row.__getitem__" s_Row___getitem__ [])
    (FI35 : fnI K f35 = vI "least" "Row.least" s_Row_least [])
    (FI36 : fnI K f36 = vI "after" "Row.after" s_Row_after [])
    (FI37 : fnI K f37 = vI "_law_start" "_law_start" s__law_start [])
    (FI38 : fnI K f38 = vI "_law_pick" "_law_pick" s__law_pick [])
    (FI39 : fnI K f39 = vI "_law_same" "_law_same" s__law_same [])
    (FI40 : fnI K f40 = vI "_law_width" "_law_width" s__law_width [])
    (FI41 : fnI K f41 = vI "_law_widths" "_law_widths" s__law_widths [])
    (FI42 : fnI K f42 = vI "_law_look_places" "_law_look_places" s__law_look_places [])
    (FI43 : fnI K f43 = vI "_law_query_term" "_law_query_term" s__law_query_term [])
    (FI44 : fnI K f44 = vI "_law_endless" "_law_endless" s__law_endless [])
    (FI45 : fnI K f45 = vI "_law_endless_entry" "_law_endless_entry" s__law_endless_entry [])
    (FI46 : fnI K f46 = vI "_law_small_term" "_law_small_term" s__law_small_term [])
    (FI47 : fnI K f47 = vI "_law_chain" "_law_chain" s__law_chain [])
    (FI48 : fnI K f48 = vI "_law_replaced" "_law_replaced" s__law_replaced [])
    (FI49 : fnI K f49 = vI "_law_without" "_law_without" s__law_without [])
    (FI50 : fnI K f50 = vI "_law_lowered" "_law_lowered" s__law_lowered [])
    (FI51 : fnI K f51 = vI "_law_walk" "_law_walk" s__law_walk [])
    (FI52 : fnI K f52 = vI "_law_too_deep" "_law_too_deep" s__law_too_deep [])
    (FI53 : fnI K f53 = vI "_law_looks" "_law_looks" s__law_looks [])
    (FI54 : fnI K f54 = vI "_law_named" "_law_named" s__law_named [])
    (FI55 : fnI K f55 = vI "_law_due" "_law_due" s__law_due [])
    (FI56 : fnI K f56 = vI "_law_apply" "_law_apply" s__law_apply [])
    (FI57 : fnI K f57 = vI "_law_made" "_law_made" s__law_made [])
    (FI58 : fnI K f58 = vI "_law_terms" "_law_terms" s__law_terms [])
    (FI59 : fnI K f59 = vI "_law_together" "_law_together" s__law_together [])
    (FI60 : fnI K f60 = vI "_law_table" "_law_table" s__law_table [])
    (FI61 : fnI K f61 = vI "_law_combines" "_law_combines" s__law_combines [])
    (FI62 : fnI K f62 = vI "_law_joins" "_law_joins" s__law_joins [])
    (FI63 : fnI K f63 = vI "_law_fixes" "_law_fixes" s__law_fixes [])
    (FI64 : fnI K f64 = vI "_law_tails" "_law_tails" s__law_tails [])
    (FI65 : fnI K f65 = vI "law" "law" s_law [])
    (I_InvalidQuery : fnI K fi_InvalidQuery = vI "__init__" "InvalidTerm.__init__" si_InvalidTerm ["__class__"])
    (h0_ : ck0 K c_Query c_Row f0 f1 f2 f3 f4 f5 f6 f7 = true)
    (h1_ : ck1 K f7 f8 f9 f10 f11 f12 f13 f14 f15 = true)
    (h2_ : ck2 K c_Query f16 f17 f18 f19 f20 f21 f22 f23 = true)
    (h3_ : ck3 K c_Query f23 f24 f25 f26 f27 f28 f29 f30 = true)
    (h4_ : ck4 K c_Row f30 f31 f32 f33 dA33 f34 f35 f36 f37 = true)
    (h5_ : ck5 K f37 f38 f39 f40 f41 f42 f43 f44 f45 = true)
    (h6_ : ck6 K f45 f46 f47 f48 f49 f50 f51 f52 f53 = true)
    (h7_ : ck7 K f54 f55 f56 f57 f58 f59 f60 f61 f62 = true)
    (h8_ : ck8 K f62 f63 f64 f65 = true)
    (h9_ : ck9 K c_OutOfRange c_TooLarge c_SizeMismatch c_InvalidQuery c_InvalidTerm c_InvalidAim c_InvalidGame c_ChoosersError = true)
    (h10_ : ck10 K c_OutOfRange c_TooLarge c_SizeMismatch c_InvalidQuery c_InvalidTerm c_InvalidAim c_InvalidGame c_ChoosersError = true)
    (h11_ : ck11 K c_OutOfRange c_TooLarge c_SizeMismatch c_InvalidQuery c_InvalidTerm c_InvalidAim c_InvalidGame c_ChoosersError = true)
    (h12_ : ck12 K c_OutOfRange c_TooLarge c_SizeMismatch c_InvalidQuery c_InvalidTerm c_InvalidAim c_InvalidGame c_ChoosersError fi_InvalidQuery = true)
    (h13_ : ck13 K c_OutOfRange c_TooLarge c_SizeMismatch c_InvalidQuery c_InvalidTerm c_InvalidAim c_InvalidGame c_ChoosersError c_Query = true)
    (h14_ : ck14 K c_Query c_Row f22 f34 = true)
    : ∃ fd : FuncData, (∀ (s : Shared) (v : Value), BindsTo s fd ⟨[v], []⟩ [("_law_script", v)]) ∧ ∀ base : Heap, K.In base → base.Ns mainGlobals mg → FnOk P w K mg base (L2N.CX P w) 70 fa fd ["_law_script"] (spOf K c_law) := by
  obtain ⟨g_Query, h0_⟩ := He.ba h0_
  have g_Query := He.eqO_ok g_Query
  obtain ⟨g_Row, h0_⟩ := He.ba h0_
  have g_Row := He.eqO_ok g_Row
  obtain ⟨a0, h0_⟩ := He.ba h0_
  have a0 := He.eqO_ok a0
  obtain ⟨c0, h0_⟩ := He.ba h0_
  obtain ⟨k0, h0_⟩ := He.ba h0_
  obtain ⟨a1, h0_⟩ := He.ba h0_
  have a1 := He.eqO_ok a1
  obtain ⟨c1, h0_⟩ := He.ba h0_
  obtain ⟨k1, h0_⟩ := He.ba h0_
  obtain ⟨a2, h0_⟩ := He.ba h0_
  have a2 := He.eqO_ok a2
  obtain ⟨c2, h0_⟩ := He.ba h0_
  obtain ⟨k2, h0_⟩ := He.ba h0_
  obtain ⟨a3, h0_⟩ := He.ba h0_
  have a3 := He.eqO_ok a3
  obtain ⟨c3, h0_⟩ := He.ba h0_
  obtain ⟨k3, h0_⟩ := He.ba h0_
  obtain ⟨a4, h0_⟩ := He.ba h0_
  have a4 := He.eqO_ok a4
  obtain ⟨c4, h0_⟩ := He.ba h0_
  obtain ⟨k4, h0_⟩ := He.ba h0_
  obtain ⟨a5, h0_⟩ := He.ba h0_
  have a5 := He.eqO_ok a5
  obtain ⟨c5, h0_⟩ := He.ba h0_
  obtain ⟨k5, h0_⟩ := He.ba h0_
  obtain ⟨a6, h0_⟩ := He.ba h0_
  have a6 := He.eqO_ok a6
  obtain ⟨c6, h0_⟩ := He.ba h0_
  obtain ⟨k6, h0_⟩ := He.ba h0_
  obtain ⟨a7, h0_⟩ := He.ba h0_
  have a7 := He.eqO_ok a7
  have c7 := h0_
  obtain ⟨k7, h1_⟩ := He.ba h1_
  obtain ⟨a8, h1_⟩ := He.ba h1_
  have a8 := He.eqO_ok a8
  obtain ⟨c8, h1_⟩ := He.ba h1_
  obtain ⟨k8, h1_⟩ := He.ba h1_
  obtain ⟨a9, h1_⟩ := He.ba h1_
  have a9 := He.eqO_ok a9
  obtain ⟨c9, h1_⟩ := He.ba h1_
  obtain ⟨k9, h1_⟩ := He.ba h1_
  obtain ⟨a10, h1_⟩ := He.ba h1_
  have a10 := He.eqO_ok a10
  obtain ⟨c10, h1_⟩ := He.ba h1_
  obtain ⟨k10, h1_⟩ := He.ba h1_
  obtain ⟨a11, h1_⟩ := He.ba h1_
  have a11 := He.eqO_ok a11
  obtain ⟨c11, h1_⟩ := He.ba h1_
  obtain ⟨k11, h1_⟩ := He.ba h1_
  obtain ⟨a12, h1_⟩ := He.ba h1_
  have a12 := He.eqO_ok a12
  obtain ⟨c12, h1_⟩ := He.ba h1_
  obtain ⟨k12, h1_⟩ := He.ba h1_
  obtain ⟨a13, h1_⟩ := He.ba h1_
  have a13 := He.eqO_ok a13
  obtain ⟨c13, h1_⟩ := He.ba h1_
  obtain ⟨k13, h1_⟩ := He.ba h1_
  obtain ⟨a14, h1_⟩ := He.ba h1_
  have a14 := He.eqO_ok a14
  obtain ⟨c14, h1_⟩ := He.ba h1_
  obtain ⟨k14, h1_⟩ := He.ba h1_
  obtain ⟨a15, h1_⟩ := He.ba h1_
  have a15 := He.eqO_ok a15
  obtain ⟨c15, h1_⟩ := He.ba h1_
  have k15 := h1_
  obtain ⟨a16, h2_⟩ := He.ba h2_
  have a16 := He.eqO_ok a16
  obtain ⟨c16, h2_⟩ := He.ba h2_
  obtain ⟨k16, h2_⟩ := He.ba h2_
  obtain ⟨a17, h2_⟩ := He.ba h2_
  have a17 := He.eqO_ok a17
  obtain ⟨c17, h2_⟩ := He.ba h2_
  obtain ⟨k17, h2_⟩ := He.ba h2_
  obtain ⟨a18, h2_⟩ := He.ba h2_
  have a18 := He.eqO_ok a18
  obtain ⟨c18, h2_⟩ := He.ba h2_
  obtain ⟨k18, h2_⟩ := He.ba h2_
  obtain ⟨a19, h2_⟩ := He.ba h2_
  have a19 := He.eqO_ok a19
  obtain ⟨c19, h2_⟩ := He.ba h2_
  obtain ⟨k19, h2_⟩ := He.ba h2_
  obtain ⟨a20, h2_⟩ := He.ba h2_
  have a20 := He.eqO_ok a20
  obtain ⟨c20, h2_⟩ := He.ba h2_
  obtain ⟨k20, h2_⟩ := He.ba h2_
  obtain ⟨a21, h2_⟩ := He.ba h2_
  have a21 := He.eqO_ok a21
  obtain ⟨i21, h2_⟩ := He.ba h2_
  obtain ⟨c21, h2_⟩ := He.ba h2_
  obtain ⟨k21, h2_⟩ := He.ba h2_
  obtain ⟨a22, h2_⟩ := He.ba h2_
  have a22 := He.eqO_ok a22
  obtain ⟨i22, h2_⟩ := He.ba h2_
  obtain ⟨c22, h2_⟩ := He.ba h2_
  obtain ⟨k22, h2_⟩ := He.ba h2_
  obtain ⟨a23, h2_⟩ := He.ba h2_
  have a23 := He.eqO_ok a23
  have i23 := h2_
  obtain ⟨c23, h3_⟩ := He.ba h3_
  obtain ⟨k23, h3_⟩ := He.ba h3_
  obtain ⟨a24, h3_⟩ := He.ba h3_
  have a24 := He.eqO_ok a24
  obtain ⟨i24, h3_⟩ := He.ba h3_
  obtain ⟨c24, h3_⟩ := He.ba h3_
  obtain ⟨k24, h3_⟩ := He.ba h3_
  obtain ⟨a25, h3_⟩ := He.ba h3_
  have a25 := He.eqO_ok a25
  obtain ⟨i25, h3_⟩ := He.ba h3_
  obtain ⟨c25, h3_⟩ := He.ba h3_
  obtain ⟨k25, h3_⟩ := He.ba h3_
  obtain ⟨a26, h3_⟩ := He.ba h3_
  have a26 := He.eqO_ok a26
  obtain ⟨i26, h3_⟩ := He.ba h3_
  obtain ⟨c26, h3_⟩ := He.ba h3_
  obtain ⟨k26, h3_⟩ := He.ba h3_
  obtain ⟨a27, h3_⟩ := He.ba h3_
  have a27 := He.eqO_ok a27
  obtain ⟨c27, h3_⟩ := He.ba h3_
  obtain ⟨k27, h3_⟩ := He.ba h3_
  obtain ⟨a28, h3_⟩ := He.ba h3_
  have a28 := He.eqO_ok a28
  obtain ⟨c28, h3_⟩ := He.ba h3_
  obtain ⟨k28, h3_⟩ := He.ba h3_
  obtain ⟨a29, h3_⟩ := He.ba h3_
  have a29 := He.eqO_ok a29
  obtain ⟨c29, h3_⟩ := He.ba h3_
  obtain ⟨k29, h3_⟩ := He.ba h3_
  obtain ⟨a30, h3_⟩ := He.ba h3_
  have a30 := He.eqO_ok a30
  have c30 := h3_
  obtain ⟨k30, h4_⟩ := He.ba h4_
  obtain ⟨a31, h4_⟩ := He.ba h4_
  have a31 := He.eqO_ok a31
  obtain ⟨c31, h4_⟩ := He.ba h4_
  obtain ⟨k31, h4_⟩ := He.ba h4_
  obtain ⟨a32, h4_⟩ := He.ba h4_
  have a32 := He.eqO_ok a32
  obtain ⟨c32, h4_⟩ := He.ba h4_
  obtain ⟨k32, h4_⟩ := He.ba h4_
  obtain ⟨a33, h4_⟩ := He.ba h4_
  have a33 := He.eqO_ok a33
  obtain ⟨i33, h4_⟩ := He.ba h4_
  obtain ⟨c33, h4_⟩ := He.ba h4_
  obtain ⟨dt33, h4_⟩ := He.ba h4_
  have dt33 := tupB_ok dt33
  obtain ⟨k33, h4_⟩ := He.ba h4_
  obtain ⟨a34, h4_⟩ := He.ba h4_
  have a34 := He.eqO_ok a34
  obtain ⟨i34, h4_⟩ := He.ba h4_
  obtain ⟨c34, h4_⟩ := He.ba h4_
  obtain ⟨k34, h4_⟩ := He.ba h4_
  obtain ⟨a35, h4_⟩ := He.ba h4_
  have a35 := He.eqO_ok a35
  obtain ⟨i35, h4_⟩ := He.ba h4_
  obtain ⟨c35, h4_⟩ := He.ba h4_
  obtain ⟨k35, h4_⟩ := He.ba h4_
  obtain ⟨a36, h4_⟩ := He.ba h4_
  have a36 := He.eqO_ok a36
  obtain ⟨i36, h4_⟩ := He.ba h4_
  obtain ⟨c36, h4_⟩ := He.ba h4_
  obtain ⟨k36, h4_⟩ := He.ba h4_
  have a37 := h4_
  have a37 := He.eqO_ok a37
  obtain ⟨c37, h5_⟩ := He.ba h5_
  obtain ⟨k37, h5_⟩ := He.ba h5_
  obtain ⟨a38, h5_⟩ := He.ba h5_
  have a38 := He.eqO_ok a38
  obtain ⟨c38, h5_⟩ := He.ba h5_
  obtain ⟨k38, h5_⟩ := He.ba h5_
  obtain ⟨a39, h5_⟩ := He.ba h5_
  have a39 := He.eqO_ok a39
  obtain ⟨c39, h5_⟩ := He.ba h5_
  obtain ⟨k39, h5_⟩ := He.ba h5_
  obtain ⟨a40, h5_⟩ := He.ba h5_
  have a40 := He.eqO_ok a40
  obtain ⟨c40, h5_⟩ := He.ba h5_
  obtain ⟨k40, h5_⟩ := He.ba h5_
  obtain ⟨a41, h5_⟩ := He.ba h5_
  have a41 := He.eqO_ok a41
  obtain ⟨c41, h5_⟩ := He.ba h5_
  obtain ⟨k41, h5_⟩ := He.ba h5_
  obtain ⟨a42, h5_⟩ := He.ba h5_
  have a42 := He.eqO_ok a42
  obtain ⟨c42, h5_⟩ := He.ba h5_
  obtain ⟨k42, h5_⟩ := He.ba h5_
  obtain ⟨a43, h5_⟩ := He.ba h5_
  have a43 := He.eqO_ok a43
  obtain ⟨c43, h5_⟩ := He.ba h5_
  obtain ⟨k43, h5_⟩ := He.ba h5_
  obtain ⟨a44, h5_⟩ := He.ba h5_
  have a44 := He.eqO_ok a44
  obtain ⟨c44, h5_⟩ := He.ba h5_
  obtain ⟨k44, h5_⟩ := He.ba h5_
  obtain ⟨a45, h5_⟩ := He.ba h5_
  have a45 := He.eqO_ok a45
  have c45 := h5_
  obtain ⟨k45, h6_⟩ := He.ba h6_
  obtain ⟨a46, h6_⟩ := He.ba h6_
  have a46 := He.eqO_ok a46
  obtain ⟨c46, h6_⟩ := He.ba h6_
  obtain ⟨k46, h6_⟩ := He.ba h6_
  obtain ⟨a47, h6_⟩ := He.ba h6_
  have a47 := He.eqO_ok a47
  obtain ⟨c47, h6_⟩ := He.ba h6_
  obtain ⟨k47, h6_⟩ := He.ba h6_
  obtain ⟨a48, h6_⟩ := He.ba h6_
  have a48 := He.eqO_ok a48
  obtain ⟨c48, h6_⟩ := He.ba h6_
  obtain ⟨k48, h6_⟩ := He.ba h6_
  obtain ⟨a49, h6_⟩ := He.ba h6_
  have a49 := He.eqO_ok a49
  obtain ⟨c49, h6_⟩ := He.ba h6_
  obtain ⟨k49, h6_⟩ := He.ba h6_
  obtain ⟨a50, h6_⟩ := He.ba h6_
  have a50 := He.eqO_ok a50
  obtain ⟨c50, h6_⟩ := He.ba h6_
  obtain ⟨k50, h6_⟩ := He.ba h6_
  obtain ⟨a51, h6_⟩ := He.ba h6_
  have a51 := He.eqO_ok a51
  obtain ⟨c51, h6_⟩ := He.ba h6_
  obtain ⟨k51, h6_⟩ := He.ba h6_
  obtain ⟨a52, h6_⟩ := He.ba h6_
  have a52 := He.eqO_ok a52
  obtain ⟨c52, h6_⟩ := He.ba h6_
  obtain ⟨k52, h6_⟩ := He.ba h6_
  obtain ⟨a53, h6_⟩ := He.ba h6_
  have a53 := He.eqO_ok a53
  obtain ⟨c53, h6_⟩ := He.ba h6_
  have k53 := h6_
  obtain ⟨a54, h7_⟩ := He.ba h7_
  have a54 := He.eqO_ok a54
  obtain ⟨c54, h7_⟩ := He.ba h7_
  obtain ⟨k54, h7_⟩ := He.ba h7_
  obtain ⟨a55, h7_⟩ := He.ba h7_
  have a55 := He.eqO_ok a55
  obtain ⟨c55, h7_⟩ := He.ba h7_
  obtain ⟨k55, h7_⟩ := He.ba h7_
  obtain ⟨a56, h7_⟩ := He.ba h7_
  have a56 := He.eqO_ok a56
  obtain ⟨c56, h7_⟩ := He.ba h7_
  obtain ⟨k56, h7_⟩ := He.ba h7_
  obtain ⟨a57, h7_⟩ := He.ba h7_
  have a57 := He.eqO_ok a57
  obtain ⟨c57, h7_⟩ := He.ba h7_
  obtain ⟨k57, h7_⟩ := He.ba h7_
  obtain ⟨a58, h7_⟩ := He.ba h7_
  have a58 := He.eqO_ok a58
  obtain ⟨c58, h7_⟩ := He.ba h7_
  obtain ⟨k58, h7_⟩ := He.ba h7_
  obtain ⟨a59, h7_⟩ := He.ba h7_
  have a59 := He.eqO_ok a59
  obtain ⟨c59, h7_⟩ := He.ba h7_
  obtain ⟨k59, h7_⟩ := He.ba h7_
  obtain ⟨a60, h7_⟩ := He.ba h7_
  have a60 := He.eqO_ok a60
  obtain ⟨c60, h7_⟩ := He.ba h7_
  obtain ⟨k60, h7_⟩ := He.ba h7_
  obtain ⟨a61, h7_⟩ := He.ba h7_
  have a61 := He.eqO_ok a61
  obtain ⟨c61, h7_⟩ := He.ba h7_
  obtain ⟨k61, h7_⟩ := He.ba h7_
  have a62 := h7_
  have a62 := He.eqO_ok a62
  obtain ⟨c62, h8_⟩ := He.ba h8_
  obtain ⟨k62, h8_⟩ := He.ba h8_
  obtain ⟨a63, h8_⟩ := He.ba h8_
  have a63 := He.eqO_ok a63
  obtain ⟨c63, h8_⟩ := He.ba h8_
  obtain ⟨k63, h8_⟩ := He.ba h8_
  obtain ⟨a64, h8_⟩ := He.ba h8_
  have a64 := He.eqO_ok a64
  obtain ⟨c64, h8_⟩ := He.ba h8_
  obtain ⟨k64, h8_⟩ := He.ba h8_
  obtain ⟨a65, h8_⟩ := He.ba h8_
  have a65 := He.eqO_ok a65
  obtain ⟨c65, h8_⟩ := He.ba h8_
  obtain ⟨k65, h8_⟩ := He.ba h8_
  obtain ⟨z_isinstance, h8_⟩ := He.ba h8_
  have z_isinstance := He.eqO_ok z_isinstance
  obtain ⟨z_int, h8_⟩ := He.ba h8_
  have z_int := He.eqO_ok z_int
  obtain ⟨z_bool, h8_⟩ := He.ba h8_
  have z_bool := He.eqO_ok z_bool
  obtain ⟨z_all, h8_⟩ := He.ba h8_
  have z_all := He.eqO_ok z_all
  obtain ⟨z_str, h8_⟩ := He.ba h8_
  have z_str := He.eqO_ok z_str
  obtain ⟨z_len, h8_⟩ := He.ba h8_
  have z_len := He.eqO_ok z_len
  obtain ⟨z_enumerate, h8_⟩ := He.ba h8_
  have z_enumerate := He.eqO_ok z_enumerate
  obtain ⟨z_tuple, h8_⟩ := He.ba h8_
  have z_tuple := He.eqO_ok z_tuple
  obtain ⟨z_sorted, h8_⟩ := He.ba h8_
  have z_sorted := He.eqO_ok z_sorted
  obtain ⟨z_set, h8_⟩ := He.ba h8_
  have z_set := He.eqO_ok z_set
  obtain ⟨z_range, h8_⟩ := He.ba h8_
  have z_range := He.eqO_ok z_range
  obtain ⟨z_list, h8_⟩ := He.ba h8_
  have z_list := He.eqO_ok z_list
  obtain ⟨z_max, h8_⟩ := He.ba h8_
  have z_max := He.eqO_ok z_max
  have z_min := h8_
  have z_min := He.eqO_ok z_min
  obtain ⟨z_sum, h9_⟩ := He.ba h9_
  have z_sum := He.eqO_ok z_sum
  obtain ⟨z_ValueError, h9_⟩ := He.ba h9_
  have z_ValueError := He.eqO_ok z_ValueError
  obtain ⟨gc_LETTERS, h9_⟩ := He.ba h9_
  obtain ⟨_, gc_LETTERS⟩ := strB_ok gc_LETTERS
  obtain ⟨gc_DIGITS, h9_⟩ := He.ba h9_
  obtain ⟨_, gc_DIGITS⟩ := strB_ok gc_DIGITS
  obtain ⟨gc_LONGEST_WORD, h9_⟩ := He.ba h9_
  obtain ⟨_, gc_LONGEST_WORD⟩ := intB_ok gc_LONGEST_WORD
  obtain ⟨gc_LONGEST_NUMBER, h9_⟩ := He.ba h9_
  obtain ⟨_, gc_LONGEST_NUMBER⟩ := intB_ok gc_LONGEST_NUMBER
  obtain ⟨gc_NUMBERS_END, h9_⟩ := He.ba h9_
  obtain ⟨_, gc_NUMBERS_END⟩ := intB_ok gc_NUMBERS_END
  obtain ⟨gc_DEEPEST_TUPLE, h9_⟩ := He.ba h9_
  obtain ⟨_, gc_DEEPEST_TUPLE⟩ := intB_ok gc_DEEPEST_TUPLE
  obtain ⟨gc_MOST_OUTCOMES, h9_⟩ := He.ba h9_
  obtain ⟨_, gc_MOST_OUTCOMES⟩ := intB_ok gc_MOST_OUTCOMES
  obtain ⟨gc_MOST_WIDTHS, h9_⟩ := He.ba h9_
  obtain ⟨_, gc_MOST_WIDTHS⟩ := intB_ok gc_MOST_WIDTHS
  obtain ⟨gc_WIDEST, h9_⟩ := He.ba h9_
  obtain ⟨_, gc_WIDEST⟩ := intB_ok gc_WIDEST
  obtain ⟨gc_PLACES, h9_⟩ := He.ba h9_
  obtain ⟨_, gc_PLACES⟩ := intB_ok gc_PLACES
  obtain ⟨gc_ITEMS_BEFORE, h9_⟩ := He.ba h9_
  obtain ⟨_, gc_ITEMS_BEFORE⟩ := intB_ok gc_ITEMS_BEFORE
  obtain ⟨gc_TWO_OUTCOMES, h9_⟩ := He.ba h9_
  obtain ⟨_, gc_TWO_OUTCOMES⟩ := intB_ok gc_TWO_OUTCOMES
  obtain ⟨g_OutOfRange, h9_⟩ := He.ba h9_
  have g_OutOfRange := He.eqO_ok g_OutOfRange
  obtain ⟨g_TooLarge, h9_⟩ := He.ba h9_
  have g_TooLarge := He.eqO_ok g_TooLarge
  obtain ⟨g_SizeMismatch, h9_⟩ := He.ba h9_
  have g_SizeMismatch := He.eqO_ok g_SizeMismatch
  obtain ⟨g_InvalidQuery, h9_⟩ := He.ba h9_
  have g_InvalidQuery := He.eqO_ok g_InvalidQuery
  obtain ⟨g_InvalidTerm, h9_⟩ := He.ba h9_
  have g_InvalidTerm := He.eqO_ok g_InvalidTerm
  obtain ⟨g_InvalidAim, h9_⟩ := He.ba h9_
  have g_InvalidAim := He.eqO_ok g_InvalidAim
  obtain ⟨g_InvalidGame, h9_⟩ := He.ba h9_
  have g_InvalidGame := He.eqO_ok g_InvalidGame
  obtain ⟨g_ChoosersError, h9_⟩ := He.ba h9_
  have g_ChoosersError := He.eqO_ok g_ChoosersError
  obtain ⟨x_OutOfRange, h9_⟩ := He.ba h9_
  obtain ⟨x_TooLarge, h9_⟩ := He.ba h9_
  have x_SizeMismatch := h9_
  obtain ⟨z_super, h10_⟩ := He.ba h10_
  have z_super := He.eqO_ok z_super
  obtain ⟨opq_, h10_⟩ := He.ba h10_
  have opq_ := He.eqO_ok opq_
  obtain ⟨kc_OutOfRange, h10_⟩ := He.ba h10_
  obtain ⟨e_OutOfRange, h10_⟩ := He.ba h10_
  have e_OutOfRange := of_decide_eq_true e_OutOfRange
  obtain ⟨t_OutOfRange, h10_⟩ := He.ba h10_
  have t_OutOfRange := of_decide_eq_true t_OutOfRange
  obtain ⟨hg_OutOfRange, h10_⟩ := He.ba h10_
  have hg_OutOfRange := He.eqO_ok hg_OutOfRange
  obtain ⟨hk_OutOfRange, h10_⟩ := He.ba h10_
  have hk_OutOfRange := He.eqO_ok hk_OutOfRange
  obtain ⟨hd_OutOfRange, h10_⟩ := He.ba h10_
  obtain ⟨ha_OutOfRange, h10_⟩ := He.ba h10_
  have ha_OutOfRange := He.eqO_ok ha_OutOfRange
  obtain ⟨hm_OutOfRange, h10_⟩ := He.ba h10_
  have hm_OutOfRange := of_decide_eq_true hm_OutOfRange
  obtain ⟨s_OutOfRange_OutOfRange, h10_⟩ := He.ba h10_
  have s_OutOfRange_OutOfRange := of_decide_eq_true s_OutOfRange_OutOfRange
  obtain ⟨s_OutOfRange_InvalidQuery, h10_⟩ := He.ba h10_
  have s_OutOfRange_InvalidQuery := of_decide_eq_true s_OutOfRange_InvalidQuery
  obtain ⟨s_OutOfRange_InvalidTerm, h10_⟩ := He.ba h10_
  have s_OutOfRange_InvalidTerm := of_decide_eq_true s_OutOfRange_InvalidTerm
  obtain ⟨s_OutOfRange_InvalidAim, h10_⟩ := He.ba h10_
  have s_OutOfRange_InvalidAim := of_decide_eq_true s_OutOfRange_InvalidAim
  obtain ⟨s_OutOfRange_InvalidGame, h10_⟩ := He.ba h10_
  have s_OutOfRange_InvalidGame := of_decide_eq_true s_OutOfRange_InvalidGame
  obtain ⟨s_OutOfRange_ValueError, h10_⟩ := He.ba h10_
  have s_OutOfRange_ValueError := of_decide_eq_true s_OutOfRange_ValueError
  obtain ⟨s_OutOfRange_SizeMismatch, h10_⟩ := He.ba h10_
  have s_OutOfRange_SizeMismatch := of_decide_eq_true s_OutOfRange_SizeMismatch
  obtain ⟨s_OutOfRange_TooLarge, h10_⟩ := He.ba h10_
  have s_OutOfRange_TooLarge := of_decide_eq_true s_OutOfRange_TooLarge
  obtain ⟨s_OutOfRange_ChoosersError, h10_⟩ := He.ba h10_
  have s_OutOfRange_ChoosersError := of_decide_eq_true s_OutOfRange_ChoosersError
  obtain ⟨kc_TooLarge, h10_⟩ := He.ba h10_
  obtain ⟨e_TooLarge, h10_⟩ := He.ba h10_
  have e_TooLarge := of_decide_eq_true e_TooLarge
  obtain ⟨t_TooLarge, h10_⟩ := He.ba h10_
  have t_TooLarge := of_decide_eq_true t_TooLarge
  obtain ⟨hg_TooLarge, h10_⟩ := He.ba h10_
  have hg_TooLarge := He.eqO_ok hg_TooLarge
  obtain ⟨hk_TooLarge, h10_⟩ := He.ba h10_
  have hk_TooLarge := He.eqO_ok hk_TooLarge
  have hd_TooLarge := h10_
  obtain ⟨ha_TooLarge, h11_⟩ := He.ba h11_
  have ha_TooLarge := He.eqO_ok ha_TooLarge
  obtain ⟨hm_TooLarge, h11_⟩ := He.ba h11_
  have hm_TooLarge := of_decide_eq_true hm_TooLarge
  obtain ⟨s_TooLarge_TooLarge, h11_⟩ := He.ba h11_
  have s_TooLarge_TooLarge := of_decide_eq_true s_TooLarge_TooLarge
  obtain ⟨s_TooLarge_InvalidQuery, h11_⟩ := He.ba h11_
  have s_TooLarge_InvalidQuery := of_decide_eq_true s_TooLarge_InvalidQuery
  obtain ⟨s_TooLarge_InvalidTerm, h11_⟩ := He.ba h11_
  have s_TooLarge_InvalidTerm := of_decide_eq_true s_TooLarge_InvalidTerm
  obtain ⟨s_TooLarge_InvalidAim, h11_⟩ := He.ba h11_
  have s_TooLarge_InvalidAim := of_decide_eq_true s_TooLarge_InvalidAim
  obtain ⟨s_TooLarge_InvalidGame, h11_⟩ := He.ba h11_
  have s_TooLarge_InvalidGame := of_decide_eq_true s_TooLarge_InvalidGame
  obtain ⟨s_TooLarge_ValueError, h11_⟩ := He.ba h11_
  have s_TooLarge_ValueError := of_decide_eq_true s_TooLarge_ValueError
  obtain ⟨s_TooLarge_SizeMismatch, h11_⟩ := He.ba h11_
  have s_TooLarge_SizeMismatch := of_decide_eq_true s_TooLarge_SizeMismatch
  obtain ⟨s_TooLarge_OutOfRange, h11_⟩ := He.ba h11_
  have s_TooLarge_OutOfRange := of_decide_eq_true s_TooLarge_OutOfRange
  obtain ⟨s_TooLarge_ChoosersError, h11_⟩ := He.ba h11_
  have s_TooLarge_ChoosersError := of_decide_eq_true s_TooLarge_ChoosersError
  obtain ⟨kc_SizeMismatch, h11_⟩ := He.ba h11_
  obtain ⟨e_SizeMismatch, h11_⟩ := He.ba h11_
  have e_SizeMismatch := of_decide_eq_true e_SizeMismatch
  obtain ⟨t_SizeMismatch, h11_⟩ := He.ba h11_
  have t_SizeMismatch := of_decide_eq_true t_SizeMismatch
  obtain ⟨hg_SizeMismatch, h11_⟩ := He.ba h11_
  have hg_SizeMismatch := He.eqO_ok hg_SizeMismatch
  obtain ⟨hk_SizeMismatch, h11_⟩ := He.ba h11_
  have hk_SizeMismatch := He.eqO_ok hk_SizeMismatch
  obtain ⟨hd_SizeMismatch, h11_⟩ := He.ba h11_
  obtain ⟨ha_SizeMismatch, h11_⟩ := He.ba h11_
  have ha_SizeMismatch := He.eqO_ok ha_SizeMismatch
  obtain ⟨hm_SizeMismatch, h11_⟩ := He.ba h11_
  have hm_SizeMismatch := of_decide_eq_true hm_SizeMismatch
  obtain ⟨s_SizeMismatch_SizeMismatch, h11_⟩ := He.ba h11_
  have s_SizeMismatch_SizeMismatch := of_decide_eq_true s_SizeMismatch_SizeMismatch
  obtain ⟨s_SizeMismatch_InvalidQuery, h11_⟩ := He.ba h11_
  have s_SizeMismatch_InvalidQuery := of_decide_eq_true s_SizeMismatch_InvalidQuery
  obtain ⟨s_SizeMismatch_InvalidTerm, h11_⟩ := He.ba h11_
  have s_SizeMismatch_InvalidTerm := of_decide_eq_true s_SizeMismatch_InvalidTerm
  obtain ⟨s_SizeMismatch_InvalidAim, h11_⟩ := He.ba h11_
  have s_SizeMismatch_InvalidAim := of_decide_eq_true s_SizeMismatch_InvalidAim
  obtain ⟨s_SizeMismatch_InvalidGame, h11_⟩ := He.ba h11_
  have s_SizeMismatch_InvalidGame := of_decide_eq_true s_SizeMismatch_InvalidGame
  have s_SizeMismatch_ValueError := h11_
  have s_SizeMismatch_ValueError := of_decide_eq_true s_SizeMismatch_ValueError
  obtain ⟨s_SizeMismatch_OutOfRange, h12_⟩ := He.ba h12_
  have s_SizeMismatch_OutOfRange := of_decide_eq_true s_SizeMismatch_OutOfRange
  obtain ⟨s_SizeMismatch_TooLarge, h12_⟩ := He.ba h12_
  have s_SizeMismatch_TooLarge := of_decide_eq_true s_SizeMismatch_TooLarge
  obtain ⟨s_SizeMismatch_ChoosersError, h12_⟩ := He.ba h12_
  have s_SizeMismatch_ChoosersError := of_decide_eq_true s_SizeMismatch_ChoosersError
  obtain ⟨kc_InvalidQuery, h12_⟩ := He.ba h12_
  obtain ⟨e_InvalidQuery, h12_⟩ := He.ba h12_
  have e_InvalidQuery := of_decide_eq_true e_InvalidQuery
  obtain ⟨t_InvalidQuery, h12_⟩ := He.ba h12_
  have t_InvalidQuery := of_decide_eq_true t_InvalidQuery
  obtain ⟨hg_InvalidQuery, h12_⟩ := He.ba h12_
  have hg_InvalidQuery := He.eqO_ok hg_InvalidQuery
  obtain ⟨hk_InvalidQuery, h12_⟩ := He.ba h12_
  have hk_InvalidQuery := He.eqO_ok hk_InvalidQuery
  obtain ⟨hd_InvalidQuery, h12_⟩ := He.ba h12_
  obtain ⟨ha_InvalidQuery, h12_⟩ := He.ba h12_
  have ha_InvalidQuery := He.eqO_ok ha_InvalidQuery
  obtain ⟨hm_InvalidQuery, h12_⟩ := He.ba h12_
  have hm_InvalidQuery := of_decide_eq_true hm_InvalidQuery
  obtain ⟨s_InvalidQuery_InvalidQuery, h12_⟩ := He.ba h12_
  have s_InvalidQuery_InvalidQuery := of_decide_eq_true s_InvalidQuery_InvalidQuery
  obtain ⟨s_InvalidQuery_InvalidTerm, h12_⟩ := He.ba h12_
  have s_InvalidQuery_InvalidTerm := of_decide_eq_true s_InvalidQuery_InvalidTerm
  obtain ⟨s_InvalidQuery_InvalidAim, h12_⟩ := He.ba h12_
  have s_InvalidQuery_InvalidAim := of_decide_eq_true s_InvalidQuery_InvalidAim
  obtain ⟨s_InvalidQuery_InvalidGame, h12_⟩ := He.ba h12_
  have s_InvalidQuery_InvalidGame := of_decide_eq_true s_InvalidQuery_InvalidGame
  obtain ⟨s_InvalidQuery_ValueError, h12_⟩ := He.ba h12_
  have s_InvalidQuery_ValueError := of_decide_eq_true s_InvalidQuery_ValueError
  obtain ⟨s_InvalidQuery_SizeMismatch, h12_⟩ := He.ba h12_
  have s_InvalidQuery_SizeMismatch := of_decide_eq_true s_InvalidQuery_SizeMismatch
  obtain ⟨s_InvalidQuery_OutOfRange, h12_⟩ := He.ba h12_
  have s_InvalidQuery_OutOfRange := of_decide_eq_true s_InvalidQuery_OutOfRange
  obtain ⟨s_InvalidQuery_TooLarge, h12_⟩ := He.ba h12_
  have s_InvalidQuery_TooLarge := of_decide_eq_true s_InvalidQuery_TooLarge
  obtain ⟨s_InvalidQuery_ChoosersError, h12_⟩ := He.ba h12_
  have s_InvalidQuery_ChoosersError := of_decide_eq_true s_InvalidQuery_ChoosersError
  obtain ⟨ic_InvalidQuery, h12_⟩ := He.ba h12_
  have ic_InvalidQuery := He.eqO_ok ic_InvalidQuery
  obtain ⟨ini_InvalidQuery, h12_⟩ := He.ba h12_
  obtain ⟨ti_InvalidQuery, h12_⟩ := He.ba h12_
  have ti_InvalidQuery := of_decide_eq_true ti_InvalidQuery
  obtain ⟨no_InvalidQuery, h12_⟩ := He.ba h12_
  have no_InvalidQuery := He.eqO_ok no_InvalidQuery
  have own_InvalidQuery := h12_
  obtain ⟨sb_InvalidQuery, h13_⟩ := He.ba h13_
  have sb_InvalidQuery := of_decide_eq_true sb_InvalidQuery
  obtain ⟨ve_InvalidQuery, h13_⟩ := He.ba h13_
  have ve_InvalidQuery := of_decide_eq_true ve_InvalidQuery
  obtain ⟨sup_InvalidQuery, h13_⟩ := He.ba h13_
  have sup_InvalidQuery := He.eqO_ok sup_InvalidQuery
  obtain ⟨ob_InvalidQuery, h13_⟩ := He.ba h13_
  have ob_InvalidQuery := excB_ok ob_InvalidQuery
  obtain ⟨sa_InvalidQuery, h13_⟩ := He.ba h13_
  have sa_InvalidQuery := He.eqO_ok sa_InvalidQuery
  obtain ⟨q_OutOfRange, h13_⟩ := He.ba h13_
  obtain ⟨q_TooLarge, h13_⟩ := He.ba h13_
  obtain ⟨q_SizeMismatch, h13_⟩ := He.ba h13_
  obtain ⟨q_InvalidQuery, h13_⟩ := He.ba h13_
  obtain ⟨q_InvalidTerm, h13_⟩ := He.ba h13_
  obtain ⟨t_InvalidTerm, h13_⟩ := He.ba h13_
  have t_InvalidTerm := of_decide_eq_true t_InvalidTerm
  obtain ⟨q_InvalidAim, h13_⟩ := He.ba h13_
  obtain ⟨t_InvalidAim, h13_⟩ := He.ba h13_
  have t_InvalidAim := of_decide_eq_true t_InvalidAim
  obtain ⟨q_InvalidGame, h13_⟩ := He.ba h13_
  obtain ⟨t_InvalidGame, h13_⟩ := He.ba h13_
  have t_InvalidGame := of_decide_eq_true t_InvalidGame
  obtain ⟨q_ChoosersError, h13_⟩ := He.ba h13_
  obtain ⟨t_ChoosersError, h13_⟩ := He.ba h13_
  have t_ChoosersError := of_decide_eq_true t_ChoosersError
  obtain ⟨e_ChoosersError, h13_⟩ := He.ba h13_
  have e_ChoosersError := of_decide_eq_true e_ChoosersError
  obtain ⟨hd_ChoosersError, h13_⟩ := He.ba h13_
  obtain ⟨hn_, h13_⟩ := He.ba h13_
  have hn_ := He.eqO_ok hn_
  obtain ⟨ht_, h13_⟩ := He.ba h13_
  have ht_ := of_decide_eq_true ht_
  obtain ⟨pg_Query, h13_⟩ := He.ba h13_
  obtain ⟨hdc_Query, h13_⟩ := He.ba h13_
  obtain ⟨po_Query, h13_⟩ := He.ba h13_
  have sac_Query := h13_
  have sac_Query := He.eqO_ok sac_Query
  obtain ⟨mk_Query, h14_⟩ := He.ba h14_
  obtain ⟨kcc_Query, h14_⟩ := He.ba h14_
  obtain ⟨sf_Query, h14_⟩ := He.ba h14_
  obtain ⟨fn_Query___call__, h14_⟩ := He.ba h14_
  obtain ⟨na_Query_term, h14_⟩ := He.ba h14_
  have na_Query_term := He.eqO_ok na_Query_term
  obtain ⟨na_Query_widths, h14_⟩ := He.ba h14_
  have na_Query_widths := He.eqO_ok na_Query_widths
  obtain ⟨na_Query_outcomes, h14_⟩ := He.ba h14_
  have na_Query_outcomes := He.eqO_ok na_Query_outcomes
  obtain ⟨rdc_Query, h14_⟩ := He.ba h14_
  obtain ⟨rga_Query, h14_⟩ := He.ba h14_
  have rga_Query := He.eqO_ok rga_Query
  obtain ⟨cv_Query_MOST_LEVELS, h14_⟩ := He.ba h14_
  obtain ⟨_, cv_Query_MOST_LEVELS⟩ := cvB_ok cv_Query_MOST_LEVELS
  obtain ⟨cv_Query_MOST_LOOKS, h14_⟩ := He.ba h14_
  obtain ⟨_, cv_Query_MOST_LOOKS⟩ := cvB_ok cv_Query_MOST_LOOKS
  obtain ⟨cv_Query_MOST_CHOICES, h14_⟩ := He.ba h14_
  obtain ⟨_, cv_Query_MOST_CHOICES⟩ := cvB_ok cv_Query_MOST_CHOICES
  obtain ⟨pg_Row, h14_⟩ := He.ba h14_
  obtain ⟨hdc_Row, h14_⟩ := He.ba h14_
  obtain ⟨po_Row, h14_⟩ := He.ba h14_
  obtain ⟨sac_Row, h14_⟩ := He.ba h14_
  have sac_Row := He.eqO_ok sac_Row
  obtain ⟨mk_Row, h14_⟩ := He.ba h14_
  obtain ⟨kcc_Row, h14_⟩ := He.ba h14_
  obtain ⟨fn_Row___getitem__, h14_⟩ := He.ba h14_
  obtain ⟨na_Row_head, h14_⟩ := He.ba h14_
  have na_Row_head := He.eqO_ok na_Row_head
  have na_Row_cycle := h14_
  have na_Row_cycle := He.eqO_ok na_Row_cycle
  have e := hfa.symm.trans (PySem.W.mg_of X G a65)
  cases e
  obtain ⟨_, F0⟩ := fun_of FI0 c0
  have b0 := F0.binds (ps := ["value"]) fun _ _ _ _ _ _ us hl => match us, hl with | [_], _ => rfl
  obtain ⟨_, F1⟩ := fun_of FI1 c1
  have b1 := F1.binds (ps := ["value", "limit"]) fun _ _ _ _ _ _ us hl => match us, hl with | [_, _], _ => rfl
  obtain ⟨_, F2⟩ := fun_of FI2 c2
  have b2 := F2.binds (ps := ["widths"]) fun _ _ _ _ _ _ us hl => match us, hl with | [_], _ => rfl
  obtain ⟨_, F3⟩ := fun_of FI3 c3
  have b3 := F3.binds (ps := ["outcomes"]) fun _ _ _ _ _ _ us hl => match us, hl with | [_], _ => rfl
  obtain ⟨_, F4⟩ := fun_of FI4 c4
  have b4 := F4.binds (ps := ["widths", "place"]) fun _ _ _ _ _ _ us hl => match us, hl with | [_, _], _ => rfl
  obtain ⟨_, F5⟩ := fun_of FI5 c5
  have b5 := F5.binds (ps := ["term"]) fun _ _ _ _ _ _ us hl => match us, hl with | [_], _ => rfl
  obtain ⟨_, F6⟩ := fun_of FI6 c6
  have b6 := F6.binds (ps := ["widths"]) fun _ _ _ _ _ _ us hl => match us, hl with | [_], _ => rfl
  obtain ⟨_, F7⟩ := fun_of FI7 c7
  have b7 := F7.binds (ps := ["widths", "outcomes"]) fun _ _ _ _ _ _ us hl => match us, hl with | [_, _], _ => rfl
  obtain ⟨_, F8⟩ := fun_of FI8 c8
  have b8 := F8.binds (ps := ["term", "widths", "level"]) fun _ _ _ _ _ _ us hl => match us, hl with | [_, _, _], _ => rfl
  obtain ⟨_, F9⟩ := fun_of FI9 c9
  have b9 := F9.binds (ps := ["term", "widths", "outcomes", "level"]) fun _ _ _ _ _ _ us hl => match us, hl with | [_, _, _, _], _ => rfl
  obtain ⟨_, F10⟩ := fun_of FI10 c10
  have b10 := F10.binds (ps := ["term"]) fun _ _ _ _ _ _ us hl => match us, hl with | [_], _ => rfl
  obtain ⟨_, F11⟩ := fun_of FI11 c11
  have b11 := F11.binds (ps := ["places", "widths"]) fun _ _ _ _ _ _ us hl => match us, hl with | [_, _], _ => rfl
  obtain ⟨_, F12⟩ := fun_of FI12 c12
  have b12 := F12.binds (ps := ["query", "row"]) fun _ _ _ _ _ _ us hl => match us, hl with | [_, _], _ => rfl
  obtain ⟨_, F13⟩ := fun_of FI13 c13
  have b13 := F13.binds (ps := ["item", "length", "limit"]) fun _ _ _ _ _ _ us hl => match us, hl with | [_, _, _], _ => rfl
  obtain ⟨_, F14⟩ := fun_of FI14 c14
  have b14 := F14.binds (ps := ["term", "place", "option"]) fun _ _ _ _ _ _ us hl => match us, hl with | [_, _, _], _ => rfl
  obtain ⟨_, F15⟩ := fun_of FI15 c15
  have b15 := F15.binds (ps := ["term"]) fun _ _ _ _ _ _ us hl => match us, hl with | [_], _ => rfl
  obtain ⟨_, F16⟩ := fun_of FI16 c16
  have b16 := F16.binds (ps := ["term", "terms"]) fun _ _ _ _ _ _ us hl => match us, hl with | [_, _], _ => rfl
  obtain ⟨_, F17⟩ := fun_of FI17 c17
  have b17 := F17.binds (ps := ["term", "outcomes"]) fun _ _ _ _ _ _ us hl => match us, hl with | [_, _], _ => rfl
  obtain ⟨_, F18⟩ := fun_of FI18 c18
  have b18 := F18.binds (ps := ["first", "second"]) fun _ _ _ _ _ _ us hl => match us, hl with | [_, _], _ => rfl
  obtain ⟨_, F19⟩ := fun_of FI19 c19
  have b19 := F19.binds (ps := ["query"]) fun _ _ _ _ _ _ us hl => match us, hl with | [_], _ => rfl
  obtain ⟨_, F20⟩ := fun_of FI20 c20
  have b20 := F20.binds (ps := ["first", "second"]) fun _ _ _ _ _ _ us hl => match us, hl with | [_, _], _ => rfl
  obtain ⟨_, F21⟩ := fun_of FI21 c21
  have b21 := F21.binds (ps := ["self", "term", "widths", "outcomes"]) fun _ _ _ _ _ _ us hl => match us, hl with | [_, _, _, _], _ => rfl
  obtain ⟨_, F22⟩ := fun_of FI22 c22
  have b22 := F22.binds (ps := ["self", "row"]) fun _ _ _ _ _ _ us hl => match us, hl with | [_, _], _ => rfl
  obtain ⟨_, F23⟩ := fun_of FI23 c23
  have b23 := F23.binds (ps := ["self"]) fun _ _ _ _ _ _ us hl => match us, hl with | [_], _ => rfl
  obtain ⟨_, F24⟩ := fun_of FI24 c24
  have b24 := F24.binds (ps := ["self", "other"]) fun _ _ _ _ _ _ us hl => match us, hl with | [_, _], _ => rfl
  obtain ⟨_, F25⟩ := fun_of FI25 c25
  have b25 := F25.binds (ps := ["self", "other"]) fun _ _ _ _ _ _ us hl => match us, hl with | [_, _], _ => rfl
  obtain ⟨_, F26⟩ := fun_of FI26 c26
  have b26 := F26.binds (ps := ["self", "other"]) fun _ _ _ _ _ _ us hl => match us, hl with | [_, _], _ => rfl
  obtain ⟨_, F27⟩ := fun_of FI27 c27
  have b27 := F27.binds (ps := ["query", "place", "option"]) fun _ _ _ _ _ _ us hl => match us, hl with | [_, _, _], _ => rfl
  obtain ⟨_, F28⟩ := fun_of FI28 c28
  have b28 := F28.binds (ps := ["query", "option"]) fun _ _ _ _ _ _ us hl => match us, hl with | [_, _], _ => rfl
  obtain ⟨_, F29⟩ := fun_of FI29 c29
  have b29 := F29.binds (ps := ["first", "second", "table", "outcomes"]) fun _ _ _ _ _ _ us hl => match us, hl with | [_, _, _, _], _ => rfl
  obtain ⟨_, F30⟩ := fun_of FI30 c30
  have b30 := F30.binds (ps := ["cycle"]) fun _ _ _ _ _ _ us hl => match us, hl with | [_], _ => rfl
  obtain ⟨_, F31⟩ := fun_of FI31 c31
  have b31 := F31.binds (ps := ["cycle", "count"]) fun _ _ _ _ _ _ us hl => match us, hl with | [_, _], _ => rfl
  obtain ⟨_, F32⟩ := fun_of FI32 c32
  have b32 := F32.binds (ps := ["head", "cycle"]) fun _ _ _ _ _ _ us hl => match us, hl with | [_, _], _ => rfl
  obtain ⟨_, F33⟩ := funD_of FI33 c33
  have b33 := binds_full (F33.binds1 (ps := ["self", "head", "cycle"]) 3 1 (by nofun) rfl fun _ _ _ _ _ _ _ us its hu hi => match us, its, hu, hi with | [_, _, _], [_], _, _ => ⟨_, rfl, rfl⟩)
  have bd33 := F33.binds1 (ps := ["self", "head", "cycle"]) 2 0 (by nofun) rfl fun _ _ _ _ _ _ _ us its hu hi => match us, its, hu, hi with | [_, _], [_], _, _ => ⟨_, rfl, rfl⟩
  obtain ⟨_, F34⟩ := fun_of FI34 c34
  have b34 := F34.binds (ps := ["self", "at"]) fun _ _ _ _ _ _ us hl => match us, hl with | [_, _], _ => rfl
  obtain ⟨_, F35⟩ := fun_of FI35 c35
  have b35 := F35.binds (ps := ["self"]) fun _ _ _ _ _ _ us hl => match us, hl with | [_], _ => rfl
  obtain ⟨_, F36⟩ := fun_of FI36 c36
  have b36 := F36.binds (ps := ["self", "count"]) fun _ _ _ _ _ _ us hl => match us, hl with | [_, _], _ => rfl
  obtain ⟨_, F37⟩ := fun_of FI37 c37
  have b37 := F37.binds (ps := ["_law_script"]) fun _ _ _ _ _ _ us hl => match us, hl with | [_], _ => rfl
  obtain ⟨_, F38⟩ := fun_of FI38 c38
  have b38 := F38.binds (ps := ["_law_state", "_law_limit"]) fun _ _ _ _ _ _ us hl => match us, hl with | [_, _], _ => rfl
  obtain ⟨_, F39⟩ := fun_of FI39 c39
  have b39 := F39.binds (ps := ["_law_actual", "_law_due_here"]) fun _ _ _ _ _ _ us hl => match us, hl with | [_, _], _ => rfl
  obtain ⟨_, F40⟩ := fun_of FI40 c40
  have b40 := F40.binds (ps := ["_law_widths_here", "_law_place"]) fun _ _ _ _ _ _ us hl => match us, hl with | [_, _], _ => rfl
  obtain ⟨_, F41⟩ := fun_of FI41 c41
  have b41 := F41.binds (ps := ["_law_state"]) fun _ _ _ _ _ _ us hl => match us, hl with | [_], _ => rfl
  obtain ⟨_, F42⟩ := fun_of FI42 c42
  have b42 := F42.binds (ps := ["_law_state", "_law_widths_here", "_law_count", "_law_most"]) fun _ _ _ _ _ _ us hl => match us, hl with | [_, _, _, _], _ => rfl
  obtain ⟨_, F43⟩ := fun_of FI43 c43
  have b43 := F43.binds (ps := ["_law_state", "_law_size", "_law_places", "_law_levels"]) fun _ _ _ _ _ _ us hl => match us, hl with | [_, _, _, _], _ => rfl
  obtain ⟨_, F44⟩ := fun_of FI44 c44
  have b44 := F44.binds (ps := ["_law_state", "_law_widths_here"]) fun _ _ _ _ _ _ us hl => match us, hl with | [_, _], _ => rfl
  obtain ⟨_, F45⟩ := fun_of FI45 c45
  have b45 := F45.binds (ps := ["_law_row", "_law_place"]) fun _ _ _ _ _ _ us hl => match us, hl with | [_, _], _ => rfl
  obtain ⟨_, F46⟩ := fun_of FI46 c46
  have b46 := F46.binds (ps := ["_law_state", "_law_size", "_law_places"]) fun _ _ _ _ _ _ us hl => match us, hl with | [_, _, _], _ => rfl
  obtain ⟨_, F47⟩ := fun_of FI47 c47
  have b47 := F47.binds (ps := ["_law_state", "_law_size", "_law_places", "_law_levels"]) fun _ _ _ _ _ _ us hl => match us, hl with | [_, _, _, _], _ => rfl
  obtain ⟨_, F48⟩ := fun_of FI48 c48
  have b48 := F48.binds (ps := ["_law_term", "_law_terms_here"]) fun _ _ _ _ _ _ us hl => match us, hl with | [_, _], _ => rfl
  obtain ⟨_, F49⟩ := fun_of FI49 c49
  have b49 := F49.binds (ps := ["_law_term", "_law_place", "_law_option"]) fun _ _ _ _ _ _ us hl => match us, hl with | [_, _, _], _ => rfl
  obtain ⟨_, F50⟩ := fun_of FI50 c50
  have b50 := F50.binds (ps := ["_law_term"]) fun _ _ _ _ _ _ us hl => match us, hl with | [_], _ => rfl
  obtain ⟨_, F51⟩ := fun_of FI51 c51
  have b51 := F51.binds (ps := ["_law_term", "_law_row"]) fun _ _ _ _ _ _ us hl => match us, hl with | [_, _], _ => rfl
  obtain ⟨_, F52⟩ := fun_of FI52 c52
  have b52 := F52.binds (ps := ["_law_term", "_law_path"]) fun _ _ _ _ _ _ us hl => match us, hl with | [_, _], _ => rfl
  obtain ⟨_, F53⟩ := fun_of FI53 c53
  have b53 := F53.binds (ps := ["_law_term"]) fun _ _ _ _ _ _ us hl => match us, hl with | [_], _ => rfl
  obtain ⟨_, F54⟩ := fun_of FI54 c54
  have b54 := F54.binds (ps := ["_law_term", "_law_places"]) fun _ _ _ _ _ _ us hl => match us, hl with | [_, _], _ => rfl
  obtain ⟨_, F55⟩ := fun_of FI55 c55
  have b55 := F55.binds (ps := ["_law_term", "_law_widths_here", "_law_outcomes"]) fun _ _ _ _ _ _ us hl => match us, hl with | [_, _, _], _ => rfl
  obtain ⟨_, F56⟩ := fun_of FI56 c56
  have b56 := F56.binds (ps := ["_law_how", "_law_first", "_law_second", "_law_one", "_law_other"]) fun _ _ _ _ _ _ us hl => match us, hl with | [_, _, _, _, _], _ => rfl
  obtain ⟨_, F57⟩ := fun_of FI57 c57
  have b57 := F57.binds (ps := ["_law_how", "_law_first", "_law_second", "_law_one", "_law_other"]) fun _ _ _ _ _ _ us hl => match us, hl with | [_, _, _, _, _], _ => rfl
  obtain ⟨_, F58⟩ := fun_of FI58 c58
  have b58 := F58.binds (ps := ["_law_first", "_law_second", "_law_table_here"]) fun _ _ _ _ _ _ us hl => match us, hl with | [_, _, _], _ => rfl
  obtain ⟨_, F59⟩ := fun_of FI59 c59
  have b59 := F59.binds (ps := ["_law_how", "_law_r", "_law_s", "_law_table_here"]) fun _ _ _ _ _ _ us hl => match us, hl with | [_, _, _, _], _ => rfl
  obtain ⟨_, F60⟩ := fun_of FI60 c60
  have b60 := F60.binds (ps := ["_law_state", "_law_rows", "_law_columns", "_law_outcomes"]) fun _ _ _ _ _ _ us hl => match us, hl with | [_, _, _, _], _ => rfl
  obtain ⟨_, F61⟩ := fun_of FI61 c61
  have b61 := F61.binds (ps := ["_law_state", "_law_widths_here", "_law_terms_here", "_law_table_here", "_law_outcomes"]) fun _ _ _ _ _ _ us hl => match us, hl with | [_, _, _, _, _], _ => rfl
  obtain ⟨_, F62⟩ := fun_of FI62 c62
  have b62 := F62.binds (ps := ["_law_state", "_law_widths_here", "_law_places", "_law_outcomes"]) fun _ _ _ _ _ _ us hl => match us, hl with | [_, _, _, _], _ => rfl
  obtain ⟨_, F63⟩ := fun_of FI63 c63
  have b63 := F63.binds (ps := ["_law_state", "_law_query", "_law_term", "_law_widths_here", "_law_k"]) fun _ _ _ _ _ _ us hl => match us, hl with | [_, _, _, _, _], _ => rfl
  obtain ⟨_, F64⟩ := fun_of FI64 c64
  have b64 := F64.binds (ps := ["_law_state", "_law_query", "_law_term", "_law_widths_here", "_law_k"]) fun _ _ _ _ _ _ us hl => match us, hl with | [_, _, _, _, _], _ => rfl
  obtain ⟨fdl_, F65⟩ := fun_of FI65 c65
  have b65 := F65.binds (ps := ["_law_script"]) fun _ _ _ _ _ _ us hl => match us, hl with | [_], _ => rfl
  obtain ⟨_, _, _, _, _, _, _, _, _, cc_InvalidQuery, li_InvalidQuery, cdi_InvalidQuery, cell_InvalidQuery, code_InvalidQuery⟩ := init_of I_InvalidQuery ini_InvalidQuery
  have ox_InvalidQuery : OexC K c_InvalidQuery := ⟨ob_InvalidQuery, sa_InvalidQuery, e_InvalidQuery, t_InvalidQuery, kc_InvalidQuery⟩
  have su_InvalidQuery : SupC K c_InvalidQuery c_InvalidTerm cc_InvalidQuery fi_InvalidQuery _ fileP := ⟨ox_InvalidQuery, cell_InvalidQuery, own_InvalidQuery, sb_InvalidQuery, ve_InvalidQuery, opq_, sup_InvalidQuery, code_InvalidQuery⟩
  have bl_ : ∀ (s : Shared) (v : Value), BindsTo s fdl_ ⟨[v], []⟩ [("_law_script", v)] := fun s v => by
    obtain ⟨⟨_, _, _, _, _, _, _, _, _, e, _, _⟩, _⟩ := F65
    rw [e]
    exact .of_eq rfl
  exact ⟨_, bl_, fun base _ _ => ok_law (⟨f0, _, F0, PySem.W.mg_of X G a0, b0,
    f1, _, F1, PySem.W.mg_of X G a1, b1,
    f2, _, F2, PySem.W.mg_of X G a2, b2,
    f3, _, F3, PySem.W.mg_of X G a3, b3,
    f4, _, F4, PySem.W.mg_of X G a4, b4,
    f5, _, F5, PySem.W.mg_of X G a5, b5,
    f6, _, F6, PySem.W.mg_of X G a6, b6,
    f7, _, F7, PySem.W.mg_of X G a7, b7,
    f8, _, F8, PySem.W.mg_of X G a8, b8,
    f9, _, F9, PySem.W.mg_of X G a9, b9,
    f10, _, F10, PySem.W.mg_of X G a10, b10,
    f11, _, F11, PySem.W.mg_of X G a11, b11,
    f12, _, F12, PySem.W.mg_of X G a12, b12,
    f13, _, F13, PySem.W.mg_of X G a13, b13,
    f14, _, F14, PySem.W.mg_of X G a14, b14,
    f15, _, F15, PySem.W.mg_of X G a15, b15,
    f16, _, F16, PySem.W.mg_of X G a16, b16,
    f17, _, F17, PySem.W.mg_of X G a17, b17,
    f18, _, F18, PySem.W.mg_of X G a18, b18,
    f19, _, F19, PySem.W.mg_of X G a19, b19,
    f20, _, F20, PySem.W.mg_of X G a20, b20,
    f21, _, F21, b21,
    f22, _, F22, b22,
    f23, _, F23, b23,
    f24, _, F24, b24,
    f25, _, F25, b25,
    f26, _, F26, b26,
    f27, _, F27, PySem.W.mg_of X G a27, b27,
    f28, _, F28, PySem.W.mg_of X G a28, b28,
    f29, _, F29, PySem.W.mg_of X G a29, b29,
    f30, _, F30, PySem.W.mg_of X G a30, b30,
    f31, _, F31, PySem.W.mg_of X G a31, b31,
    f32, _, F32, PySem.W.mg_of X G a32, b32,
    dA33, dt33, f33, _, F33, b33, bd33,
    f34, _, F34, b34,
    f35, _, F35, b35,
    f36, _, F36, b36,
    f37, _, F37, PySem.W.mg_of X G a37, b37,
    f38, _, F38, PySem.W.mg_of X G a38, b38,
    f39, _, F39, PySem.W.mg_of X G a39, b39,
    f40, _, F40, PySem.W.mg_of X G a40, b40,
    f41, _, F41, PySem.W.mg_of X G a41, b41,
    f42, _, F42, PySem.W.mg_of X G a42, b42,
    f43, _, F43, PySem.W.mg_of X G a43, b43,
    f44, _, F44, PySem.W.mg_of X G a44, b44,
    f45, _, F45, PySem.W.mg_of X G a45, b45,
    f46, _, F46, PySem.W.mg_of X G a46, b46,
    f47, _, F47, PySem.W.mg_of X G a47, b47,
    f48, _, F48, PySem.W.mg_of X G a48, b48,
    f49, _, F49, PySem.W.mg_of X G a49, b49,
    f50, _, F50, PySem.W.mg_of X G a50, b50,
    f51, _, F51, PySem.W.mg_of X G a51, b51,
    f52, _, F52, PySem.W.mg_of X G a52, b52,
    f53, _, F53, PySem.W.mg_of X G a53, b53,
    f54, _, F54, PySem.W.mg_of X G a54, b54,
    f55, _, F55, PySem.W.mg_of X G a55, b55,
    f56, _, F56, PySem.W.mg_of X G a56, b56,
    f57, _, F57, PySem.W.mg_of X G a57, b57,
    f58, _, F58, PySem.W.mg_of X G a58, b58,
    f59, _, F59, PySem.W.mg_of X G a59, b59,
    f60, _, F60, PySem.W.mg_of X G a60, b60,
    f61, _, F61, PySem.W.mg_of X G a61, b61,
    f62, _, F62, PySem.W.mg_of X G a62, b62,
    f63, _, F63, PySem.W.mg_of X G a63, b63,
    f64, _, F64, PySem.W.mg_of X G a64, b64,
    fa, _, F65, PySem.W.mg_of X G a65, b65,
    PySem.W.mg_none_of X G z_isinstance,
    PySem.W.mg_none_of X G z_int,
    PySem.W.mg_none_of X G z_bool,
    PySem.W.mg_none_of X G z_all,
    PySem.W.mg_none_of X G z_str,
    PySem.W.mg_none_of X G z_len,
    PySem.W.mg_none_of X G z_enumerate,
    PySem.W.mg_none_of X G z_tuple,
    PySem.W.mg_none_of X G z_sorted,
    PySem.W.mg_none_of X G z_set,
    PySem.W.mg_none_of X G z_range,
    PySem.W.mg_none_of X G z_list,
    PySem.W.mg_none_of X G z_max,
    PySem.W.mg_none_of X G z_min,
    PySem.W.mg_none_of X G z_sum,
    PySem.W.mg_none_of X G z_ValueError,
    ⟨_, PySem.W.mg_of X G gc_LETTERS⟩,
    ⟨_, PySem.W.mg_of X G gc_DIGITS⟩,
    ⟨_, PySem.W.mg_of X G gc_LONGEST_WORD⟩,
    ⟨_, PySem.W.mg_of X G gc_LONGEST_NUMBER⟩,
    ⟨_, PySem.W.mg_of X G gc_NUMBERS_END⟩,
    ⟨_, PySem.W.mg_of X G gc_DEEPEST_TUPLE⟩,
    ⟨_, PySem.W.mg_of X G gc_MOST_OUTCOMES⟩,
    ⟨_, PySem.W.mg_of X G gc_MOST_WIDTHS⟩,
    ⟨_, PySem.W.mg_of X G gc_WIDEST⟩,
    ⟨_, PySem.W.mg_of X G gc_PLACES⟩,
    ⟨_, PySem.W.mg_of X G gc_ITEMS_BEFORE⟩,
    ⟨_, PySem.W.mg_of X G gc_TWO_OUTCOMES⟩,
    c_OutOfRange, PySem.W.mg_of X G g_OutOfRange,
    c_TooLarge, PySem.W.mg_of X G g_TooLarge,
    c_SizeMismatch, PySem.W.mg_of X G g_SizeMismatch,
    c_InvalidQuery, PySem.W.mg_of X G g_InvalidQuery,
    c_InvalidTerm, PySem.W.mg_of X G g_InvalidTerm,
    c_InvalidAim, PySem.W.mg_of X G g_InvalidAim,
    c_InvalidGame, PySem.W.mg_of X G g_InvalidGame,
    c_ChoosersError, PySem.W.mg_of X G g_ChoosersError,
    fi_InvalidQuery, _, ox_InvalidQuery, ic_InvalidQuery, ti_InvalidQuery, no_InvalidQuery, ⟨hg_InvalidQuery, hk_InvalidQuery, e_InvalidQuery, hd_InvalidQuery⟩, ⟨hg_InvalidQuery, hk_InvalidQuery, e_InvalidQuery, hd_InvalidQuery, ha_InvalidQuery, hn_, ht_, hm_InvalidQuery⟩, okinit_InvalidTerm li_InvalidQuery cdi_InvalidQuery su_InvalidQuery hP htop_ (PySem.W.mg_none_of X G z_super), Binds.all fun us hl => match us, hl with | [_, _], _ => rfl,
    kit_refS s_InvalidQuery_InvalidQuery q_InvalidQuery t_InvalidQuery s_InvalidQuery_InvalidQuery,
    kit_refS s_InvalidQuery_InvalidQuery q_InvalidTerm t_InvalidTerm s_InvalidQuery_InvalidTerm,
    kit_refS s_InvalidQuery_InvalidQuery q_InvalidAim t_InvalidAim s_InvalidQuery_InvalidAim,
    kit_refS s_InvalidQuery_InvalidQuery q_InvalidGame t_InvalidGame s_InvalidQuery_InvalidGame,
    kit_tyS rfl s_InvalidQuery_ValueError,
    kit_refS s_InvalidQuery_InvalidQuery q_SizeMismatch t_SizeMismatch s_InvalidQuery_SizeMismatch,
    kit_refS s_InvalidQuery_InvalidQuery q_OutOfRange t_OutOfRange s_InvalidQuery_OutOfRange,
    kit_refS s_InvalidQuery_InvalidQuery q_TooLarge t_TooLarge s_InvalidQuery_TooLarge,
    PySem.W.exm_ref e_ChoosersError hd_ChoosersError t_ChoosersError s_InvalidQuery_ChoosersError,
    x_OutOfRange, kc_OutOfRange, e_OutOfRange, t_OutOfRange, ⟨hg_OutOfRange, hk_OutOfRange, e_OutOfRange, hd_OutOfRange, ha_OutOfRange, hn_, ht_, hm_OutOfRange⟩,
    kit_refS s_OutOfRange_OutOfRange q_InvalidQuery t_InvalidQuery s_OutOfRange_InvalidQuery,
    kit_refS s_OutOfRange_OutOfRange q_InvalidTerm t_InvalidTerm s_OutOfRange_InvalidTerm,
    kit_refS s_OutOfRange_OutOfRange q_InvalidAim t_InvalidAim s_OutOfRange_InvalidAim,
    kit_refS s_OutOfRange_OutOfRange q_InvalidGame t_InvalidGame s_OutOfRange_InvalidGame,
    kit_tyS rfl s_OutOfRange_ValueError,
    kit_refS s_OutOfRange_OutOfRange q_SizeMismatch t_SizeMismatch s_OutOfRange_SizeMismatch,
    kit_refS s_OutOfRange_OutOfRange q_OutOfRange t_OutOfRange s_OutOfRange_OutOfRange,
    kit_refS s_OutOfRange_OutOfRange q_TooLarge t_TooLarge s_OutOfRange_TooLarge,
    PySem.W.exm_ref e_ChoosersError hd_ChoosersError t_ChoosersError s_OutOfRange_ChoosersError,
    x_TooLarge, kc_TooLarge, e_TooLarge, t_TooLarge, ⟨hg_TooLarge, hk_TooLarge, e_TooLarge, hd_TooLarge, ha_TooLarge, hn_, ht_, hm_TooLarge⟩,
    kit_refS s_TooLarge_TooLarge q_InvalidQuery t_InvalidQuery s_TooLarge_InvalidQuery,
    kit_refS s_TooLarge_TooLarge q_InvalidTerm t_InvalidTerm s_TooLarge_InvalidTerm,
    kit_refS s_TooLarge_TooLarge q_InvalidAim t_InvalidAim s_TooLarge_InvalidAim,
    kit_refS s_TooLarge_TooLarge q_InvalidGame t_InvalidGame s_TooLarge_InvalidGame,
    kit_tyS rfl s_TooLarge_ValueError,
    kit_refS s_TooLarge_TooLarge q_SizeMismatch t_SizeMismatch s_TooLarge_SizeMismatch,
    kit_refS s_TooLarge_TooLarge q_OutOfRange t_OutOfRange s_TooLarge_OutOfRange,
    kit_refS s_TooLarge_TooLarge q_TooLarge t_TooLarge s_TooLarge_TooLarge,
    PySem.W.exm_ref e_ChoosersError hd_ChoosersError t_ChoosersError s_TooLarge_ChoosersError,
    x_SizeMismatch, kc_SizeMismatch, e_SizeMismatch, t_SizeMismatch, ⟨hg_SizeMismatch, hk_SizeMismatch, e_SizeMismatch, hd_SizeMismatch, ha_SizeMismatch, hn_, ht_, hm_SizeMismatch⟩,
    kit_refS s_SizeMismatch_SizeMismatch q_InvalidQuery t_InvalidQuery s_SizeMismatch_InvalidQuery,
    kit_refS s_SizeMismatch_SizeMismatch q_InvalidTerm t_InvalidTerm s_SizeMismatch_InvalidTerm,
    kit_refS s_SizeMismatch_SizeMismatch q_InvalidAim t_InvalidAim s_SizeMismatch_InvalidAim,
    kit_refS s_SizeMismatch_SizeMismatch q_InvalidGame t_InvalidGame s_SizeMismatch_InvalidGame,
    kit_tyS rfl s_SizeMismatch_ValueError,
    kit_refS s_SizeMismatch_SizeMismatch q_SizeMismatch t_SizeMismatch s_SizeMismatch_SizeMismatch,
    kit_refS s_SizeMismatch_SizeMismatch q_OutOfRange t_OutOfRange s_SizeMismatch_OutOfRange,
    kit_refS s_SizeMismatch_SizeMismatch q_TooLarge t_TooLarge s_SizeMismatch_TooLarge,
    PySem.W.exm_ref e_ChoosersError hd_ChoosersError t_ChoosersError s_SizeMismatch_ChoosersError,
    c_Query, PySem.W.mg_of X G g_Query, ⟨mk_Query, a21, i21, kcc_Query⟩, ⟨pg_Query, hdc_Query, po_Query, sac_Query⟩,
    sf_Query,
    fn_Query___call__,
    na_Query_term,
    na_Query_widths,
    na_Query_outcomes,
    .type "type", ⟨rdc_Query, rga_Query⟩,
    ⟨_, cv_Query_MOST_LEVELS, ⟨_, rfl⟩⟩,
    ⟨_, cv_Query_MOST_LOOKS, ⟨_, rfl⟩⟩,
    ⟨_, cv_Query_MOST_CHOICES, ⟨_, rfl⟩⟩,
    ⟨a22, i22, k22⟩,
    ⟨a23, i23, k23⟩,
    ⟨a24, i24, k24⟩,
    ⟨a25, i25, k25⟩,
    ⟨a26, i26, k26⟩,
    c_Row, PySem.W.mg_of X G g_Row, ⟨mk_Row, a33, i33, kcc_Row⟩, ⟨pg_Row, hdc_Row, po_Row, sac_Row⟩,
    fn_Row___getitem__,
    na_Row_head,
    na_Row_cycle,
    ⟨a34, i34, k34⟩,
    ⟨a35, i35, k35⟩,
    ⟨a36, i36, k36⟩⟩ : Txt P w K mg)⟩
theorem sp_law_of {K : Fg} {H : Hp} {a : Addr} {ns : List Int} (hl : ns.length ≤ 63) (hS : SqL K H a (ns.map V.int)) : spOf K c_law [.ref a] H (fun v _ => v = .bl true) fun _ _ _ => False :=
  ⟨fun _ => none, [.scr ns], fun d _ => d = .bl true, fun _ _ => False, (fun _ _ z => nomatch z), .scr (hS.elim (fun q => .inl ⟨q, .of rfl⟩) fun q => .inr q) .nil, ⟨ns, rfl, hl, rfl⟩, fun v H' d μ' _ _ r e => by subst e; exact Rep.bl_inv r, fun _ _ _ _ _ _ _ _ z => z⟩
theorem facts {w : World} {K : PySem.W.Frag} {h : Heap} {mg : Str → Option Value} {fa : Addr} (X : K.In h) (G : h.Ns mainGlobals mg) (hfa : mg "law" = some (.ref fa)) (hc : ckA K = true) (hv : (atsA.map fun f => fnI K (f K)) = valsA) :
    ∃ fd : FuncData, (∀ (s : Shared) (v : Value), BindsTo s fd ⟨[v], []⟩ [("_law_script", v)]) ∧ ∀ base : Heap, K.In base → base.Ns mainGlobals mg → FnOk (PySem.Challenge.rw_choosersrow_k40_queries_combined).prog w K mg base (L2N.CX (PySem.Challenge.rw_choosersrow_k40_queries_combined).prog w) 70 fa fd ["_law_script"] (spOf K c_law) := by
  obtain ⟨h0_, hc⟩ := He.ba hc
  obtain ⟨h1_, hc⟩ := He.ba hc
  obtain ⟨h2_, hc⟩ := He.ba hc
  obtain ⟨h3_, hc⟩ := He.ba hc
  obtain ⟨h4_, hc⟩ := He.ba hc
  obtain ⟨h5_, hc⟩ := He.ba hc
  obtain ⟨h6_, hc⟩ := He.ba hc
  obtain ⟨h7_, hc⟩ := He.ba hc
  obtain ⟨h8_, hc⟩ := He.ba hc
  obtain ⟨h9_, hc⟩ := He.ba hc
  obtain ⟨h10_, hc⟩ := He.ba hc
  obtain ⟨h11_, hc⟩ := He.ba hc
  obtain ⟨h12_, hc⟩ := He.ba hc
  obtain ⟨h13_, hc⟩ := He.ba hc
  have h14_ := hc
  exact all_mk X G hfa (by kernel_rfl) (by kernel_rfl) (fn_at hv 0) (fn_at hv 1) (fn_at hv 2) (fn_at hv 3) (fn_at hv 4) (fn_at hv 5) (fn_at hv 6) (fn_at hv 7) (fn_at hv 8) (fn_at hv 9) (fn_at hv 10) (fn_at hv 11) (fn_at hv 12) (fn_at hv 13) (fn_at hv 14) (fn_at hv 15) (fn_at hv 16) (fn_at hv 17) (fn_at hv 18) (fn_at hv 19) (fn_at hv 20) (fn_at hv 21) (fn_at hv 22) (fn_at hv 23) (fn_at hv 24) (fn_at hv 25) (fn_at hv 26) (fn_at hv 27) (fn_at hv 28) (fn_at hv 29) (fn_at hv 30) (fn_at hv 31) (fn_at hv 32) (fn_at hv 33) (fn_at hv 34) (fn_at hv 35) (fn_at hv 36) (fn_at hv 37) (fn_at hv 38) (fn_at hv 39) (fn_at hv 40) (fn_at hv 41) (fn_at hv 42) (fn_at hv 43) (fn_at hv 44) (fn_at hv 45) (fn_at hv 46) (fn_at hv 47) (fn_at hv 48) (fn_at hv 49) (fn_at hv 50) (fn_at hv 51) (fn_at hv 52) (fn_at hv 53) (fn_at hv 54) (fn_at hv 55) (fn_at hv 56) (fn_at hv 57) (fn_at hv 58) (fn_at hv 59) (fn_at hv 60) (fn_at hv 61) (fn_at hv 62) (fn_at hv 63) (fn_at hv 64) (fn_at hv 65) (fn_at hv 66) h0_ h1_ h2_ h3_ h4_ h5_ h6_ h7_ h8_ h9_ h10_ h11_ h12_ h13_ h14_
end LW
open PySem PySem.W PySem.Calls PyProof.Rows in
set_option maxRecDepth 100000 in
set_option maxHeartbeats 0 in
theorem PySem.Challenge.cw_choosersrow_k40_queries_combined_holds : PySem.Challenge.rw_choosersrow_k40_queries_combined.Holds := by
  w_on; o_law
  refine HandSHeadRun.head_any (r := OpenLaw.row PySem.Challenge.rw_choosersrow_k40_queries_combined) (q := view (OpenLaw.row PySem.Challenge.rw_choosersrow_k40_queries_combined).prog [96]) (H := LW.hkA) (ob := LW.obA) (M := 20000) (loose := LW.namesA) (d := HandSHeadRun.topDef (OpenLaw.row PySem.Challenge.rw_choosersrow_k40_queries_combined).prog 96) (kwd := []) LW.obA_eq
    (by kernel_rfl) (fun s => by kernel_rfl) LW.runA (by kernel_rfl) (by kernel_rfl) (by kernel_rfl) (by rfl) (by first | assumption | decide +kernel) (by decide +kernel) ⟨rfl, rfl, rfl, rfl, rfl, by decide +kernel⟩ ?hw ?hc
  case hw => w_witness2
  case hc =>
    refine HX.walk_of (l := PySem.Challenge.rw_choosersrow_k40_queries_combined) (n := 63) (k := 70) (x := "_law_script") (CX := fun w => L2N.CX (PySem.Challenge.rw_choosersrow_k40_queries_combined).prog w) rfl (by decide) (by kernel_rfl) ⟨rfl, by decide, by decide⟩ ?F (fun _ _ _ _ _ h => by
      obtain ⟨_, _, _, _, _, _, _, _, _, _, _, _, z⟩ := h
      exact z)
    intro w mg fa h Y G hmg0
    obtain ⟨K, KX, hc, hv⟩ := Y
    have hmg : mg ("law" : PySem.Str) = some (.ref fa) := by
      have e : (HandSHeadRun.topDef (OpenLaw.row PySem.Challenge.rw_choosersrow_k40_queries_combined).prog 96).name = ("law" : PySem.Str) := by kernel_rfl
      rw [← e]
      exact hmg0
    obtain ⟨fd, hb, hF⟩ := LW.facts (w := w) KX G hmg hc hv
    exact ⟨K, fd, DW.spOf K LW.c_law, KX, hb, fun H a ns hl _ hS => LW.sp_law_of hl hS, hF⟩
