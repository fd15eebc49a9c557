import PyProof.Rows.All
import HandS.ForMost
import HandS.TupAny
import HandS.TupMul
import HandS.ForExc
import HandS.EndBits
import HandS.Wide
import HandS.WideBits
import HandS.Zip
import HandS.IsInst
import HandS.ExcIs
import HandS.Flow
import HandS.Strs
import HandS.Conv
import HandS.Style
import HandS.GenList
import HandS.ExcCtx
import HandS.Hot
import HandS.HotCalls
import HandS.WordsExc
import HandS.Text
import HandS.RaiseMore
import KE.GoesEnumKw
import HandS.Nested
import HandS.ExcInit
import KE.KSuper
import KE.KExcSuper
import HandS.ExcField
import KE.KExcIs
import HandS.FStr
import HandS.FStrTup
import PyProof.ListStr
import HandS.ExcOwn
import HandS.SetFor
import HandS.More
import HandS.Sort
import PyProof.Rows.SetFrom
import HandS.IterVal
import HandS.Iter
import PyProof.Rows.CallKwBuiltin
import KE.GoesZip
import KE.GoesMore
import KE.GoesEnum
import PyProof.P3Eq
import KE.KOpsOwn
import KE.KCallOwn
import KE.KTupSum
import HandS.Star
import KE.IntTextLaws
import HandS.Defaults
import HandS.ClsMeth
import OpenK.KWalk
import KE.DataMinMax
import PySem.Challenge.RW_choosersrow_k39_queries_and_looks
import HandS.Head0
import HandS.Head1
import HandS.Head2
import HandS.HeadEnd
import HandS.HeadHook1
import HandS.HeadHook2
import HandS.HeadHook3
import Wide.All
import OpenK.AllK
import Wide.FinOn
import KE.KStateDown
import Open.SpecLaws
import KE.OsGo
import KE.RegKSuper
set_option Elab.async false
set_option linter.all false
set_option maxRecDepth 100000
set_option maxHeartbeats 4000000
namespace DW
open PySem PySem.Spec PyProof.Rows L2
/-- the object of a new tuple -/
abbrev tupObj (its : List Value) : Obj := { cls := .type "tuple", data := .seq its.toArray }
theorem tup_okN {P : Program} {w : World} {H : Hp} {h : Heap} {xs : List V} {its : List Value} (hz : xs.length ≤ sizeLine) (r : Vals xs its) :
    ObjOk P w H (h.push (tupObj its)) h.objs.size (.frz (tupObj its) (.tup xs)) := ⟨Heap.get?_push_size _ rfl, hz, its, r, IsTup.new _ _⟩
section
variable {X : Cx} {pins : List (Addr × Obj)} {σ : L2.St} {H : Hp} {s : Shared} {Q : VK}
/-- what is wished of a new tuple -/
def NewT (H : Hp) (xs : List V) (Q : VK) : Prop := ∀ p o, o.dict = none → o.cls = .type "tuple" → H p = none → Q (.ref p) (upd H p (.frz o (.tup xs)))
theorem new_tup {xs : List V} {its : List Value} (I : Inv X pins σ H s) (hz : xs.length ≤ sizeLine) (r : Vals xs its) (q : NewT H xs Q) : EP X pins σ Q (.ref s.heap.objs.size) { s with heap := s.heap.push (tupObj its) } :=
  ⟨.ref s.heap.objs.size, _, I.laid (t' := s.toks) (fun b u e => Heap.get?_push_of_some _ e) (Nat.le_refl _) (tup_okN hz r), rfl, q _ _ rfl rfl (I.hok.fresh (Nat.le_refl _))⟩
end
def tTupN (t : TA) : TE := fun σ H Q => t σ H fun xs H1 => xs.length ≤ sizeLine ∧ NewT H1 xs Q
theorem pe_tupN {X : Cx} {es : List Expr} {x1 : Nat} {pos : Pos} {t : TA} (h : PA X es t) : PE X (.Tuple es x1 pos) (tTupN t) :=
  ⟨fun pins s σ H Q I hq => wpAny_Tuple_spliced (thn (h.run pos pins s σ H _ I hq) fun us s1 ⟨xs, H1, I1, r, z, q⟩ => ⟨by rw [← r.length]; exact z, new_tup I1 z r q⟩)⟩
/-- t + u -/
def rCatN (K : PySem.W.Frag) : R2 := fun x y H Q => ∃ a b xs ys, x = .ref a ∧ y = .ref b ∧ SqT K H a xs ∧ SqT K H b ys ∧ xs.length + ys.length ≤ sizeLine ∧
  (xs = [] → Q (.ref b) H) ∧ (xs ≠ [] → ys = [] → Q (.ref a) H) ∧ (xs ≠ [] → ys ≠ [] → NewT H (xs ++ ys) Q)
theorem op_catN {X : Cx} : OpR X (binaryOp .Add) (rCatN X.K) := by
  intro pins s σ H x y v u Q I rx ry h
  obtain ⟨a, b, xs, ys, rfl, rfl, ha, hb, hz, q0, q1, q2⟩ := h
  cases rx
  cases ry
  obtain ⟨its, r1, p1, _⟩ := I.tuple ha
  obtain ⟨its2, r2, p2, _⟩ := I.tuple hb
  by_cases hx : xs = []
  · subst hx
    cases r1
    exact cat_tup0 p1 p2 ⟨.ref b, H, I, rfl, q0 rfl⟩
  · refine HT.cat_tup p1 p2 (fun z => hx (r1.nil_iff.mp z)) (fun z => ⟨.ref a, H, I, rfl, q1 hx (r2.nil_iff.mp z)⟩) (fun z => ?_) (by rw [← r1.length, ← r2.length]; exact hz)
    exact new_tup I (by rw [List.length_append]; exact hz) (r1.append r2) (q2 hx fun w => z (r2.nil_iff.mpr w))
/-- t[lo:hi] -/
def rSlN (K : PySem.W.Frag) : V → Option Int → Option Int → Hp → VK → Prop := fun x lo hi H Q => ∃ a xs, x = .ref a ∧ SqT K H a xs ∧
  (HT.sIx xs.length 0 lo = 0 ∧ HT.sIx xs.length xs.length hi = xs.length → Q (.ref a) H) ∧ (¬ (HT.sIx xs.length 0 lo = 0 ∧ HT.sIx xs.length xs.length hi = xs.length) → NewT H (cutV xs lo hi) Q)
theorem sl_tupN {X : Cx} : SlR X (rSlN X.K) := by
  intro pins s σ H x v vl vu lo hi sl Q I rx hs pl pu h
  obtain ⟨a, xs, rfl, hx, q1, q2⟩ := h
  cases rx
  obtain ⟨its, r, ht, hz⟩ := I.tuple hx
  have many : its.toArray.size = xs.length := by rw [List.size_toArray]; exact r.length.symm
  refine ⟨"tuple", _, PyProof.Rows.slot_tuple_getitem.lookup, ht.typeIs, ?_⟩
  by_cases hw : HT.sIx xs.length 0 lo = 0 ∧ HT.sIx xs.length xs.length hi = xs.length
  · exact getItem_tuple_whole ht hs pl pu (by rw [many]; exact hw) ⟨.ref a, H, I, rfl, q1 hw⟩
  · refine HT.getItem_tuple_cut ht hs pl pu (by rw [many]; exact hw) ?_ (by rw [many]; exact hz)
    rw [many]
    exact new_tup I (Nat.le_trans (cutV_length xs lo hi) hz) ((r.drop (HT.sIx xs.length 0 lo)).take (HT.sIx xs.length xs.length hi - HT.sIx xs.length 0 lo)) (q2 hw)
/-- tuple(xs) -/
theorem call_tupleN {X : Cx} : CallR X (.type "tuple") (fun xs H Q => ∃ p ys, xs = [.ref p] ∧ ((SqL X.K H p ys ∧ NewT H ys Q) ∨ (SqT X.K H p ys ∧ Q (.ref p) H))) := by
  intro pins s σ H xs us Q I r h
  obtain ⟨p, ys, rfl, h⟩ := h
  obtain ⟨u, rfl, rx⟩ := vals1 r
  cases rx
  rcases h with ⟨hq, q⟩ | ⟨hq, q⟩
  · obtain ⟨its, r', pl, hz⟩ := I.list hq
    have many := r'.length
    refine call_tuple_list pl.isList (fun h' kp => ?_) (by simp only [List.size_toArray] <;> omega)
    have I1 : Inv X pins σ H { s with heap := h' } := I.kept (t' := s.toks) kp
    exact new_tup I1 hz r' q
  · obtain ⟨its, r', pl, hz⟩ := I.tuple hq
    exact call_tuple_same pl ⟨.ref p, H, I, rfl, q⟩
end DW
set_option Elab.async false
set_option linter.all false
set_option maxRecDepth 100000
namespace DW
open PySem PySem.Spec L2
abbrev Fg := PySem.W.Frag
/-- plain data: what a value stands for; hd: a value taken as it is (a handle, a def, a type) -/
inductive D where
  | non | bl (b : Bool) | int (i : Int) | str (x : Str)
  | tup (xs : List D) | lst (xs : List D)
  | pr (xs : List D)
  | obj (C : Addr) (ns : List Str) (ds : List D)
  | hd (v : V)
  | scr (ns : List Int)
/-- what stands at a handle's address: a list that may change, one that stands still, an instance in the making -/
inductive Cell where
  | lst (ds : List D) | frz (ds : List D) | ins (C : Addr) (ns : List Str) (ds : List D)
  /-- a range object -/
  | rng (lo hi : Int)
abbrev Sto := Addr → Option Cell
def sset (μ : Sto) (a : Addr) (c : Cell) : Sto := fun b => if b = a then some c else μ b
theorem sset_same {μ : Sto} {a : Addr} {c : Cell} : sset μ a c a = some c := by unfold sset; rw [if_pos rfl]
theorem sset_ne {μ : Sto} {a b : Addr} {c : Cell} (h : b ≠ a) : sset μ a c b = μ b := by unfold sset; rw [if_neg h]
theorem sset_sset {μ : Sto} {a : Addr} {c d : Cell} : sset (sset μ a c) a d = sset μ a d := by
  funext b; unfold sset; split <;> rfl
def still : Option Cell → Prop
  | some (.lst _) => False
  | some (.ins _ _ _) => False
  | _ => True
/-- nothing that may change stands at a -/
def NM (μ : Sto) (a : Addr) : Prop := still (μ a)
theorem NM.of {μ : Sto} {a : Addr} (h : μ a = none) : NM μ a := by unfold NM; rw [h]; exact trivial
theorem NM.frz {μ : Sto} {a : Addr} {ds : List D} (h : μ a = some (.frz ds)) : NM μ a := by unfold NM; rw [h]; exact trivial
theorem NM.notL {μ : Sto} {a : Addr} {ds : List D} (h : NM μ a) (q : μ a = some (.lst ds)) : False := by unfold NM at h; rw [q] at h; exact h
theorem NM.notI {μ : Sto} {a C : Addr} {ns : List Str} {ds : List D} (h : NM μ a) (q : μ a = some (.ins C ns ds)) : False := by unfold NM at h; rw [q] at h; exact h
def SqLw (K : Fg) (a : Addr) (xs : List V) : Prop :=
  ∃ (o : Obj) (its : Array Value) (n : Nat), K.lookup a = some o ∧ o.cls = .type "list" ∧ o.dict = none ∧ o.data = .seq its n ∧ its.size ≤ sizeLine ∧ Vals xs its.toList
def SqTw (K : Fg) (a : Addr) (xs : List V) : Prop :=
  ∃ (o : Obj) (its : Array Value) (n : Nat), K.lookup a = some o ∧ o.cls = .type "tuple" ∧ o.dict = none ∧ o.data = .seq its n ∧ its.size ≤ sizeLine ∧ Vals xs its.toList
def LstAt (μ : Sto) (H : Hp) (a : Addr) (xs : List V) : Prop := H a = some (.lst xs) ∧ NM μ a
def ScrAt (K : Fg) (μ : Sto) (H : Hp) (a : Addr) (xs : List V) : Prop := (Rd H a (.lst xs) ∧ NM μ a) ∨ SqLw K a xs
def TupAt (K : Fg) (μ : Sto) (H : Hp) (a : Addr) (xs : List V) : Prop := (∃ o : Obj, H a = some (.frz o (.tup xs)) ∧ o.dict = none ∧ o.cls = .type "tuple" ∧ NM μ a) ∨ SqTw K a xs
/-- a tuple that is taken apart at once -/
def PrAt (μ : Sto) (H : Hp) (a : Addr) (xs : List V) : Prop := Rd H a (.tup xs) ∧ NM μ a
theorem LstAt.sq {K : Fg} {μ : Sto} {H : Hp} {a : Addr} {xs : List V} (h : LstAt μ H a xs) : SqL K H a xs := .inl (.inl h.1)
theorem ScrAt.sq {K : Fg} {μ : Sto} {H : Hp} {a : Addr} {xs : List V} (h : ScrAt K μ H a xs) : SqL K H a xs := h.elim (fun q => .inl q.1) fun q => .inr q
theorem TupAt.sq {K : Fg} {μ : Sto} {H : Hp} {a : Addr} {xs : List V} (h : TupAt K μ H a xs) : SqT K H a xs := h.elim (fun ⟨o, q, _⟩ => .inl (.inr ⟨o, q⟩)) fun ⟨o, its, n, q1, q2, _, q3⟩ => .inr ⟨o, its, n, q1, q2, q3⟩
theorem PrAt.sq {K : Fg} {μ : Sto} {H : Hp} {a : Addr} {xs : List V} (h : PrAt μ H a xs) : SqT K H a xs := .inl h.1
/-- what values stand for what data -/
inductive Reps (K : Fg) (μ : Sto) (H : Hp) : List V → List D → Prop
  | nil : Reps K μ H [] []
  | non {vs ds} : Reps K μ H vs ds → Reps K μ H (.non :: vs) (.non :: ds)
  | bl {vs ds} (b : Bool) : Reps K μ H vs ds → Reps K μ H (.bl b :: vs) (.bl b :: ds)
  | int {vs ds} (i : Int) : Reps K μ H vs ds → Reps K μ H (.int i :: vs) (.int i :: ds)
  | str {vs ds} (x : Str) : Reps K μ H vs ds → Reps K μ H (.str x :: vs) (.str x :: ds)
  | hd {vs ds} (v : V) : Reps K μ H vs ds → Reps K μ H (v :: vs) (.hd v :: ds)
  | tup {vs ds a us es} : TupAt K μ H a us → Reps K μ H us es → Reps K μ H vs ds → Reps K μ H (.ref a :: vs) (.tup es :: ds)
  | pr {vs ds a us es} : PrAt μ H a us → Reps K μ H us es → Reps K μ H vs ds → Reps K μ H (.ref a :: vs) (.pr es :: ds)
  | scr {vs ds a ns} : ScrAt K μ H a (ns.map V.int) → Reps K μ H vs ds → Reps K μ H (.ref a :: vs) (.scr ns :: ds)
  | lst {vs ds a us es} : LstAt μ H a us → Reps K μ H us es → Reps K μ H vs ds → Reps K μ H (.ref a :: vs) (.lst es :: ds)
  | obj {vs ds a C dx ns us es} : H a = some (.ins C dx (ns.zip us)) → NM μ a → us.length = ns.length → Reps K μ H us es → Reps K μ H vs ds → Reps K μ H (.ref a :: vs) (.obj C ns es :: ds)
abbrev Rep (K : Fg) (μ : Sto) (H : Hp) (v : V) (d : D) : Prop := Reps K μ H [v] [d]
section
variable {K : Fg} {μ μ' μ'' : Sto} {H H' H'' : Hp} {v w : V} {d e : D} {vs us : List V} {ds es : List D}
theorem Reps.length (h : Reps K μ H vs ds) : vs.length = ds.length := by
  induction h <;> simp_all
theorem Reps.split (h : Reps K μ H (v :: vs) (d :: ds)) : Rep K μ H v d ∧ Reps K μ H vs ds := by
  cases h with
  | non r => exact ⟨.non .nil, r⟩
  | bl b r => exact ⟨.bl b .nil, r⟩
  | int i r => exact ⟨.int i .nil, r⟩
  | str x r => exact ⟨.str x .nil, r⟩
  | hd v r => exact ⟨.hd v .nil, r⟩
  | tup h1 h2 r => exact ⟨.tup h1 h2 .nil, r⟩
  | pr h1 h2 r => exact ⟨.pr h1 h2 .nil, r⟩
  | lst h1 h2 r => exact ⟨.lst h1 h2 .nil, r⟩
  | scr h1 r => exact ⟨.scr h1 .nil, r⟩
  | obj h1 h2 h3 h4 r => exact ⟨.obj h1 h2 h3 h4 .nil, r⟩
theorem Reps.cons (h : Rep K μ H v d) (r : Reps K μ H vs ds) : Reps K μ H (v :: vs) (d :: ds) := by
  cases h with
  | non _ => exact .non r
  | bl b _ => exact .bl b r
  | int i _ => exact .int i r
  | str x _ => exact .str x r
  | hd v _ => exact .hd v r
  | tup h1 h2 _ => exact .tup h1 h2 r
  | pr h1 h2 _ => exact .pr h1 h2 r
  | lst h1 h2 _ => exact .lst h1 h2 r
  | scr h1 _ => exact .scr h1 r
  | obj h1 h2 h3 h4 _ => exact .obj h1 h2 h3 h4 r
theorem Reps.get (h : Reps K μ H vs ds) : ∀ {i : Nat} {d : D}, ds[i]? = some d → ∃ v, vs[i]? = some v ∧ Rep K μ H v d := by
  intro i
  induction i generalizing vs ds with
  | zero =>
    intro d e
    cases ds with
    | nil => cases e
    | cons x r =>
      cases vs with
      | nil => have := h.length; simp at this
      | cons v vs =>
        cases e
        exact ⟨v, rfl, h.split.1⟩
  | succ i ih =>
    intro d e
    cases ds with
    | nil => cases e
    | cons x r =>
      cases vs with
      | nil => have := h.length; simp at this
      | cons v vs => exact ih h.split.2 e
theorem Reps.getV (h : Reps K μ H vs ds) {i : Nat} {v : V} (e : vs[i]? = some v) : ∃ d, ds[i]? = some d ∧ Rep K μ H v d := by
  have hi : i < ds.length := by rw [← h.length]; exact (List.getElem?_eq_some_iff.mp e).1
  obtain ⟨v', e', r⟩ := h.get (List.getElem?_eq_getElem hi)
  rw [e] at e'
  cases e'
  exact ⟨_, List.getElem?_eq_getElem hi, r⟩
theorem Reps.append (h : Reps K μ H vs ds) (r : Reps K μ H us es) : Reps K μ H (vs ++ us) (ds ++ es) := by
  induction vs generalizing ds with
  | nil => cases h; exact r
  | cons v vs ih =>
    cases ds with
    | nil => have := h.length; simp at this
    | cons d ds => exact .cons h.split.1 (ih h.split.2)
theorem Reps.take (h : Reps K μ H vs ds) : ∀ n, Reps K μ H (vs.take n) (ds.take n) := by
  intro n
  induction n generalizing vs ds with
  | zero => exact .nil
  | succ n ih =>
    cases ds with
    | nil =>
      cases vs with
      | nil => exact .nil
      | cons v vs => have := h.length; simp at this
    | cons d ds =>
      cases vs with
      | nil => have := h.length; simp at this
      | cons v vs => exact .cons h.split.1 (ih h.split.2)
theorem Reps.drop (h : Reps K μ H vs ds) : ∀ n, Reps K μ H (vs.drop n) (ds.drop n) := by
  intro n
  induction n generalizing vs ds with
  | zero => exact h
  | succ n ih =>
    cases ds with
    | nil =>
      cases vs with
      | nil => exact .nil
      | cons v vs => have := h.length; simp at this
    | cons d ds =>
      cases vs with
      | nil => have := h.length; simp at this
      | cons v vs => exact ih h.split.2
theorem Reps.set (h : Reps K μ H vs ds) (r : Rep K μ H v d) : ∀ j, Reps K μ H (vs.set j v) (ds.set j d) := by
  intro j
  induction j generalizing vs ds with
  | zero =>
    cases ds with
    | nil =>
      cases vs with
      | nil => exact .nil
      | cons v vs => have := h.length; simp at this
    | cons d ds =>
      cases vs with
      | nil => have := h.length; simp at this
      | cons v vs => exact .cons r h.split.2
  | succ n ih =>
    cases ds with
    | nil =>
      cases vs with
      | nil => exact .nil
      | cons v vs => have := h.length; simp at this
    | cons d ds =>
      cases vs with
      | nil => have := h.length; simp at this
      | cons v vs => exact .cons h.split.1 (ih h.split.2)
theorem Reps.reverse (h : Reps K μ H vs ds) : Reps K μ H vs.reverse ds.reverse := by
  induction vs generalizing ds with
  | nil => cases h; exact .nil
  | cons v vs ih =>
    cases ds with
    | nil => have := h.length; simp at this
    | cons d ds =>
      rw [List.reverse_cons, List.reverse_cons]
      exact (ih h.split.2).append (.cons h.split.1 .nil)
/-- all that stands still there, stands still here; nothing is gone -/
structure Evo (μ : Sto) (H : Hp) (μ' : Sto) (H' : Hp) : Prop where
  st : ∀ b o, H b = some o → NM μ b → H' b = some o ∧ NM μ' b
  th : ∀ b, H' b = none → H b = none
theorem Evo.refl : Evo μ H μ H := ⟨fun _ _ h n => ⟨h, n⟩, fun _ h => h⟩
theorem Evo.trans (a : Evo μ H μ' H') (b : Evo μ' H' μ'' H'') : Evo μ H μ'' H'' := ⟨fun c o h n => b.st c o (a.st c o h n).1 (a.st c o h n).2, fun c h => a.th c (b.th c h)⟩
theorem Evo.rd {a : Addr} {u : HO} (e : Evo μ H μ' H') (h : Rd H a u) (n : NM μ a) : Rd H' a u ∧ NM μ' a := by
  rcases h with h | ⟨o, h⟩
  · exact ⟨.inl (e.st a _ h n).1, (e.st a _ h n).2⟩
  · exact ⟨.inr ⟨o, (e.st a _ h n).1⟩, (e.st a _ h n).2⟩
theorem LstAt.mono {a : Addr} {xs : List V} (e : Evo μ H μ' H') (h : LstAt μ H a xs) : LstAt μ' H' a xs := e.st _ _ h.1 h.2
theorem ScrAt.mono {a : Addr} {xs : List V} (e : Evo μ H μ' H') (h : ScrAt K μ H a xs) : ScrAt K μ' H' a xs := by
  rcases h with ⟨h, n⟩ | h
  · exact .inl (e.rd h n)
  · exact .inr h
theorem TupAt.mono {a : Addr} {xs : List V} (e : Evo μ H μ' H') (h : TupAt K μ H a xs) : TupAt K μ' H' a xs := by
  rcases h with ⟨o, h, d, c, n⟩ | h
  · exact .inl ⟨o, (e.st a _ h n).1, d, c, (e.st a _ h n).2⟩
  · exact .inr h
theorem Reps.mono (e : Evo μ H μ' H') (h : Reps K μ H vs ds) : Reps K μ' H' vs ds := by
  induction h with
  | nil => exact .nil
  | non _ i => exact .non i
  | bl b _ i => exact .bl b i
  | int b _ i => exact .int b i
  | str b _ i => exact .str b i
  | hd b _ i => exact .hd b i
  | tup h1 _ _ i1 i2 => exact .tup (h1.mono e) i1 i2
  | pr h1 _ _ i1 i2 => exact .pr ⟨(e.rd h1.1 h1.2).1, (e.rd h1.1 h1.2).2⟩ i1 i2
  | lst h1 _ _ i1 i2 => exact .lst (h1.mono e) i1 i2
  | scr h1 _ i1 => exact .scr (h1.mono e) i1
  | obj h1 h2 h3 _ _ i1 i2 => exact .obj (e.st _ _ h1 h2).1 (e.st _ _ h1 h2).2 h3 i1 i2
/-- what is said of the handles holds of the heap -/
def CellOk (K : Fg) (μ : Sto) (H : Hp) (a : Addr) : Cell → Prop
  | .lst ds => ∃ vs, H a = some (.lst vs) ∧ Reps K μ H vs ds
  | .frz ds => ∃ vs, H a = some (.lst vs) ∧ Reps K μ H vs ds
  | .ins C ns ds => ∃ dx us, H a = some (.ins C dx (ns.zip us)) ∧ us.length = ns.length ∧ Reps K μ H us ds
  | .rng lo hi => H a = some (.rng lo hi)
def StoOk (K : Fg) (μ : Sto) (H : Hp) : Prop := ∀ a c, μ a = some c → CellOk K μ H a c
theorem CellOk.there {a : Addr} {c : Cell} (h : CellOk K μ H a c) : ∃ o, H a = some o := by
  cases c with
  | lst ds => obtain ⟨_, e, _⟩ := h; exact ⟨_, e⟩
  | frz ds => obtain ⟨_, e, _⟩ := h; exact ⟨_, e⟩
  | ins C ns ds => obtain ⟨_, _, e, _⟩ := h; exact ⟨_, e⟩
  | rng lo hi => exact ⟨_, h⟩
theorem StoOk.fresh {p : Addr} (s : StoOk K μ H) (h : H p = none) : μ p = none := by
  cases e : μ p with
  | none => rfl
  | some c =>
    obtain ⟨o, q⟩ := (s p c e).there
    rw [h] at q
    cases q
theorem CellOk.mono {a : Addr} {c : Cell} (e : Evo μ H μ' H') (hs : ∀ o, H a = some o → H' a = some o) (h : CellOk K μ H a c) : CellOk K μ' H' a c := by
  cases c with
  | lst ds => obtain ⟨vs, q, r⟩ := h; exact ⟨vs, hs _ q, r.mono e⟩
  | frz ds => obtain ⟨vs, q, r⟩ := h; exact ⟨vs, hs _ q, r.mono e⟩
  | ins C ns ds => obtain ⟨dx, us, q, l, r⟩ := h; exact ⟨dx, us, hs _ q, l, r.mono e⟩
  | rng lo hi => exact hs _ h
/-- a new object -/
theorem upd_th {p : Addr} {o : HO} {b : Addr} (h : upd H p o b = none) : H b = none := by
  by_cases e : b = p
  · subst e; rw [upd_same] at h; cases h
  · rw [upd_ne e] at h; exact h
theorem Evo.new {p : Addr} {o : HO} (h : H p = none) : Evo μ H μ (upd H p o) := ⟨fun b u e n => ⟨by rw [upd_ne (ne_of_none e h)]; exact e, n⟩, fun b q => upd_th q⟩
theorem StoOk.new {p : Addr} {o : HO} (s : StoOk K μ H) (h : H p = none) : StoOk K μ (upd H p o) := fun a c e =>
  (s a c e).mono (.new h) fun u q => by rw [upd_ne (ne_of_none q h)]; exact q
theorem NM.new {p : Addr} (s : StoOk K μ H) (h : H p = none) : NM μ p := .of (s.fresh h)
/-- a new object that has a cell -/
theorem Evo.newC {p : Addr} {o : HO} {c : Cell} (s : StoOk K μ H) (h : H p = none) : Evo μ H (sset μ p c) (upd H p o) := ⟨fun b u e n => by
  have hb : b ≠ p := ne_of_none e h
  refine ⟨by rw [upd_ne hb]; exact e, ?_⟩
  unfold NM
  rw [sset_ne hb]
  exact n, fun b q => upd_th q⟩
/-- the cell at p changes; nothing else does -/
theorem Evo.cell {p : Addr} {o : HO} {c c' : Cell} (hp : μ p = some c) (hn : ¬ NM μ p) : Evo μ H (sset μ p c') (upd H p o) := ⟨fun b u e n => by
  have hb : b ≠ p := fun q => hn (q ▸ n)
  refine ⟨by rw [upd_ne hb]; exact e, ?_⟩
  unfold NM
  rw [sset_ne hb]
  exact n, fun b q => upd_th q⟩
theorem StoOk.cell {p : Addr} {o : HO} {c' : Cell} (s : StoOk K μ H) (e : Evo μ H (sset μ p c') (upd H p o)) (h : CellOk K (sset μ p c') (upd H p o) p c') : StoOk K (sset μ p c') (upd H p o) := fun a x q => by
  by_cases ha : a = p
  · subst ha
    rw [sset_same] at q
    cases q
    exact h
  · rw [sset_ne ha] at q
    exact (s a x q).mono e fun u z => by rw [upd_ne ha]; exact z
/-- a list comes to rest -/
theorem Evo.rest {p : Addr} {ds : List D} (hp : μ p = some (.lst ds)) : Evo μ H (sset μ p (.frz ds)) H := ⟨fun b u e n => by
  have hb : b ≠ p := fun q => by subst q; exact n.notL hp
  refine ⟨e, ?_⟩
  unfold NM
  rw [sset_ne hb]
  exact n, fun _ q => q⟩
theorem StoOk.rest {p : Addr} {ds : List D} (s : StoOk K μ H) (hp : μ p = some (.lst ds)) : StoOk K (sset μ p (.frz ds)) H := fun a x q => by
  by_cases ha : a = p
  · subst ha
    rw [sset_same] at q
    cases q
    exact (s a _ hp).mono (.rest hp) fun _ z => z
  · rw [sset_ne ha] at q
    exact (s a x q).mono (.rest hp) fun _ z => z
/-- fewer cells -/
def Sub (μ μ' : Sto) : Prop := ∀ a c, μ a = some c → μ' a = some c
theorem Sub.refl : Sub μ μ := fun _ _ h => h
theorem Sub.trans (a : Sub μ μ') (b : Sub μ' μ'') : Sub μ μ'' := fun c x h => b c x (a c x h)
theorem Sub.set {p : Addr} {c : Cell} (s : Sub μ μ') (h : μ p = none) : Sub μ (sset μ' p c) := fun a x e => by
  have : a ≠ p := fun q => by subst q; rw [h] at e; cases e
  rw [sset_ne this]
  exact s a x e
theorem Sub.none {p : Addr} (s : Sub μ μ') (h : μ' p = none) : μ p = none := by
  cases e : μ p with
  | none => rfl
  | some c => rw [s p c e] at h; cases h
theorem Sub.nm {a : Addr} (s : Sub μ μ') (h : NM μ' a) : NM μ a := by
  unfold NM at h ⊢
  cases e : μ a with
  | none => exact trivial
  | some c => rw [s a c e] at h; exact h
theorem Sub.evo (s : Sub μ' μ) : Evo μ H μ' H := ⟨fun b o e n => ⟨e, s.nm n⟩, fun _ q => q⟩
/-- without the cell at p -/
def sdel (μ : Sto) (p : Addr) : Sto := fun b => if b = p then none else μ b
theorem sdel_sub {p : Addr} : Sub (sdel μ p) μ := fun a c e => by
  unfold sdel at e
  split at e
  · cases e
  · exact e
theorem sdel_sset {p : Addr} {c : Cell} (h : μ p = none) : sdel (sset μ p c) p = μ := by
  funext b; unfold sdel sset; by_cases e : b = p
  · subst e; rw [if_pos rfl, h]
  · rw [if_neg e, if_neg e]
theorem sdel_same {p : Addr} : sdel μ p p = none := by unfold sdel; rw [if_pos rfl]
theorem Sub.sto (s : Sub μ' μ) (h : StoOk K μ H) : StoOk K μ' H := fun a c e => (h a c (s a c e)).mono s.evo fun _ z => z
/-- the names' values -/
abbrev DEnv := List (Option D)
structure EnvOk (K : Fg) (μ : Sto) (H : Hp) (σ : St) (δ : DEnv) : Prop where
  len : σ.length = δ.length
  at_ : ∀ (i : Nat) (d : D), δ[i]? = some (some d) → ∃ v, σ[i]? = some (some v) ∧ Rep K μ H v d
theorem EnvOk.mono {σ : St} {δ : DEnv} (e : Evo μ H μ' H') (h : EnvOk K μ H σ δ) : EnvOk K μ' H' σ δ := ⟨h.len, fun i d q => by
  obtain ⟨v, a, b⟩ := h.at_ i d q
  exact ⟨v, a, b.mono e⟩⟩
theorem EnvOk.set {σ : St} {δ : DEnv} (h : EnvOk K μ H σ δ) (r : Rep K μ H v d) (j : Nat) : EnvOk K μ H (σ.set j (some v)) (δ.set j (some d)) := ⟨by rw [List.length_set, List.length_set]; exact h.len, fun i x q => by
  rw [List.getElem?_set] at q
  rw [List.getElem?_set]
  by_cases hj : j = i
  · rw [if_pos hj] at q ⊢
    rw [h.len]
    by_cases hl : j < δ.length
    · rw [if_pos hl] at q ⊢
      cases q
      exact ⟨v, rfl, r⟩
    · rw [if_neg hl] at q
      cases q
  · rw [if_neg hj] at q ⊢
    exact h.at_ i x q⟩
/-- what is known where one stands -/
structure Sm (K : Fg) (H0 : Hp) (μ0 : Sto) (σ : St) (H : Hp) (δ : DEnv) (μ : Sto) : Prop where
  evo : Evo μ0 H0 μ H
  sto : StoOk K μ H
  env : EnvOk K μ H σ δ
theorem Sm.step {H0 : Hp} {μ0 : Sto} {σ : St} {δ : DEnv} (S : Sm K H0 μ0 σ H δ μ) (e : Evo μ H μ' H') (s : StoOk K μ' H') : Sm K H0 μ0 σ H' δ μ' := ⟨S.evo.trans e, s, S.env.mono e⟩
theorem Sm.set {H0 : Hp} {μ0 : Sto} {σ : St} {δ : DEnv} (S : Sm K H0 μ0 σ H δ μ) (r : Rep K μ H v d) (j : Nat) : Sm K H0 μ0 (σ.set j (some v)) H (δ.set j (some d)) μ := ⟨S.evo, S.sto, S.env.set r j⟩
end
end DW
set_option Elab.async false
set_option linter.all false
set_option maxRecDepth 100000
namespace DW
open PySem PySem.Spec L2
/-- an exception that is on its way: its class, its own fields -/
inductive XD where
  | mk (C : Addr) (fs : Option (List Str × List D))
abbrev XP := XD → DEnv → Sto → Prop
abbrev DK := D → Sto → Prop
def RepX (K : Fg) (μ : Sto) (H : Hp) (cls : Value) (dd : Option Addr) : XD → Prop
  | .mk C none => cls = .ref C ∧ dd = none
  | .mk C (some (ns, ds)) => cls = .ref C ∧ ∃ d us, dd = some d ∧ H d = some (.xd (ns.zip us)) ∧ NM μ d ∧ us.length = ns.length ∧ Reps K μ H us ds
/-- where a piece of code stands: the written part, the heap and the handles at the entry, what is wished of exceptions -/
structure Bx (K : Fg) where
  H0 : Hp
  μ0 : Sto
  W : WX
  Ψ : XP
  hW : ∀ cls dd σ H x δ μ, Sm K H0 μ0 σ H δ μ → RepX K μ H cls dd x → Ψ x δ μ → W cls dd σ H
/-- the same, from a later moment on -/
abbrev Bx.re {K : Fg} (B : Bx K) (H1 : Hp) (μ1 : Sto) (e : Evo B.μ0 B.H0 μ1 H1) : Bx K := ⟨H1, μ1, B.W, B.Ψ, fun cls dd σ H x δ μ S => B.hW cls dd σ H x δ μ ⟨e.trans S.evo, S.sto, S.env⟩⟩
abbrev DE := XP → DEnv → Sto → DK → Prop
abbrev DA := XP → DEnv → Sto → (List D → Sto → Prop) → Prop
abbrev DT := XP → DEnv → Sto → (Bool → Sto → Prop) → Prop
structure DEnds where
  nx : DEnv → Sto → Prop
  rt : D → Sto → Prop
  bk : DEnv → Sto → Prop
  ct : DEnv → Sto → Prop
abbrev DSt := XP → DEnds → DEnv → Sto → Prop
section
variable {K : Fg} (B : Bx K)
abbrev Bx.S {K : Fg} (B : Bx K) (σ : L2.St) (H : Hp) (δ : DEnv) (μ : Sto) : Prop := Sm K B.H0 B.μ0 σ H δ μ
/-- the reading te follows from the data's reading φ -/
def SE (te : TE) (φ : DE) : Prop := ∀ (σ : L2.St) (H : Hp) (δ : DEnv) (μ : Sto) (Φ : DK) (Q : VK), B.S σ H δ μ → φ B.Ψ δ μ Φ →
  (∀ v H' d μ', B.S σ H' δ μ' → Evo μ H μ' H' → Rep K μ' H' v d → Φ d μ' → Q v H') → te σ H Q
def SA (ta : TA) (φ : DA) : Prop := ∀ (σ : L2.St) (H : Hp) (δ : DEnv) (μ : Sto) (Φ : List D → Sto → Prop) (Q : List V → Hp → Prop), B.S σ H δ μ → φ B.Ψ δ μ Φ →
  (∀ vs H' ds μ', B.S σ H' δ μ' → Evo μ H μ' H' → Reps K μ' H' vs ds → Φ ds μ' → Q vs H') → ta σ H Q
def ST (tt : TT) (φ : DT) : Prop := ∀ (σ : L2.St) (H : Hp) (δ : DEnv) (μ : Sto) (Φ : Bool → Sto → Prop) (Q : Bool → Hp → Prop), B.S σ H δ μ → φ B.Ψ δ μ Φ →
  (∀ b H' μ', B.S σ H' δ μ' → Evo μ H μ' H' → Φ b μ' → Q b H') → tt σ H Q
structure EO (D : Ends) (Δ : DEnds) : Prop where
  nx : ∀ σ H δ μ, B.S σ H δ μ → Δ.nx δ μ → D.nx σ H
  rt : ∀ v H d μ σ δ, B.S σ H δ μ → Rep K μ H v d → Δ.rt d μ → D.rt v H
  bk : ∀ σ H δ μ, B.S σ H δ μ → Δ.bk δ μ → D.bk σ H
  ct : ∀ σ H δ μ, B.S σ H δ μ → Δ.ct δ μ → D.ct σ H
def SS (ts : TS) (φ : DSt) : Prop := ∀ (D : Ends) (Δ : DEnds) (σ : L2.St) (H : Hp) (δ : DEnv) (μ : Sto), EO B D Δ → B.S σ H δ μ → φ B.Ψ Δ δ μ → ts D σ H
end
section
variable {K : Fg} {B : Bx K} {te ta tb tc : TE} {φ φa φb φc : DE} {tt tu : TT} {θ ϑ : DT} {tas : TA} {ψ : DA} {ts tz : TS} {ω ζ : DSt}
def dVar (i : Nat) : DE := fun _ δ μ Φ => ∃ d, δ[i]? = some (some d) ∧ Φ d μ
theorem sVar {i : Nat} : SE B (tVar i) (dVar i) := fun σ H δ μ Φ Q S h k => by
  obtain ⟨d, e, h⟩ := h
  obtain ⟨v, ev, r⟩ := S.env.at_ i d e
  exact ⟨v, ev, k v H d μ S .refl r h⟩
/-- a name that holds a list's handle, read as the list: it changes no more -/
def dRest (i : Nat) : DE := fun _ δ μ Φ => ∃ a ds, δ[i]? = some (some (.hd (.ref a))) ∧ μ a = some (.lst ds) ∧ Φ (.lst ds) (sset μ a (.frz ds))
theorem Rep.hd_inv {K : Fg} {μ : Sto} {H : Hp} {v w : V} (h : Rep K μ H v (.hd w)) : v = w := by cases h; rfl
theorem sRest {i : Nat} : SE B (tVar i) (dRest i) := fun σ H δ μ Φ Q S h k => by
  obtain ⟨a, ds, e, hm, h⟩ := h
  obtain ⟨v, ev, r⟩ := S.env.at_ i _ e
  obtain rfl := Rep.hd_inv r
  have ev2 : Evo μ H (sset μ a (.frz ds)) H := .rest hm
  have st2 := S.sto.rest hm
  obtain ⟨vs, q1, q2⟩ := st2 a _ sset_same
  exact ⟨_, ev, k _ H _ _ (S.step ev2 st2) ev2 (.lst ⟨q1, .frz sset_same⟩ q2 .nil) h⟩
def dC (d : D) : DE := fun _ _ μ Φ => Φ d μ
theorem sC {v : V} {d : D} (r : ∀ K μ H, Rep K μ H v d) : SE B (tC v) (dC d) := fun σ H δ μ Φ Q S h k => k v H d μ S .refl (r _ _ _) h
theorem sInt {i : Int} : SE B (tC (.int i)) (dC (.int i)) := sC fun _ _ _ => .int i .nil
theorem sStr {x : Str} : SE B (tC (.str x)) (dC (.str x)) := sC fun _ _ _ => .str x .nil
theorem sBl {b : Bool} : SE B (tC (.bl b)) (dC (.bl b)) := sC fun _ _ _ => .bl b .nil
theorem sNon : SE B (tC .non) (dC .non) := sC fun _ _ _ => .non .nil
theorem sHd {v : V} : SE B (tC v) (dC (.hd v)) := sC fun _ _ _ => .hd v .nil
/-- an operator by data -/
abbrev DO := D → D → Sto → DK → Prop
def RO (K : Fg) (r : R2) (ρ : DO) : Prop := ∀ (H : Hp) (μ : Sto) (v w : V) (d e : D) (Φ : DK) (Q : VK), StoOk K μ H → Rep K μ H v d → Rep K μ H w e → ρ d e μ Φ →
  (∀ z H' c μ', Evo μ H μ' H' → StoOk K μ' H' → Rep K μ' H' z c → Φ c μ' → Q z H') → r v w H Q
def dOp (ρ : DO) (φa φb : DE) : DE := fun Ψ δ μ Φ => φa Ψ δ μ fun x μ1 => φb Ψ δ μ1 fun y μ2 => ρ x y μ2 Φ
theorem sOp {r : R2} {ρ : DO} (h : RO K r ρ) (a : SE B ta φa) (b : SE B tb φb) : SE B (tOp r ta tb) (dOp ρ φa φb) := fun σ H δ μ Φ Q S q k =>
  a σ H δ μ _ _ S q fun v H1 x μ1 S1 e1 r1 q1 => b σ H1 δ μ1 _ _ S1 q1 fun w H2 y μ2 S2 e2 r2 q2 =>
    h H2 μ2 v w x y Φ Q S2.sto (Reps.mono e2 r1) r2 q2 fun z H3 c μ3 e3 s3 r3 p => k z H3 c μ3 (S2.step e3 s3) ((e1.trans e2).trans e3) r3 p
abbrev DU := D → Sto → DK → Prop
def dUn (ρ : DU) (φa : DE) : DE := fun Ψ δ μ Φ => φa Ψ δ μ fun x μ1 => ρ x μ1 Φ
def dTest (φ : DE) : DT := fun Ψ δ μ Φ => φ Ψ δ μ fun x μ1 => ∃ b, x = .bl b ∧ Φ b μ1
theorem Rep.bl_inv {K : Fg} {μ : Sto} {H : Hp} {v : V} {b : Bool} (h : Rep K μ H v (.bl b)) : v = .bl b := by cases h; rfl
theorem Rep.int_inv {K : Fg} {μ : Sto} {H : Hp} {v : V} {b : Int} (h : Rep K μ H v (.int b)) : v = .int b := by cases h; rfl
theorem Rep.str_inv {K : Fg} {μ : Sto} {H : Hp} {v : V} {b : Str} (h : Rep K μ H v (.str b)) : v = .str b := by cases h; rfl
theorem Rep.non_inv {K : Fg} {μ : Sto} {H : Hp} {v : V} (h : Rep K μ H v .non) : v = .non := by cases h; rfl
theorem sTest (a : SE B ta φa) : ST B (tTest ta) (dTest φa) := fun σ H δ μ Φ Q S q k =>
  a σ H δ μ _ _ S q fun v H1 x μ1 S1 e1 r1 q1 => by
    obtain ⟨b, rfl, q2⟩ := q1
    obtain rfl := Rep.bl_inv r1
    exact ⟨b, rfl, k b H1 μ1 S1 e1 q2⟩
theorem sB (a : SE B ta φa) : ST B (tB ta) (dTest φa) := fun σ H δ μ Φ Q S q k =>
  a σ H δ μ _ _ S q fun v H1 x μ1 S1 e1 r1 q1 => by
    obtain ⟨b, rfl, q2⟩ := q1
    obtain rfl := Rep.bl_inv r1
    exact ⟨b, rfl, k b H1 μ1 S1 e1 q2⟩
def dAnd (θ ϑ : DT) : DT := fun Ψ δ μ Φ => θ Ψ δ μ fun b μ1 => (b = true → ϑ Ψ δ μ1 Φ) ∧ (b = false → Φ false μ1)
def dOr (θ ϑ : DT) : DT := fun Ψ δ μ Φ => θ Ψ δ μ fun b μ1 => (b = true → Φ true μ1) ∧ (b = false → ϑ Ψ δ μ1 Φ)
def dNot (θ : DT) : DT := fun Ψ δ μ Φ => θ Ψ δ μ fun b μ1 => Φ (!b) μ1
theorem sAnd (a : ST B tt θ) (b : ST B tu ϑ) : ST B (tAnd tt tu) (dAnd θ ϑ) := fun σ H δ μ Φ Q S q k =>
  a σ H δ μ _ _ S q fun v H1 μ1 S1 e1 q1 => by
    cases v with
    | true => exact b σ H1 δ μ1 _ _ S1 (q1.1 rfl) fun w H2 μ2 S2 e2 q2 => k w H2 μ2 S2 (e1.trans e2) q2
    | false => exact k false H1 μ1 S1 e1 (q1.2 rfl)
theorem sOr (a : ST B tt θ) (b : ST B tu ϑ) : ST B (tOr tt tu) (dOr θ ϑ) := fun σ H δ μ Φ Q S q k =>
  a σ H δ μ _ _ S q fun v H1 μ1 S1 e1 q1 => by
    cases v with
    | true => exact k true H1 μ1 S1 e1 (q1.1 rfl)
    | false => exact b σ H1 δ μ1 _ _ S1 (q1.2 rfl) fun w H2 μ2 S2 e2 q2 => k w H2 μ2 S2 (e1.trans e2) q2
theorem sNot (a : ST B tt θ) : ST B (tNot tt) (dNot θ) := fun σ H δ μ Φ Q S q k =>
  a σ H δ μ _ _ S q fun v H1 μ1 S1 e1 q1 => k (!v) H1 μ1 S1 e1 q1
def dAndV (φa φb : DE) : DE := fun Ψ δ μ Φ => φa Ψ δ μ fun x μ1 => ∃ b, x = .bl b ∧ (b = true → φb Ψ δ μ1 Φ) ∧ (b = false → Φ (.bl false) μ1)
def dOrV (φa φb : DE) : DE := fun Ψ δ μ Φ => φa Ψ δ μ fun x μ1 => ∃ b, x = .bl b ∧ (b = true → Φ (.bl true) μ1) ∧ (b = false → φb Ψ δ μ1 Φ)
def dNotV (φa : DE) : DE := fun Ψ δ μ Φ => φa Ψ δ μ fun x μ1 => ∃ b, x = .bl b ∧ Φ (.bl (!b)) μ1
theorem sAndV (a : SE B ta φa) (b : SE B tb φb) : SE B (tAndV ta tb) (dAndV φa φb) := fun σ H δ μ Φ Q S q k =>
  a σ H δ μ _ _ S q fun v H1 x μ1 S1 e1 r1 q1 => by
    obtain ⟨c, rfl, q2, q3⟩ := q1
    obtain rfl := Rep.bl_inv r1
    refine ⟨c, rfl, ?_⟩
    cases c with
    | true => exact b σ H1 δ μ1 _ _ S1 (q2 rfl) fun w H2 y μ2 S2 e2 r2 p => k w H2 y μ2 S2 (e1.trans e2) r2 p
    | false => exact k _ H1 _ μ1 S1 e1 (.bl false .nil) (q3 rfl)
theorem sOrV (a : SE B ta φa) (b : SE B tb φb) : SE B (tOrV ta tb) (dOrV φa φb) := fun σ H δ μ Φ Q S q k =>
  a σ H δ μ _ _ S q fun v H1 x μ1 S1 e1 r1 q1 => by
    obtain ⟨c, rfl, q2, q3⟩ := q1
    obtain rfl := Rep.bl_inv r1
    refine ⟨c, rfl, ?_⟩
    cases c with
    | true => exact k _ H1 _ μ1 S1 e1 (.bl true .nil) (q2 rfl)
    | false => exact b σ H1 δ μ1 _ _ S1 (q3 rfl) fun w H2 y μ2 S2 e2 r2 p => k w H2 y μ2 S2 (e1.trans e2) r2 p
theorem sNotV (a : SE B ta φa) : SE B (tNotV ta) (dNotV φa) := fun σ H δ μ Φ Q S q k =>
  a σ H δ μ _ _ S q fun v H1 x μ1 S1 e1 r1 q1 => by
    obtain ⟨c, rfl, q2⟩ := q1
    obtain rfl := Rep.bl_inv r1
    exact ⟨c, rfl, k _ H1 _ μ1 S1 e1 (.bl _ .nil) q2⟩
def dIf (θ : DT) (φa φb : DE) : DE := fun Ψ δ μ Φ => θ Ψ δ μ fun b μ1 => (b = true → φa Ψ δ μ1 Φ) ∧ (b = false → φb Ψ δ μ1 Φ)
theorem sIf (c : ST B tt θ) (a : SE B ta φa) (b : SE B tb φb) : SE B (tIf tt ta tb) (dIf θ φa φb) := fun σ H δ μ Φ Q S q k =>
  c σ H δ μ _ _ S q fun v H1 μ1 S1 e1 q1 => by
    cases v with
    | true => exact a σ H1 δ μ1 _ _ S1 (q1.1 rfl) fun w H2 y μ2 S2 e2 r2 p => k w H2 y μ2 S2 (e1.trans e2) r2 p
    | false => exact b σ H1 δ μ1 _ _ S1 (q1.2 rfl) fun w H2 y μ2 S2 e2 r2 p => k w H2 y μ2 S2 (e1.trans e2) r2 p
/-- a comparison of three -/
def dChain (ρ ρ' : DO) (φa φb φc : DE) : DE := fun Ψ δ μ Φ => φa Ψ δ μ fun x μ1 => φb Ψ δ μ1 fun y μ2 => ρ x y μ2 fun z μ3 => ∃ b, z = .bl b ∧ (b = true → φc Ψ δ μ3 fun u μ4 => ρ' y u μ4 Φ) ∧ (b = false → Φ (.bl false) μ3)
theorem sChain {r r' : R2} {ρ ρ' : DO} (h : RO K r ρ) (h' : RO K r' ρ') (a : SE B ta φa) (b : SE B tb φb) (c : SE B tc φc) : SE B (tChain r r' ta tb tc) (dChain ρ ρ' φa φb φc) := fun σ H δ μ Φ Q S q k =>
  a σ H δ μ _ _ S q fun v H1 x μ1 S1 e1 r1 q1 => b σ H1 δ μ1 _ _ S1 q1 fun w H2 y μ2 S2 e2 r2 q2 =>
    h H2 μ2 v w x y _ _ S2.sto (Reps.mono e2 r1) r2 q2 fun z H3 d μ3 e3 s3 r3 p => by
      obtain ⟨i, rfl, p1, p2⟩ := p
      obtain rfl := Rep.bl_inv r3
      refine ⟨i, rfl, ?_⟩
      have S3 := S2.step e3 s3
      cases i with
      | true =>
        exact c σ H3 δ μ3 _ _ S3 (p1 rfl) fun w4 H4 y4 μ4 S4 e4 r4 p4 =>
          h' H4 μ4 w w4 y y4 _ _ S4.sto (Reps.mono (e3.trans e4) r2) r4 p4 fun z5 H5 d5 μ5 e5 s5 r5 p5 => k z5 H5 d5 μ5 (S4.step e5 s5) (((e1.trans e2).trans e3).trans (e4.trans e5)) r5 p5
      | false => exact k _ H3 _ μ3 S3 ((e1.trans e2).trans e3) (.bl false .nil) (p2 rfl)
def dNil : DA := fun _ _ μ Φ => Φ [] μ
def dCons (φ : DE) (ψ : DA) : DA := fun Ψ δ μ Φ => φ Ψ δ μ fun x μ1 => ψ Ψ δ μ1 fun xs μ2 => Φ (x :: xs) μ2
theorem sNil : SA B tNil dNil := fun σ H δ μ Φ Q S q k => k [] H [] μ S .refl .nil q
theorem sCons (a : SE B ta φa) (b : SA B tas ψ) : SA B (tCons ta tas) (dCons φa ψ) := fun σ H δ μ Φ Q S q k =>
  a σ H δ μ _ _ S q fun v H1 x μ1 S1 e1 r1 q1 => b σ H1 δ μ1 _ _ S1 q1 fun vs H2 xs μ2 S2 e2 r2 q2 => k _ H2 _ μ2 S2 (e1.trans e2) (.cons (Reps.mono e2 r1) r2) q2
def dTup (ψ : DA) : DE := fun Ψ δ μ Φ => ψ Ψ δ μ fun xs μ1 => xs.length ≤ 100000 ∧ Φ (.tup xs) μ1
theorem rep_tup {K : Fg} {μ : Sto} {H : Hp} {p : Addr} {vs : List V} {ds : List D} (s : StoOk K μ H) (hp : H p = none) (r : Reps K μ H vs ds) : Rep K μ (upd H p (.tup vs)) (.ref p) (.pr ds) :=
  .pr ⟨.inl upd_same, .new s hp⟩ (r.mono (.new hp)) .nil
theorem rep_tupN {K : Fg} {μ : Sto} {H : Hp} {p : Addr} {o : Obj} {vs : List V} {ds : List D} (s : StoOk K μ H) (hp : H p = none) (ho : o.dict = none) (hc : o.cls = .type "tuple") (r : Reps K μ H vs ds) : Rep K μ (upd H p (.frz o (.tup vs))) (.ref p) (.tup ds) :=
  .tup (.inl ⟨o, upd_same, ho, hc, .new s hp⟩) (r.mono (.new hp)) .nil
theorem rep_lst {K : Fg} {μ : Sto} {H : Hp} {p : Addr} {vs : List V} {ds : List D} (s : StoOk K μ H) (hp : H p = none) (r : Reps K μ H vs ds) : Rep K μ (upd H p (.lst vs)) (.ref p) (.lst ds) :=
  .lst ⟨upd_same, .new s hp⟩ (r.mono (.new hp)) .nil
theorem sz {n : Nat} (h : n ≤ 100000) : n ≤ sizeLine := Nat.le_trans h (by decide)
theorem sTup (b : SA B tas ψ) : SE B (tTupN tas) (dTup ψ) := fun σ H δ μ Φ Q S q k =>
  b σ H δ μ _ _ S q fun vs H1 xs μ1 S1 e1 r1 q1 => ⟨sz (by rw [r1.length]; exact q1.1), fun p o ho hc hp => k _ _ _ μ1 (S1.step (.new hp) (S1.sto.new hp)) (e1.trans (.new hp)) (rep_tupN S1.sto hp ho hc r1) q1.2⟩
def dLst (ψ : DA) : DE := fun Ψ δ μ Φ => ψ Ψ δ μ fun xs μ1 => xs.length ≤ 100000 ∧ Φ (.lst xs) μ1
theorem sLst (b : SA B tas ψ) : SE B (tLst tas) (dLst ψ) := fun σ H δ μ Φ Q S q k =>
  b σ H δ μ _ _ S q fun vs H1 xs μ1 S1 e1 r1 q1 => ⟨sz (by rw [r1.length]; exact q1.1), fun p hp => k _ _ _ μ1 (S1.step (.new hp) (S1.sto.new hp)) (e1.trans (.new hp)) (rep_lst S1.sto hp r1) q1.2⟩
/-- a list that will change: its handle -/
def dOwn (ψ : DA) : DE := fun Ψ δ μ Φ => ψ Ψ δ μ fun xs μ1 => xs.length ≤ 100000 ∧ ∀ p, μ1 p = none → Φ (.hd (.ref p)) (sset μ1 p (.lst xs))
theorem sto_own {K : Fg} {μ : Sto} {H : Hp} {p : Addr} {vs : List V} {ds : List D} (s : StoOk K μ H) (hp : H p = none) (r : Reps K μ H vs ds) : StoOk K (sset μ p (.lst ds)) (upd H p (.lst vs)) :=
  s.cell (.newC s hp) ⟨vs, upd_same, r.mono (.newC s hp)⟩
theorem sOwn (b : SA B tas ψ) : SE B (tLst tas) (dOwn ψ) := fun σ H δ μ Φ Q S q k =>
  b σ H δ μ _ _ S q fun vs H1 xs μ1 S1 e1 r1 q1 => ⟨sz (by rw [r1.length]; exact q1.1), fun p hp =>
    k _ _ _ _ (S1.step (.newC S1.sto hp) (sto_own S1.sto hp r1)) (e1.trans (.newC S1.sto hp)) (.hd _ .nil) (q1.2 p (S1.sto.fresh hp))⟩
def dSeq (ω ζ : DSt) : DSt := fun Ψ Δ δ μ => ω Ψ { Δ with nx := ζ Ψ Δ } δ μ
theorem sSeq (a : SS B ts ω) (b : SS B tz ζ) : SS B (tSeq ts tz) (dSeq ω ζ) := fun D Δ σ H δ μ E S q =>
  a { D with nx := tz D } { Δ with nx := ζ B.Ψ Δ } σ H δ μ ⟨fun σ' H' δ' μ' S' q' => b D Δ σ' H' δ' μ' E S' q', E.rt, E.bk, E.ct⟩ S q
def dNext : DSt := fun _ Δ δ μ => Δ.nx δ μ
theorem sNext : SS B tNext dNext := fun D Δ σ H δ μ E S q => E.nx σ H δ μ S q
def dBreak : DSt := fun _ Δ δ μ => Δ.bk δ μ
def dCont : DSt := fun _ Δ δ μ => Δ.ct δ μ
def dDrop (φ : DE) : DSt := fun Ψ Δ δ μ => φ Ψ δ μ fun _ μ1 => Δ.nx δ μ1
theorem sDrop (a : SE B ta φa) : SS B (tDrop ta) (dDrop φa) := fun D Δ σ H δ μ E S q => a σ H δ μ _ _ S q fun v H1 x μ1 S1 e1 r1 q1 => E.nx σ H1 δ μ1 S1 q1
def dRet (φ : DE) : DSt := fun Ψ Δ δ μ => φ Ψ δ μ Δ.rt
theorem sRet (a : SE B ta φa) : SS B (tRet ta) (dRet φa) := fun D Δ σ H δ μ E S q => a σ H δ μ _ _ S q fun v H1 x μ1 S1 e1 r1 q1 => E.rt v H1 x μ1 σ δ S1 r1 q1
def dRetN : DSt := fun _ Δ δ μ => Δ.rt .non μ
def dIfS (θ : DT) (ω ζ : DSt) : DSt := fun Ψ Δ δ μ => θ Ψ δ μ fun b μ1 => (b = true → ω Ψ Δ δ μ1) ∧ (b = false → ζ Ψ Δ δ μ1)
theorem sIfS (c : ST B tt θ) (a : SS B ts ω) (b : SS B tz ζ) : SS B (tIfS tt ts tz) (dIfS θ ω ζ) := fun D Δ σ H δ μ E S q =>
  c σ H δ μ _ _ S q fun v H1 μ1 S1 e1 q1 => by
    cases v with
    | true => exact a D Δ σ H1 δ μ1 E S1 (q1.1 rfl)
    | false => exact b D Δ σ H1 δ μ1 E S1 (q1.2 rfl)
/-- targets -/
abbrev DG := D → DEnv → Sto → (DEnv → Sto → Prop) → Prop
def SG {K : Fg} (B : Bx K) (g : TG) (γ : DG) : Prop := ∀ (v : V) (d : D) (σ : L2.St) (H : Hp) (δ : DEnv) (μ : Sto) (Φ : DEnv → Sto → Prop) (Q : L2.St → Hp → Prop), B.S σ H δ μ → Rep K μ H v d → γ d δ μ Φ →
  (∀ σ' H' δ' μ', B.S σ' H' δ' μ' → Evo μ H μ' H' → Φ δ' μ' → Q σ' H') → g v σ H Q
def SGs {K : Fg} (B : Bx K) (g : TGs) (γ : List D → DEnv → Sto → (DEnv → Sto → Prop) → Prop) : Prop := ∀ (v : List V) (d : List D) (σ : L2.St) (H : Hp) (δ : DEnv) (μ : Sto) (Φ : DEnv → Sto → Prop) (Q : L2.St → Hp → Prop), B.S σ H δ μ → Reps K μ H v d → γ d δ μ Φ →
  (∀ σ' H' δ' μ', B.S σ' H' δ' μ' → Evo μ H μ' H' → Φ δ' μ' → Q σ' H') → g v σ H Q
def eName (i : Nat) : DG := fun d δ μ Φ => Φ (δ.set i (some d)) μ
theorem sName {i : Nat} : SG B (gName i) (eName i) := fun v d σ H δ μ Φ Q S r q k => k _ H _ μ (S.set r i) .refl q
def eNil : List D → DEnv → Sto → (DEnv → Sto → Prop) → Prop := fun ds δ μ Φ => ds = [] ∧ Φ δ μ
def eCons (γ : DG) (η : List D → DEnv → Sto → (DEnv → Sto → Prop) → Prop) : List D → DEnv → Sto → (DEnv → Sto → Prop) → Prop := fun ds δ μ Φ => ∃ d r, ds = d :: r ∧ γ d δ μ fun δ' μ' => η r δ' μ' Φ
theorem sgNil : SGs B gNil eNil := fun v d σ H δ μ Φ Q S r q k => by
  obtain ⟨rfl, q⟩ := q
  cases r
  exact ⟨rfl, k σ H δ μ S .refl q⟩
theorem sgCons {g : TG} {gs : TGs} {γ : DG} {η : List D → DEnv → Sto → (DEnv → Sto → Prop) → Prop} (a : SG B g γ) (b : SGs B gs η) : SGs B (gCons g gs) (eCons γ η) := fun v d σ H δ μ Φ Q S r q k => by
  obtain ⟨x, xs, rfl, q⟩ := q
  cases v with
  | nil => have := r.length; simp at this
  | cons v vs =>
    exact ⟨v, vs, rfl, a v x σ H δ μ _ _ S r.split.1 q fun σ1 H1 δ1 μ1 S1 e1 q1 => b vs xs σ1 H1 δ1 μ1 _ _ S1 (r.split.2.mono e1) q1 fun σ2 H2 δ2 μ2 S2 e2 q2 => k σ2 H2 δ2 μ2 S2 (e1.trans e2) q2⟩
def tpl : D → Option (List D)
  | .tup ds => some ds
  | .pr ds => some ds
  | _ => none
def eTup (n : Nat) (η : List D → DEnv → Sto → (DEnv → Sto → Prop) → Prop) : DG := fun d δ μ Φ => ∃ ds, tpl d = some ds ∧ ds.length = n ∧ η ds δ μ Φ
theorem Rep.tup_inv {K : Fg} {μ : Sto} {H : Hp} {v : V} {ds : List D} (h : Rep K μ H v (.tup ds)) : ∃ a vs, v = .ref a ∧ TupAt K μ H a vs ∧ Reps K μ H vs ds := by
  cases h with
  | tup h1 h2 _ => exact ⟨_, _, rfl, h1, h2⟩
theorem Rep.lst_inv {K : Fg} {μ : Sto} {H : Hp} {v : V} {ds : List D} (h : Rep K μ H v (.lst ds)) : ∃ a vs, v = .ref a ∧ LstAt μ H a vs ∧ Reps K μ H vs ds := by
  cases h with
  | lst h1 h2 _ => exact ⟨_, _, rfl, h1, h2⟩
theorem Rep.tpl_inv {K : Fg} {μ : Sto} {H : Hp} {v : V} {d : D} {ds : List D} (h : Rep K μ H v d) (e : tpl d = some ds) : ∃ a vs, v = .ref a ∧ SqT K H a vs ∧ Reps K μ H vs ds := by
  cases h with
  | tup h1 h2 _ => cases e; exact ⟨_, _, rfl, h1.sq, h2⟩
  | pr h1 h2 _ => cases e; exact ⟨_, _, rfl, h1.sq, h2⟩
  | _ => cases e
theorem sgTup {n : Nat} {gs : TGs} {η : List D → DEnv → Sto → (DEnv → Sto → Prop) → Prop} (b : SGs B gs η) : SG B (gTup K n gs) (eTup n η) := fun v d σ H δ μ Φ Q S r q k => by
  obtain ⟨ds, ed, hn, q⟩ := q
  obtain ⟨a, vs, rfl, ht, hr⟩ := Rep.tpl_inv r ed
  exact ⟨a, vs, rfl, ht, by rw [hr.length]; exact hn, b vs ds σ H δ μ Φ Q S hr q k⟩
def dAsg (φ : DE) (γ : DG) : DSt := fun Ψ Δ δ μ => φ Ψ δ μ fun x μ1 => γ x δ μ1 Δ.nx
theorem sAsg {g : TG} {γ : DG} (a : SE B ta φa) (b : SG B g γ) : SS B (tAsg ta g) (dAsg φa γ) := fun D Δ σ H δ μ E S q =>
  a σ H δ μ _ _ S q fun v H1 x μ1 S1 e1 r1 q1 => b v x σ H1 δ μ1 _ _ S1 r1 q1 fun σ2 H2 δ2 μ2 S2 e2 q2 => E.nx σ2 H2 δ2 μ2 S2 q2
/-- x += e -/
def dAug (i : Nat) (φ : DE) (ρ : DO) : DSt := fun Ψ Δ δ μ => ∃ x, δ[i]? = some (some x) ∧ φ Ψ δ μ fun y μ1 => ρ x y μ1 fun z μ2 => Δ.nx (δ.set i (some z)) μ2
theorem sAug {i : Nat} {ip : TIp} {ρ : DO} (h : RO K ip ρ) (a : SE B ta φa) : SS B (tAug i ta ip) (dAug i φa ρ) := fun D Δ σ H δ μ E S q => by
  obtain ⟨x, ex, q⟩ := q
  obtain ⟨v, ev, rv⟩ := S.env.at_ i x ex
  exact ⟨v, ev, a σ H δ μ _ _ S q fun w H1 y μ1 S1 e1 r1 q1 => h H1 μ1 v w x y _ _ S1.sto (Reps.mono e1 rv) r1 q1 fun z H2 c μ2 e2 s2 r2 q2 => E.nx _ _ _ _ ((S1.step e2 s2).set r2 i) q2⟩
/-- while, by a word and a number that falls -/
def dWhile (θ : DT) (ω : DSt) : DSt := fun Ψ Δ δ μ => ∃ W : Nat → DEnv → Sto → Prop, (∃ m, W m δ μ) ∧ ∀ m δ μ, W m δ μ → θ Ψ δ μ fun b μ1 =>
  (b = true → ω Ψ { Δ with nx := fun δ' μ' => ∃ m', m' < m ∧ W m' δ' μ', ct := fun δ' μ' => ∃ m', m' < m ∧ W m' δ' μ', bk := Δ.nx } δ μ1) ∧ (b = false → Δ.nx δ μ1)
theorem sWhile (c : ST B tt θ) (a : SS B ts ω) : SS B (tWhile tt ts) (dWhile θ ω) := fun D Δ σ H δ μ E S q => by
  obtain ⟨W, ⟨m0, w0⟩, q⟩ := q
  refine ⟨fun m σ H => ∃ δ μ, B.S σ H δ μ ∧ W m δ μ, ⟨m0, δ, μ, S, w0⟩, fun m σ1 H1 ⟨δ1, μ1, S1, w1⟩ => ?_⟩
  refine c σ1 H1 δ1 μ1 _ _ S1 (q m δ1 μ1 w1) fun b H2 μ2 S2 e2 q2 => ?_
  cases b with
  | true =>
    refine ⟨fun σ' H' => ∃ δ' μ', B.S σ' H' δ' μ' ∧ ∃ m', m' < m ∧ W m' δ' μ', fun σ' H' ⟨δ', μ', S', m', hm, w'⟩ => ⟨m', hm, δ', μ', S', w'⟩, ?_⟩
    exact a _ { Δ with nx := fun δ' μ' => ∃ m', m' < m ∧ W m' δ' μ', ct := fun δ' μ' => ∃ m', m' < m ∧ W m' δ' μ', bk := Δ.nx } σ1 H2 δ1 μ2 ⟨fun σ' H' δ' μ' S' q' => ⟨δ', μ', S', q'⟩, E.rt, E.nx, fun σ' H' δ' μ' S' q' => ⟨δ', μ', S', q'⟩⟩ S2 (q2.1 rfl)
  | false => exact E.nx _ _ _ _ S2 (q2.2 rfl)
end
end DW
set_option Elab.async false
set_option linter.all false
set_option maxRecDepth 100000
namespace DW
open PySem PySem.Spec L2
section
variable {K : Fg}
def oI (C : Int → Int → Prop) (g : Int → Int → D) : DO := fun x y μ Φ => ∃ i j, x = .int i ∧ y = .int j ∧ C i j ∧ Φ (g i j) μ
def oI0 (g : Int → Int → D) : DO := fun x y μ Φ => ∃ i j, x = .int i ∧ y = .int j ∧ Φ (g i j) μ
theorem roI {C : Int → Int → Prop} {g : Int → Int → V} {g' : Int → Int → D} (hg : ∀ i j μ H, Rep K μ H (g i j) (g' i j)) : RO K (rI C g) (oI C g') := fun H μ v w d e Φ Q s r1 r2 q k => by
  obtain ⟨i, j, rfl, rfl, hc, q⟩ := q
  exact ⟨i, j, Rep.int_inv r1, Rep.int_inv r2, hc, k _ H _ μ .refl s (hg i j μ H) q⟩
theorem roI0 {g : Int → Int → V} {g' : Int → Int → D} (hg : ∀ i j μ H, Rep K μ H (g i j) (g' i j)) : RO K (rI0 g) (oI0 g') := fun H μ v w d e Φ Q s r1 r2 q k => by
  obtain ⟨i, j, rfl, rfl, q⟩ := q
  exact ⟨i, j, Rep.int_inv r1, Rep.int_inv r2, k _ H _ μ .refl s (hg i j μ H) q⟩
theorem roInt {C : Int → Int → Prop} {g : Int → Int → Int} : RO K (rI C fun i j => .int (g i j)) (oI C fun i j => .int (g i j)) := roI fun _ _ _ _ => .int _ .nil
theorem roInt0 {g : Int → Int → Int} : RO K (rI0 fun i j => .int (g i j)) (oI0 fun i j => .int (g i j)) := roI0 fun _ _ _ _ => .int _ .nil
theorem roBl0 {g : Int → Int → Bool} : RO K (rI0 fun i j => .bl (g i j)) (oI0 fun i j => .bl (g i j)) := roI0 fun _ _ _ _ => .bl _ .nil
theorem roIp {g : Int → Int → Int} : RO K (ipI g) (oI0 fun i j => .int (g i j)) := fun H μ v w d e Φ Q s r1 r2 q k => by
  obtain ⟨i, j, rfl, rfl, q⟩ := q
  exact ⟨i, j, Rep.int_inv r1, Rep.int_inv r2, k _ H _ μ .refl s (.int _ .nil) q⟩
def uI (g : Int → Int) : DU := fun x μ Φ => ∃ i, x = .int i ∧ Φ (.int (g i)) μ
def sEq : D → D → Option Bool
  | .int i, .int j => some (decide (i = j))
  | .str i, .str j => some (decide (i = j))
  | .bl i, .bl j => some (decide (i = j))
  | .non, .non => some true
  | .non, .int _ => some false
  | .int _, .non => some false
  | .non, .bl _ => some false
  | .bl _, .non => some false
  | .non, .str _ => some false
  | .str _, .non => some false
  | .int _, .str _ => some false
  | .str _, .int _ => some false
  | .bl _, .str _ => some false
  | .str _, .bl _ => some false
  | _, _ => none
theorem sEq_ok {μ : Sto} {H : Hp} {v w : V} {d e : D} {b : Bool} (r1 : Rep K μ H v d) (r2 : Rep K μ H w e) (h : sEq d e = some b) : scal v w = true ∧ decide (v = w) = b := by
  cases d <;> cases e <;> (first | (unfold sEq at h; cases h; done) | skip) <;> cases r1 <;> cases r2 <;> (injection h with h; subst h; first | exact ⟨rfl, by simp⟩ | exact ⟨rfl, rfl⟩)
def oEq : DO := fun x y μ Φ => ∃ b, sEq x y = some b ∧ Φ (.bl b) μ
def oNe : DO := fun x y μ Φ => ∃ b, sEq x y = some b ∧ Φ (.bl (!b)) μ
theorem roEq : RO K rEq oEq := fun H μ v w d e Φ Q s r1 r2 q k => by
  obtain ⟨b, hb, q⟩ := q
  obtain ⟨h1, h2⟩ := sEq_ok r1 r2 hb
  exact ⟨h1, by rw [h2]; exact k _ H _ μ .refl s (.bl _ .nil) q⟩
theorem roNe : RO K rNe oNe := fun H μ v w d e Φ Q s r1 r2 q k => by
  obtain ⟨b, hb, q⟩ := q
  obtain ⟨h1, h2⟩ := sEq_ok r1 r2 hb
  exact ⟨h1, by rw [h2]; exact k _ H _ μ .refl s (.bl _ .nil) q⟩
def isNone : D → Option Bool
  | .non => some true
  | .bl _ => some false
  | .int _ => some false
  | .str _ => some false
  | .tup _ => some false
  | .lst _ => some false
  | .obj _ _ _ => some false
  | _ => none
theorem isNone_ok {μ : Sto} {H : Hp} {v : V} {d : D} {b : Bool} (r1 : Rep K μ H v d) (h : isNone d = some b) : decide (v = .non) = b := by
  cases d <;> unfold isNone at h <;> first | (cases h; done) | (cases h; cases r1; rfl) | (cases h; cases r1; simp)
def oIsN : DO := fun x y μ Φ => y = .non ∧ ∃ b, isNone x = some b ∧ Φ (.bl b) μ
def oNotN : DO := fun x y μ Φ => y = .non ∧ ∃ b, isNone x = some b ∧ Φ (.bl (!b)) μ
theorem roIsN : RO K (fun x y H Q => y = .non ∧ Q (.bl (decide (x = .non))) H) oIsN := fun H μ v w d e Φ Q s r1 r2 q k => by
  obtain ⟨rfl, b, hb, q⟩ := q
  exact ⟨Rep.non_inv r2, by rw [isNone_ok r1 hb]; exact k _ H _ μ .refl s (.bl _ .nil) q⟩
theorem roNotN : RO K (fun x y H Q => y = .non ∧ Q (.bl (!decide (x = .non))) H) oNotN := fun H μ v w d e Φ Q s r1 r2 q k => by
  obtain ⟨rfl, b, hb, q⟩ := q
  exact ⟨Rep.non_inv r2, by rw [isNone_ok r1 hb]; exact k _ H _ μ .refl s (.bl _ .nil) q⟩
def flatD : D → Bool
  | .non => true
  | .bl _ => true
  | .int _ => true
  | .str _ => true
  | _ => false
def eqF : D → D → Bool
  | .non, .non => true
  | .bl a, .bl b => a == b
  | .bl a, .int b => (if a then 1 else 0) == b
  | .int a, .bl b => a == (if b then 1 else 0)
  | .int a, .int b => a == b
  | .str a, .str b => a == b
  | _, _ => false
theorem flatD_ok {μ : Sto} {H : Hp} {v : V} {d : D} (r : Rep K μ H v d) (h : flatD d = true) : flatV v = true := by
  cases d <;> (first | (exact absurd h Bool.false_ne_true) | skip) <;> cases r <;> rfl
theorem eqF_ok {μ : Sto} {H : Hp} {v w : V} {d e : D} (r1 : Rep K μ H v d) (r2 : Rep K μ H w e) (f1 : flatD d = true) (f2 : flatD e = true) : eqV v w = eqF d e := by
  cases d <;> (first | (exact absurd f1 Bool.false_ne_true) | skip) <;> cases r1 <;> cases e <;> (first | (exact absurd f2 Bool.false_ne_true) | skip) <;> cases r2 <;> rfl
theorem flatAll_ok {μ : Sto} {H : Hp} : ∀ {vs : List V} {ds : List D}, Reps K μ H vs ds → ds.all flatD = true → vs.all flatV = true
  | [], [], _, _ => rfl
  | [], _ :: _, r, _ => by have := r.length; simp at this
  | _ :: _, [], r, _ => by have := r.length; simp at this
  | v :: vs, d :: ds, r, h => by
    rw [List.all_cons, Bool.and_eq_true] at h ⊢
    exact ⟨flatD_ok r.split.1 h.1, flatAll_ok r.split.2 h.2⟩
def inD (x : D) (ds : List D) : Bool := ds.any fun y => eqF y x
theorem inD_ok {μ : Sto} {H : Hp} {v : V} {d : D} (r1 : Rep K μ H v d) (f1 : flatD d = true) : ∀ {vs : List V} {ds : List D}, Reps K μ H vs ds → ds.all flatD = true → inV v vs = inD d ds
  | [], [], _, _ => rfl
  | [], _ :: _, r, _ => by have := r.length; simp at this
  | _ :: _, [], r, _ => by have := r.length; simp at this
  | w :: vs, e :: ds, r, h => by
    rw [List.all_cons, Bool.and_eq_true] at h
    have ih := inD_ok r1 f1 r.split.2 h.2
    unfold inV inD at ih ⊢
    rw [List.any_cons, List.any_cons, eqF_ok r.split.1 r1 h.1 f1, ih]
/-- the items of a tuple, of a list, of a handle's list -/
inductive Items (μ : Sto) : D → List D → Prop
  | tup (ds) : Items μ (.tup ds) ds
  | lst (ds) : Items μ (.lst ds) ds
  | own {a ds} : μ a = some (.lst ds) → Items μ (.hd (.ref a)) ds
  | frz {a ds} : μ a = some (.frz ds) → Items μ (.hd (.ref a)) ds
  | scr (ns) : Items μ (.scr ns) (ns.map .int)
theorem reps_ints {μ : Sto} {H : Hp} : ∀ (ns : List Int), Reps K μ H (ns.map V.int) (ns.map D.int)
  | [] => .nil
  | n :: ns => .int n (reps_ints ns)
theorem Items.ok {μ : Sto} {H : Hp} {v : V} {d : D} {ds : List D} (s : StoOk K μ H) (r : Rep K μ H v d) (h : Items μ d ds) : ∃ a vs, v = .ref a ∧ (SqL K H a vs ∨ SqT K H a vs) ∧ Reps K μ H vs ds := by
  cases h with
  | tup => obtain ⟨a, vs, rfl, h1, h2⟩ := Rep.tup_inv r; exact ⟨a, vs, rfl, .inr h1.sq, h2⟩
  | lst => obtain ⟨a, vs, rfl, h1, h2⟩ := Rep.lst_inv r; exact ⟨a, vs, rfl, .inl h1.sq, h2⟩
  | own h => obtain rfl := Rep.hd_inv r; obtain ⟨vs, h1, h2⟩ := s _ _ h; exact ⟨_, vs, rfl, .inl (.of h1), h2⟩
  | frz h => obtain rfl := Rep.hd_inv r; obtain ⟨vs, h1, h2⟩ := s _ _ h; exact ⟨_, vs, rfl, .inl (.of h1), h2⟩
  | scr ns =>
    cases r with
    | scr h1 _ => exact ⟨_, _, rfl, .inl h1.sq, reps_ints ns⟩
def oIn (neg : Bool) : DO := fun x y μ Φ => ∃ ds, Items μ y ds ∧ flatD x = true ∧ ds.all flatD = true ∧ Φ (.bl (if neg then !inD x ds else inD x ds)) μ
theorem roIn {neg : Bool} : RO K (rIn K neg) (oIn neg) := fun H μ v w d e Φ Q s r1 r2 q k => by
  obtain ⟨ds, hi, f1, f2, q⟩ := q
  obtain ⟨a, vs, rfl, h1, h2⟩ := hi.ok s r2
  refine ⟨a, vs, rfl, h1, flatD_ok r1 f1, flatAll_ok h2 f2, ?_⟩
  rw [inD_ok r1 f1 h2 f2]
  exact k _ H _ μ .refl s (.bl _ .nil) q
theorem atI_reps {μ : Sto} {H : Hp} {vs : List V} {ds : List D} (r : Reps K μ H vs ds) {i : Int} {d : D} (h : atI ds i = some d) : ∃ v, atI vs i = some v ∧ Rep K μ H v d := by
  unfold atI at h ⊢
  rw [r.length]
  cases e : ixN ds.length i with
  | none => rw [e] at h; cases h
  | some j => rw [e] at h; exact r.get h
def isTup : D → Bool
  | .tup _ => true
  | _ => false
def oIxT : DO := fun x y μ Φ => ∃ ds i d, x = .tup ds ∧ y = .int i ∧ atI ds i = some d ∧ Φ d μ
theorem roIxT : RO K (rIxT K) oIxT := fun H μ v w d e Φ Q s r1 r2 q k => by
  obtain ⟨ds, i, c, rfl, rfl, hi, q⟩ := q
  obtain ⟨a, vs, rfl, h1, h2⟩ := Rep.tup_inv r1
  obtain ⟨z, hz, rz⟩ := atI_reps h2 hi
  exact ⟨a, vs, i, z, rfl, Rep.int_inv r2, h1.sq, hz, k _ H _ μ .refl s rz q⟩
def oIxL : DO := fun x y μ Φ => ∃ ds i d, Items μ x ds ∧ isTup x = false ∧ y = .int i ∧ atI ds i = some d ∧ Φ d μ
theorem Items.okL {μ : Sto} {H : Hp} {v : V} {d : D} {ds : List D} (s : StoOk K μ H) (r : Rep K μ H v d) (h : Items μ d ds) (n : isTup d = false) : ∃ a vs, v = .ref a ∧ SqL K H a vs ∧ Reps K μ H vs ds := by
  cases h with
  | tup => cases n
  | lst => obtain ⟨a, vs, rfl, h1, h2⟩ := Rep.lst_inv r; exact ⟨a, vs, rfl, h1.sq, h2⟩
  | own h => obtain rfl := Rep.hd_inv r; obtain ⟨vs, h1, h2⟩ := s _ _ h; exact ⟨_, vs, rfl, .of h1, h2⟩
  | frz h => obtain rfl := Rep.hd_inv r; obtain ⟨vs, h1, h2⟩ := s _ _ h; exact ⟨_, vs, rfl, .of h1, h2⟩
  | scr ns =>
    cases r with
    | scr h1 _ => exact ⟨_, _, rfl, h1.sq, reps_ints ns⟩
theorem roIxL : RO K (rIxL K) oIxL := fun H μ v w d e Φ Q s r1 r2 q k => by
  obtain ⟨ds, i, c, hi, hn, rfl, ha, q⟩ := q
  obtain ⟨a, vs, rfl, h1, h2⟩ := hi.okL s r1 hn
  obtain ⟨z, hz, rz⟩ := atI_reps h2 ha
  exact ⟨a, vs, i, z, rfl, Rep.int_inv r2, h1, hz, k _ H _ μ .refl s rz q⟩
/-- t + u, tuples -/
def oCatT : DO := fun x y μ Φ => ∃ xs ys, x = .tup xs ∧ y = .tup ys ∧ xs.length + ys.length ≤ 100000 ∧ Φ (.tup (xs ++ ys)) μ
theorem roCatT : RO K (rCatN K) oCatT := fun H μ v w d e Φ Q s r1 r2 q k => by
  obtain ⟨xs, ys, rfl, rfl, hz, q⟩ := q
  obtain ⟨a, vs, rfl, h1, h2⟩ := Rep.tup_inv r1
  obtain ⟨b, us, rfl, h3, h4⟩ := Rep.tup_inv r2
  refine ⟨a, b, vs, us, rfl, rfl, h1.sq, h3.sq, sz (by rw [h2.length, h4.length]; exact hz), fun e => ?_, fun _ e => ?_, fun _ _ p o ho hc hp => ?_⟩
  · subst e
    have ex : xs = [] := List.eq_nil_of_length_eq_zero (by rw [← h2.length]; rfl)
    subst ex
    exact k _ H _ μ .refl s r2 q
  · subst e
    have ex : ys = [] := List.eq_nil_of_length_eq_zero (by rw [← h4.length]; rfl)
    subst ex
    rw [List.append_nil] at q
    exact k _ H _ μ .refl s r1 q
  · exact k _ _ _ μ (.new hp) (s.new hp) (rep_tupN s hp ho hc (h2.append h4)) q
/-- xs + ys, lists -/
def oCatL : DO := fun x y μ Φ => ∃ xs ys, x = .lst xs ∧ y = .lst ys ∧ xs.length + ys.length ≤ 100000 ∧ Φ (.lst (xs ++ ys)) μ
theorem roCatL : RO K rCat oCatL := fun H μ v w d e Φ Q s r1 r2 q k => by
  obtain ⟨xs, ys, rfl, rfl, hz, q⟩ := q
  obtain ⟨a, vs, rfl, h1, h2⟩ := Rep.lst_inv r1
  obtain ⟨b, us, rfl, h3, h4⟩ := Rep.lst_inv r2
  exact ⟨a, b, vs, us, rfl, rfl, h1.1, h3.1, sz (by rw [h2.length, h4.length]; exact hz), fun p hp => k _ _ _ μ (.new hp) (s.new hp) (rep_lst s hp (h2.append h4)) q⟩
/-- t * k for k of two or more -/
theorem reps_rep {μ : Sto} {H : Hp} {vs : List V} {ds : List D} (r : Reps K μ H vs ds) : ∀ n, Reps K μ H (List.replicate n vs).flatten (List.replicate n ds).flatten
  | 0 => .nil
  | n + 1 => by
    rw [List.replicate_succ, List.replicate_succ, List.flatten_cons, List.flatten_cons]
    exact r.append (reps_rep r n)
def dNoPart : XP → DEnv → Sto → (Option Int → Sto → Prop) → Prop := fun _ _ μ Φ => Φ none μ
def dPart (φ : DE) : XP → DEnv → Sto → (Option Int → Sto → Prop) → Prop := fun Ψ δ μ Φ => φ Ψ δ μ fun x μ1 => ∃ i, x = .int i ∧ Φ (some i) μ1
def SO (B : Bx K) (to : TO) (φ : XP → DEnv → Sto → (Option Int → Sto → Prop) → Prop) : Prop := ∀ (σ : L2.St) (H : Hp) (δ : DEnv) (μ : Sto) (Φ : Option Int → Sto → Prop) (Q : Option Int → Hp → Prop), B.S σ H δ μ → φ B.Ψ δ μ Φ →
  (∀ o H' μ', B.S σ H' δ μ' → Evo μ H μ' H' → Φ o μ' → Q o H') → to σ H Q
theorem sNoPart {B : Bx K} : SO B tNoPart dNoPart := fun σ H δ μ Φ Q S q k => k none H μ S .refl q
theorem sPart {B : Bx K} {te : TE} {φ : DE} (a : SE B te φ) : SO B (tPart te) (dPart φ) := fun σ H δ μ Φ Q S q k =>
  a σ H δ μ _ _ S q fun v H1 x μ1 S1 e1 r1 q1 => by
    obtain ⟨i, rfl, q2⟩ := q1
    obtain rfl := Rep.int_inv r1
    exact ⟨i, rfl, k (some i) H1 μ1 S1 e1 q2⟩
def cutD (xs : List D) (lo hi : Option Int) : List D := (xs.drop (HT.sIx xs.length 0 lo)).take (HT.sIx xs.length xs.length hi - HT.sIx xs.length 0 lo)
theorem cut_reps {μ : Sto} {H : Hp} {vs : List V} {ds : List D} (r : Reps K μ H vs ds) (lo hi : Option Int) : Reps K μ H (cutV vs lo hi) (cutD ds lo hi) := by
  unfold cutV cutD
  rw [r.length]
  exact (r.drop _).take _
def dSlT (φ : DE) (ol oh : XP → DEnv → Sto → (Option Int → Sto → Prop) → Prop) : DE := fun Ψ δ μ Φ => φ Ψ δ μ fun x μ1 => ol Ψ δ μ1 fun lo μ2 => oh Ψ δ μ2 fun hi μ3 => ∃ ds, x = .tup ds ∧ Φ (.tup (cutD ds lo hi)) μ3
theorem cutD_whole {ds : List D} {lo hi : Option Int} (h : HT.sIx ds.length 0 lo = 0 ∧ HT.sIx ds.length ds.length hi = ds.length) : cutD ds lo hi = ds := by
  unfold cutD
  rw [h.1, h.2, List.drop_zero, Nat.sub_zero, List.take_length]
theorem sSlT {B : Bx K} {te : TE} {tl th : TO} {φ : DE} {ol oh : XP → DEnv → Sto → (Option Int → Sto → Prop) → Prop} (a : SE B te φ) (b : SO B tl ol) (c : SO B th oh) : SE B (tSl (rSlN K) te tl th) (dSlT φ ol oh) := fun σ H δ μ Φ Q S q k =>
  a σ H δ μ _ _ S q fun v H1 x μ1 S1 e1 r1 q1 => b σ H1 δ μ1 _ _ S1 q1 fun lo H2 μ2 S2 e2 q2 => c σ H2 δ μ2 _ _ S2 q2 fun hi H3 μ3 S3 e3 q3 => by
    obtain ⟨ds, rfl, q3⟩ := q3
    obtain ⟨p, vs, rfl, h1, h2⟩ := Rep.tup_inv ((r1.mono e2).mono e3)
    refine ⟨p, vs, rfl, h1.sq, fun w => ?_, fun w o ob hd hc ho => ?_⟩
    · rw [h2.length] at w
      rw [cutD_whole w] at q3
      exact k _ H3 _ μ3 S3 ((e1.trans e2).trans e3) (.tup h1 h2 .nil) q3
    · exact k _ _ _ μ3 (S3.step (.new ho) (S3.sto.new ho)) (((e1.trans e2).trans e3).trans (.new ho)) (rep_tupN S3.sto ho hd hc (cut_reps h2 lo hi)) q3
def dSlL (φ : DE) (ol oh : XP → DEnv → Sto → (Option Int → Sto → Prop) → Prop) : DE := fun Ψ δ μ Φ => φ Ψ δ μ fun x μ1 => ol Ψ δ μ1 fun lo μ2 => oh Ψ δ μ2 fun hi μ3 => ∃ ds, Items μ3 x ds ∧ isTup x = false ∧ Φ (.lst (cutD ds lo hi)) μ3
/-- xs[::-1], lists -/
def dRevL (φ : DE) : DE := fun Ψ δ μ Φ => φ Ψ δ μ fun x μ1 => ∃ ds, Items μ1 x ds ∧ isTup x = false ∧ Φ (.lst ds.reverse) μ1
abbrev DC := List D → Sto → DK → Prop
def RC (K : Fg) (r : List V → Hp → VK → Prop) (ρ : DC) : Prop := ∀ (H : Hp) (μ : Sto) (vs : List V) (ds : List D) (Φ : DK) (Q : VK), StoOk K μ H → Reps K μ H vs ds → ρ ds μ Φ →
  (∀ z H' c μ', Evo μ H μ' H' → StoOk K μ' H' → Rep K μ' H' z c → Φ c μ' → Q z H') → r vs H Q
def dCB (ρ : DC) (ψ : DA) : DE := fun Ψ δ μ Φ => ψ Ψ δ μ fun xs μ1 => ρ xs μ1 Φ
theorem sCB {B : Bx K} {r : List V → Hp → VK → Prop} {ρ : DC} {tas : TA} {ψ : DA} (h : RC K r ρ) (a : SA B tas ψ) : SE B (tCB r tas) (dCB ρ ψ) := fun σ H δ μ Φ Q S q k =>
  a σ H δ μ _ _ S q fun vs H1 xs μ1 S1 e1 r1 q1 => h H1 μ1 vs xs Φ Q S1.sto r1 q1 fun z H3 c μ3 e3 s3 r3 p => k z H3 c μ3 (S1.step e3 s3) (e1.trans e3) r3 p
theorem reps1 {μ : Sto} {H : Hp} {vs : List V} {d : D} (r : Reps K μ H vs [d]) : ∃ v, vs = [v] ∧ Rep K μ H v d := by
  cases vs with
  | nil => have := r.length; simp at this
  | cons v vs =>
    cases vs with
    | nil => exact ⟨v, rfl, r⟩
    | cons w vs => have := r.length; simp at this
theorem reps2 {μ : Sto} {H : Hp} {vs : List V} {d e : D} (r : Reps K μ H vs [d, e]) : ∃ v w, vs = [v, w] ∧ Rep K μ H v d ∧ Rep K μ H w e := by
  cases vs with
  | nil => have := r.length; simp at this
  | cons v vs =>
    obtain ⟨w, rfl, r2⟩ := reps1 r.split.2
    exact ⟨v, w, rfl, r.split.1, r2⟩
def cLen : DC := fun xs μ Φ => ∃ x ds, xs = [x] ∧ Items μ x ds ∧ Φ (.int ds.length) μ
theorem rcLen : RC K (fun xs H Q => ∃ p ys, xs = [.ref p] ∧ (SqL K H p ys ∨ SqT K H p ys) ∧ Q (.int ys.length) H) cLen := fun H μ vs ds Φ Q s r q k => by
  obtain ⟨x, es, rfl, hi, q⟩ := q
  obtain ⟨v, rfl, r⟩ := reps1 r
  obtain ⟨a, us, rfl, h1, h2⟩ := hi.ok s r
  refine ⟨a, us, rfl, h1, ?_⟩
  rw [h2.length]
  exact k _ H _ μ .refl s (.int _ .nil) q
/-- list(..) of a list or tuple -/
def cList : DC := fun xs μ Φ => ∃ x ds, xs = [x] ∧ Items μ x ds ∧ Φ (.lst ds) μ
theorem rcList : RC K (fun xs H Q => ∃ p ys, xs = [.ref p] ∧ (SqL K H p ys ∨ SqT K H p ys) ∧ ∀ l, H l = none → Q (.ref l) (upd H l (.lst ys))) cList := fun H μ vs ds Φ Q s r q k => by
  obtain ⟨x, es, rfl, hi, q⟩ := q
  obtain ⟨v, rfl, r⟩ := reps1 r
  obtain ⟨a, us, rfl, h1, h2⟩ := hi.ok s r
  exact ⟨a, us, rfl, h1, fun p hp => k _ _ _ μ (.new hp) (s.new hp) (rep_lst s hp h2) q⟩
/-- the same, a handle -/
def cListOwn : DC := fun xs μ Φ => ∃ x ds, xs = [x] ∧ Items μ x ds ∧ ∀ p, μ p = none → Φ (.hd (.ref p)) (sset μ p (.lst ds))
def cTuple : DC := fun xs μ Φ => ∃ x ds, xs = [x] ∧ Items μ x ds ∧ Φ (.tup ds) μ
theorem rcTuple : RC K (fun xs H Q => ∃ p ys, xs = [.ref p] ∧ ((SqL K H p ys ∧ NewT H ys Q) ∨ (SqT K H p ys ∧ Q (.ref p) H))) cTuple := fun H μ vs ds Φ Q s r q k => by
  obtain ⟨x, es, rfl, hi, q⟩ := q
  obtain ⟨v, rfl, r⟩ := reps1 r
  cases hi with
  | tup => obtain ⟨a, us, rfl, h1, h2⟩ := Rep.tup_inv r; exact ⟨a, us, rfl, .inr ⟨h1.sq, k _ H _ μ .refl s r q⟩⟩
  | lst => obtain ⟨a, us, rfl, h1, h2⟩ := (Items.lst es).okL s r rfl; exact ⟨a, us, rfl, .inl ⟨h1, fun p o ho hc hp => k _ _ _ μ (.new hp) (s.new hp) (rep_tupN s hp ho hc h2) q⟩⟩
  | own h => obtain ⟨a, us, rfl, h1, h2⟩ := (Items.own h).okL s r rfl; exact ⟨a, us, rfl, .inl ⟨h1, fun p o ho hc hp => k _ _ _ μ (.new hp) (s.new hp) (rep_tupN s hp ho hc h2) q⟩⟩
  | frz h => obtain ⟨a, us, rfl, h1, h2⟩ := (Items.frz h).okL s r rfl; exact ⟨a, us, rfl, .inl ⟨h1, fun p o ho hc hp => k _ _ _ μ (.new hp) (s.new hp) (rep_tupN s hp ho hc h2) q⟩⟩
  | scr ns => obtain ⟨a, us, rfl, h1, h2⟩ := (Items.scr ns).okL s r rfl; exact ⟨a, us, rfl, .inl ⟨h1, fun p o ho hc hp => k _ _ _ μ (.new hp) (s.new hp) (rep_tupN s hp ho hc h2) q⟩⟩
def cInt : DC := fun xs μ Φ => ∃ i, xs = [.int i] ∧ Φ (.int i) μ ∨ ∃ b, xs = [.bl b] ∧ Φ (.int (if b then 1 else 0)) μ
theorem rcInt : RC K (fun xs H Q => (∃ i, xs = [.int i] ∧ Q (.int i) H) ∨ ∃ k, xs = [.bl k] ∧ Q (.int (if k then 1 else 0)) H) cInt := fun H μ vs ds Φ Q s r q k => by
  obtain ⟨i, q⟩ := q
  rcases q with ⟨rfl, q⟩ | ⟨b, rfl, q⟩
  · obtain ⟨v, rfl, r⟩ := reps1 r
    obtain rfl := Rep.int_inv r
    exact .inl ⟨i, rfl, k _ H _ μ .refl s r q⟩
  · obtain ⟨v, rfl, r⟩ := reps1 r
    obtain rfl := Rep.bl_inv r
    exact .inr ⟨b, rfl, k _ H _ μ .refl s (.int _ .nil) q⟩
theorem reps_bls {μ : Sto} {H : Hp} : ∀ {vs : List V} {bs : List Bool}, Reps K μ H vs (bs.map .bl) → vs = bs.map .bl
  | [], [], _ => rfl
  | [], _ :: _, r => by have := r.length; simp at this
  | _ :: _, [], r => by have := r.length; simp at this
  | v :: vs, b :: bs, r => by
    have e := Rep.bl_inv r.split.1
    have ih := reps_bls r.split.2
    rw [e, ih, List.map_cons]
def cAll : DC := fun xs μ Φ => ∃ bs : List Bool, xs = [.lst (bs.map .bl)] ∧ Φ (.bl (bs.all id)) μ
def cAny : DC := fun xs μ Φ => ∃ bs : List Bool, xs = [.lst (bs.map .bl)] ∧ Φ (.bl (bs.any id)) μ
theorem rcAll : RC K (rAll K) cAll := fun H μ vs ds Φ Q s r q k => by
  obtain ⟨bs, rfl, q⟩ := q
  obtain ⟨v, rfl, r⟩ := reps1 r
  obtain ⟨a, us, rfl, h1, h2⟩ := Rep.lst_inv r
  have e := reps_bls h2
  subst e
  exact ⟨a, bs, rfl, h1.sq, k _ H _ μ .refl s (.bl _ .nil) q⟩
def cMin2 : DC := fun xs μ Φ => ∃ i j, xs = [.int i, .int j] ∧ Φ (.int (if j < i then j else i)) μ
theorem rcMin2 : RC K (fun xs H Q => ∃ i j, xs = [.int i, .int j] ∧ Q (.int (if j < i then j else i)) H) cMin2 := fun H μ vs ds Φ Q s r q k => by
  obtain ⟨i, j, rfl, q⟩ := q
  obtain ⟨v, w, rfl, r1, r2⟩ := reps2 r
  obtain rfl := Rep.int_inv r1
  obtain rfl := Rep.int_inv r2
  exact ⟨i, j, rfl, k _ H _ μ .refl s (.int _ .nil) q⟩
def cMax2 : DC := fun xs μ Φ => ∃ i j, xs = [.int i, .int j] ∧ Φ (.int (if j > i then j else i)) μ
theorem rcMax2 : RC K (fun xs H Q => ∃ i j, xs = [.int i, .int j] ∧ Q (.int (if j > i then j else i)) H) cMax2 := fun H μ vs ds Φ Q s r q k => by
  obtain ⟨i, j, rfl, q⟩ := q
  obtain ⟨v, w, rfl, r1, r2⟩ := reps2 r
  obtain rfl := Rep.int_inv r1
  obtain rfl := Rep.int_inv r2
  exact ⟨i, j, rfl, k _ H _ μ .refl s (.int _ .nil) q⟩
def cDivmod : DC := fun xs μ Φ => ∃ i j, xs = [.int i, .int j] ∧ CDivP i j ∧ Φ (.pr [.int (i / j), .int (i % j)]) μ
def tyD : D → Option String
  | .non => some "NoneType"
  | .bl _ => some "bool"
  | .int _ => some "int"
  | .str _ => some "str"
  | .tup _ => some "tuple"
  | .lst _ => some "list"
  | _ => none
theorem tyD_ok {μ : Sto} {H : Hp} {v : V} {d : D} {n : String} (r : Rep K μ H v d) (h : tyD d = some n) : TyX K H v (.type n) := by
  cases d with
  | non => cases h; cases r; exact .base .non
  | bl b => cases h; cases r; exact .base (.bl b)
  | int i => cases h; cases r; exact .base (.int i)
  | str i => cases h; cases r; exact .base (.str i)
  | tup ds =>
    cases h
    obtain ⟨a, vs, rfl, h1, h2⟩ := Rep.tup_inv r
    rcases h1 with ⟨o, h1, _⟩ | ⟨o, its, n, h1, h3, _⟩
    · exact .fTuple h1
    · exact .kTuple h1 h3
  | lst ds =>
    cases h
    obtain ⟨a, vs, rfl, h1, h2⟩ := Rep.lst_inv r
    exact .base (.lst h1.1)
  | obj C ns ds => cases h
  | hd v => cases h
  | scr ns => cases h
  | pr ns => cases h
def instB : D → String → Option Bool
  | .non, "int" => some false | .non, "bool" => some false | .non, "str" => some false | .non, "tuple" => some false | .non, "list" => some false
  | .int _, "int" => some true | .int _, "bool" => some false | .int _, "str" => some false | .int _, "tuple" => some false | .int _, "list" => some false
  | .bl _, "int" => some true | .bl _, "bool" => some true | .bl _, "str" => some false | .bl _, "tuple" => some false | .bl _, "list" => some false
  | .str _, "int" => some false | .str _, "bool" => some false | .str _, "str" => some true | .str _, "tuple" => some false | .str _, "list" => some false
  | .tup _, "int" => some false | .tup _, "bool" => some false | .tup _, "str" => some false | .tup _, "tuple" => some true | .tup _, "list" => some false
  | .lst _, "int" => some false | .lst _, "bool" => some false | .lst _, "str" => some false | .lst _, "tuple" => some false | .lst _, "list" => some true
  | _, _ => none
theorem instB_ok {d : D} {T : String} {b : Bool} (h : instB d T = some b) : ∃ n, tyD d = some n ∧ kitB n T = some b := by
  unfold instB at h
  split at h <;> first | (cases h; done) | (cases h; exact ⟨_, rfl, by decide +kernel⟩)
def cIsi (T : String) : DC := fun xs μ Φ => ∃ x b, xs = [x, .hd (.ty T)] ∧ instB x T = some b ∧ Φ (.bl b) μ
theorem rcIsi {T : String} : RC K (rIsi K) (cIsi T) := fun H μ vs ds Φ Q s r q k => by
  obtain ⟨x, b, rfl, hi, q⟩ := q
  obtain ⟨n, hn, hk⟩ := instB_ok hi
  obtain ⟨v, w, rfl, r1, r2⟩ := reps2 r
  obtain rfl := Rep.hd_inv r2
  exact ⟨v, _, _, _, b, rfl, .ty T, tyD_ok r1 hn, kit_ty hk, k _ H _ μ .refl s (.bl _ .nil) q⟩
def dApp (φa φb : DE) : DE := fun Ψ δ μ Φ => φa Ψ δ μ fun x μ1 => ∃ a ds, x = .hd (.ref a) ∧ μ1 a = some (.lst ds) ∧ φb Ψ δ μ1 fun y μ2 => ∃ es, μ2 a = some (.lst es) ∧ es.length ≤ 100000 ∧ Φ .non (sset μ2 a (.lst (es ++ [y])))
theorem own_upd {μ : Sto} {H : Hp} {a : Addr} {ds es : List D} {us : List V} (s : StoOk K μ H) (h : μ a = some (.lst ds)) (r : Reps K (sset μ a (.lst es)) (upd H a (.lst us)) us es) : Evo μ H (sset μ a (.lst es)) (upd H a (.lst us)) ∧ StoOk K (sset μ a (.lst es)) (upd H a (.lst us)) := by
  have e : Evo μ H (sset μ a (.lst es)) (upd H a (.lst us)) := .cell h fun n => n.notL h
  exact ⟨e, s.cell e ⟨us, upd_same, r⟩⟩
theorem own_evo {μ : Sto} {H : Hp} {a : Addr} {ds es : List D} {us : List V} (h : μ a = some (.lst ds)) : Evo μ H (sset μ a (.lst es)) (upd H a (.lst us)) := .cell h fun n => n.notL h
theorem sApp {B : Bx K} {ta tb : TE} {φa φb : DE} (a : SE B ta φa) (b : SE B tb φb) : SE B (tBM K "list" rAppend ta (tCons tb tNil)) (dApp φa φb) := fun σ H δ μ Φ Q S q k =>
  a σ H δ μ _ _ S q fun v H1 x μ1 S1 e1 r1 q1 => by
    obtain ⟨p, ds, rfl, hp, q1⟩ := q1
    obtain rfl := Rep.hd_inv r1
    obtain ⟨us, h1, h2⟩ := S1.sto _ _ hp
    refine ⟨.inl ⟨rfl, us, .of h1⟩, b σ H1 δ μ1 _ _ S1 q1 fun w H2 y μ2 S2 e2 r2 q2 => ?_⟩
    obtain ⟨es, hp2, hz, q2⟩ := q2
    obtain ⟨ws, h3, h4⟩ := S2.sto _ _ hp2
    refine ⟨p, ws, w, rfl, rfl, h3, Nat.lt_of_le_of_lt (by rw [h4.length]; exact hz) (by decide), ?_⟩
    have e3 : Evo μ2 H2 (sset μ2 p (.lst (es ++ [y]))) (upd H2 p (.lst (ws ++ [w]))) := own_evo hp2
    obtain ⟨e4, s4⟩ := own_upd S2.sto hp2 ((h4.append r2).mono e3)
    exact k _ _ _ _ (S2.step e4 s4) ((e1.trans e2).trans e4) (.non .nil) q2
/-- o[i] = e, o a handle of a list -/
def eSub (φo φi : DE) : XP → D → DEnv → Sto → (DEnv → Sto → Prop) → Prop := fun Ψ d δ μ Φ => φo Ψ δ μ fun x μ1 => φi Ψ δ μ1 fun y μ2 => ∃ a ds i j, x = .hd (.ref a) ∧ y = .int i ∧ μ2 a = some (.lst ds) ∧ ixN ds.length i = some j ∧ Φ δ (sset μ2 a (.lst (ds.set j d)))
theorem sSub {B : Bx K} {ta tb : TE} {φa φb : DE} (a : SE B ta φa) (b : SE B tb φb) : SG B (gSub ta tb rSetL) (eSub φa φb B.Ψ) := fun v d σ H δ μ Φ Q S r q k =>
  a σ H δ μ _ _ S q fun o H1 x μ1 S1 e1 r1 q1 => b σ H1 δ μ1 _ _ S1 q1 fun i H2 y μ2 S2 e2 r2 q2 => by
    obtain ⟨p, ds, i, j, rfl, rfl, hp, hj, q2⟩ := q2
    obtain rfl := Rep.hd_inv r1
    obtain rfl := Rep.int_inv r2
    obtain ⟨us, h1, h2⟩ := S2.sto _ _ hp
    refine ⟨p, us, i, j, rfl, rfl, h1, by rw [h2.length]; exact hj, ?_⟩
    have e3 : Evo μ2 H2 (sset μ2 p (.lst (ds.set j d))) (upd H2 p (.lst (us.set j v))) := own_evo hp
    obtain ⟨e4, s4⟩ := own_upd S2.sto hp ((h2.set ((r.mono e1).mono e2) j).mono e3)
    exact k σ _ δ _ (S2.step e4 s4) ((e1.trans e2).trans e4) q2
def dAsgS (φ φo φi : DE) : DSt := fun Ψ Δ δ μ => φ Ψ δ μ fun x μ1 => eSub φo φi Ψ x δ μ1 Δ.nx
theorem sAsgS {B : Bx K} {te ta tb : TE} {φ φa φb : DE} (e : SE B te φ) (a : SE B ta φa) (b : SE B tb φb) : SS B (tAsg te (gSub ta tb rSetL)) (dAsgS φ φa φb) := fun D Δ σ H δ μ E S q =>
  e σ H δ μ _ _ S q fun v H1 x μ1 S1 e1 r1 q1 => sSub a b v x σ H1 δ μ1 _ _ S1 r1 q1 fun σ2 H2 δ2 μ2 S2 e2 q2 => E.nx σ2 H2 δ2 μ2 S2 q2
end
end DW
set_option Elab.async false
set_option linter.all false
set_option maxRecDepth 100000
namespace DW
open PySem PySem.Spec L2
section
variable {K : Fg} {B : Bx K}
abbrev DI := XP → DEnv → Sto → (List D → Sto → Prop) → Prop
/-- the iterator hands out the items, as long as what stood still stands -/
def IterOk (K : Fg) (μ1 : Sto) (H1 : Hp) (J : It) (xs : List D) : Prop := ∀ (i : Nat) (H : Hp) (μ : Sto), StoOk K μ H → Evo μ1 H1 μ H →
  (i < xs.length → J.go i H ∧ ∀ x H', J.yld i H x H' → ∃ d, xs[i]? = some d ∧ StoOk K μ H' ∧ Evo μ H μ H' ∧ Rep K μ H' x d) ∧ (xs.length ≤ i → J.stop i H)
def SI (B : Bx K) (wi : TI) (ι : DI) : Prop := ∀ (σ : L2.St) (H : Hp) (δ : DEnv) (μ : Sto) (Φ : List D → Sto → Prop) (R : It → Hp → Prop), B.S σ H δ μ → ι B.Ψ δ μ Φ →
  (∀ xs J H' μ', B.S σ H' δ μ' → Evo μ H μ' H' → IterOk K μ' H' J xs → Φ xs μ' → R J H') → wi σ H R
def iSeqT (φ : DE) : DI := fun Ψ δ μ Φ => φ Ψ δ μ fun x μ1 => ∃ ds, x = .tup ds ∧ Φ ds μ1
def iSeqL (φ : DE) : DI := fun Ψ δ μ Φ => φ Ψ δ μ fun x μ1 => ∃ ds, x = .lst ds ∧ Φ ds μ1
theorem siT {te : TE} {φ : DE} (a : SE B te φ) : SI B (iTup K te) (iSeqT φ) := fun σ H δ μ Φ R S q k =>
  a σ H δ μ _ _ S q fun v H1 x μ1 S1 e1 r1 q1 => by
    obtain ⟨ds, rfl, q2⟩ := q1
    obtain ⟨p, vs, rfl, h1, h2⟩ := Rep.tup_inv r1
    refine ⟨p, rfl, ⟨vs, h1.sq⟩, k ds _ H1 μ1 S1 e1 (fun i H2 μ2 s2 e2 => ⟨fun hi => ?_, fun hi => ⟨vs, (h1.mono e2).sq, by rw [h2.length]; exact hi⟩⟩) q2⟩
    have hv : i < vs.length := by rw [h2.length]; exact hi
    refine ⟨⟨vs, vs[i], (h1.mono e2).sq, List.getElem?_eq_getElem hv⟩, fun x H' ⟨eH, hy⟩ => ?_⟩
    subst eH
    obtain ⟨d, hd, rd⟩ := (h2.mono e2).getV (hy vs (h1.mono e2).sq)
    exact ⟨d, hd, s2, .refl, rd⟩
theorem siL {te : TE} {φ : DE} (a : SE B te φ) : SI B (iList K te) (iSeqL φ) := fun σ H δ μ Φ R S q k =>
  a σ H δ μ _ _ S q fun v H1 x μ1 S1 e1 r1 q1 => by
    obtain ⟨ds, rfl, q2⟩ := q1
    obtain ⟨p, vs, rfl, h1, h2⟩ := Rep.lst_inv r1
    refine ⟨p, rfl, ⟨vs, h1.sq⟩, k ds _ H1 μ1 S1 e1 (fun i H2 μ2 s2 e2 => ⟨fun hi => ?_, fun hi => ⟨vs, (h1.mono e2).sq, by rw [h2.length]; exact hi⟩⟩) q2⟩
    have hv : i < vs.length := by rw [h2.length]; exact hi
    refine ⟨⟨vs, vs[i], (h1.mono e2).sq, List.getElem?_eq_getElem hv⟩, fun x H' ⟨eH, hy⟩ => ?_⟩
    subst eH
    obtain ⟨d, hd, rd⟩ := (h2.mono e2).getV (hy vs (h1.mono e2).sq)
    exact ⟨d, hd, s2, .refl, rd⟩
def rngD (lo : Int) (n : Nat) : List D := (List.range n).map fun (i : Nat) => .int (lo + (i : Int))
theorem rngD_len {lo : Int} {n : Nat} : (rngD lo n).length = n := by unfold rngD; rw [List.length_map, List.length_range]
theorem rngD_at {lo : Int} {n i : Nat} (h : i < n) : (rngD lo n)[i]? = some (.int (lo + (i : Int))) := by
  unfold rngD
  rw [List.getElem?_map, List.getElem?_range h]
  rfl
theorem iter_rng {μ : Sto} {H : Hp} {lo : Int} {n : Nat} : IterOk K μ H (Itr lo n) (rngD lo n) := fun i H2 μ2 s2 e2 => by
  rw [rngD_len]
  refine ⟨fun hi => ⟨hi, fun x H' ⟨eH, hy⟩ => ?_⟩, fun hi => hi⟩
  subst eH hy
  exact ⟨_, rngD_at hi, s2, .refl, .int _ .nil⟩
def iR1 (φ : DE) : DI := fun Ψ δ μ Φ => φ Ψ δ μ fun x μ1 => ∃ j, x = .int j ∧ j < 4611686018427387904 ∧ -4611686018427387904 ≤ j ∧ Φ (rngD 0 j.toNat) μ1
theorem siR1 {te : TE} {φ : DE} (a : SE B te φ) : SI B (iRng1 (tCons te tNil)) (iR1 φ) := fun σ H δ μ Φ R S q k =>
  a σ H δ μ _ _ S q fun v H1 x μ1 S1 e1 r1 q1 => by
    obtain ⟨j, rfl, h1, h2, q2⟩ := q1
    obtain rfl := Rep.int_inv r1
    exact ⟨j, rfl, by omega, by omega, k _ _ H1 μ1 S1 e1 iter_rng q2⟩
def iR2 (φ φ' : DE) : DI := fun Ψ δ μ Φ => φ Ψ δ μ fun x μ1 => φ' Ψ δ μ1 fun y μ2 => ∃ i j, x = .int i ∧ y = .int j ∧ (-4611686018427387904 ≤ i ∧ i < 4611686018427387904 ∧ -4611686018427387904 ≤ j ∧ j < 4611686018427387904) ∧ Φ (rngD i (j - i).toNat) μ2
theorem siR2 {te tf : TE} {φ φ' : DE} (a : SE B te φ) (b : SE B tf φ') : SI B (iRng2 (tCons te (tCons tf tNil))) (iR2 φ φ') := fun σ H δ μ Φ R S q k =>
  a σ H δ μ _ _ S q fun v H1 x μ1 S1 e1 r1 q1 => b σ H1 δ μ1 _ _ S1 q1 fun w H2 y μ2 S2 e2 r2 q2 => by
    obtain ⟨i, j, rfl, rfl, h, q2⟩ := q2
    obtain rfl := Rep.int_inv r1
    obtain rfl := Rep.int_inv r2
    exact ⟨i, j, rfl, by omega, k _ _ H2 μ2 S2 (e1.trans e2) iter_rng q2⟩
/-- zip of two tuples -/
def iZipT (φ φ' : DE) : DI := fun Ψ δ μ Φ => φ Ψ δ μ fun x μ1 => φ' Ψ δ μ1 fun y μ2 => ∃ xs ys, x = .tup xs ∧ y = .tup ys ∧ Φ ((xs.zip ys).map fun p => .pr [p.1, p.2]) μ2
/-- a text, sign by sign -/
def iText (φ : DE) : DI := fun Ψ δ μ Φ => φ Ψ δ μ fun x μ1 => ∃ s, x = .str s ∧ Φ (s.cps.toList.map fun c => .str ⟨#[c]⟩) μ1
theorem siText {te : TE} {φ : DE} (a : SE B te φ) : SI B (iStr te) (iText φ) := fun σ H δ μ Φ R S q k =>
  a σ H δ μ _ _ S q fun v H1 x μ1 S1 e1 r1 q1 => by
    obtain ⟨s, rfl, q2⟩ := q1
    obtain rfl := Rep.str_inv r1
    refine ⟨s, rfl, k _ _ H1 μ1 S1 e1 (fun i H2 μ2 s2 e2 => ?_) q2⟩
    rw [List.length_map, Array.length_toList]
    refine ⟨fun hi => ⟨hi, fun z H' ⟨eH, c, hc, ez⟩ => ?_⟩, fun hi => hi⟩
    subst eH ez
    refine ⟨.str ⟨#[c]⟩, ?_, s2, .refl, .str _ .nil⟩
    rw [List.getElem?_map, Array.getElem?_toList, hc]
    rfl
/-- a loop -/
def dFor (ι : DI) (γ : DG) (ω : DSt) : DSt := fun Ψ Δ δ μ => ι Ψ δ μ fun xs μ1 => ∃ W : Nat → DEnv → Sto → Prop, W 0 δ μ1 ∧
  (∀ i d δ' μ', xs[i]? = some d → W i δ' μ' → γ d δ' μ' fun δ2 μ2 => ω Ψ { Δ with nx := W (i + 1), ct := W (i + 1), bk := Δ.nx } δ2 μ2) ∧ ∀ δ' μ', W xs.length δ' μ' → Δ.nx δ' μ'
theorem sFor {wi : TI} {g : TG} {tb : TS} {ι : DI} {γ : DG} {ω : DSt} (a : SI B wi ι) (b : ∀ H1 μ1 e, SG (B.re H1 μ1 e) g γ) (c : ∀ H1 μ1 e, SS (B.re H1 μ1 e) tb ω) : SS B (tFor wi g tb) (dFor ι γ ω) := fun D Δ σ H δ μ E S q =>
  a σ H δ μ _ _ S q fun xs J H1 μ1 S1 e1 it q1 => by
    obtain ⟨W, w0, ws, wd⟩ := q1
    refine ⟨fun i m σ' H' => m = xs.length - i ∧ i ≤ xs.length ∧ ∃ δ' μ', (B.re H1 μ1 S1.evo).S σ' H' δ' μ' ∧ W i δ' μ', ⟨xs.length, by simp, Nat.zero_le _, δ, μ1, ⟨.refl, S1.sto, S1.env⟩, w0⟩, ?_⟩
    rintro i m σ' H' ⟨rfl, hi, δ', μ', S', w⟩
    by_cases hlt : i < xs.length
    · obtain ⟨hgo, hy⟩ := (it i H' μ' S'.sto S'.evo).1 hlt
      refine .inr ⟨hgo, fun σ2 H2 => ∃ δ2 μ2, (B.re H1 μ1 S1.evo).S σ2 H2 δ2 μ2 ∧ W (i + 1) δ2 μ2, fun σ2 H2 ⟨δ2, μ2, S2, w2⟩ => ⟨xs.length - (i + 1), by omega, rfl, by omega, δ2, μ2, S2, w2⟩, fun x H2 y => ?_⟩
      obtain ⟨d, hd, s2, e2, r2⟩ := hy x H2 y
      refine b H1 μ1 S1.evo x d σ' H2 δ' μ' _ _ (S'.step e2 s2) r2 (ws i d δ' μ' hd w) fun σ3 H3 δ3 μ3 S3 e3 q3 => ?_
      exact c H1 μ1 S1.evo _ { Δ with nx := W (i + 1), ct := W (i + 1), bk := Δ.nx } σ3 H3 δ3 μ3 ⟨fun σ4 H4 δ4 μ4 S4 q4 => ⟨δ4, μ4, S4, q4⟩, fun v4 H4 d4 μ4 σ4 δ4 S4 r4 q4 => E.rt v4 H4 d4 μ4 σ4 δ4 ⟨S1.evo.trans S4.evo, S4.sto, S4.env⟩ r4 q4, fun σ4 H4 δ4 μ4 S4 q4 => E.nx σ4 H4 δ4 μ4 ⟨S1.evo.trans S4.evo, S4.sto, S4.env⟩ q4, fun σ4 H4 δ4 μ4 S4 q4 => ⟨δ4, μ4, S4, q4⟩⟩ S3 q3
    · have e : i = xs.length := by omega
      subst e
      exact .inl ⟨(it _ H' μ' S'.sto S'.evo).2 (Nat.le_refl _), E.nx σ' H' δ' μ' ⟨S1.evo.trans S'.evo, S'.sto, S'.env⟩ (wd δ' μ' w)⟩
def dwipe (δ : DEnv) : List Nat → DEnv
  | [] => δ
  | v :: vs => (dwipe δ vs).set v none
theorem EnvOk.unset {μ : Sto} {H : Hp} {σ : L2.St} {δ : DEnv} (h : EnvOk K μ H σ δ) (j : Nat) : EnvOk K μ H (σ.set j none) (δ.set j none) := ⟨by rw [List.length_set, List.length_set]; exact h.len, fun i x q => by
  rw [List.getElem?_set] at q
  by_cases hj : j = i
  · rw [if_pos hj] at q
    split at q <;> cases q
  · rw [if_neg hj] at q
    obtain ⟨v, e, r⟩ := h.at_ i x q
    exact ⟨v, by rw [List.getElem?_set, if_neg hj]; exact e, r⟩⟩
theorem EnvOk.wipe {μ : Sto} {H : Hp} {σ : L2.St} {δ : DEnv} (h : EnvOk K μ H σ δ) : ∀ vs, EnvOk K μ H (L2.wipe σ vs) (dwipe δ vs)
  | [] => h
  | v :: vs => (EnvOk.wipe h vs).unset v
theorem wipe_get (σ : L2.St) : ∀ (vs : List Nat) (i : Nat), (L2.wipe σ vs)[i]? = if i ∈ vs ∧ i < σ.length then some none else σ[i]?
  | [], i => by simp [L2.wipe]
  | v :: vs, i => by
    have ih := wipe_get σ vs i
    show ((L2.wipe σ vs).set v none)[i]? = _
    rw [List.getElem?_set, L2.wipe_length, ih]
    by_cases h : v = i
    · subst h
      rw [if_pos rfl]
      by_cases hl : v < σ.length
      · rw [if_pos hl, if_pos ⟨List.mem_cons_self, hl⟩]
      · rw [if_neg hl, if_neg fun z => hl z.2, List.getElem?_eq_none (by omega)]
    · rw [if_neg h]
      have : (i ∈ v :: vs ∧ i < σ.length) ↔ (i ∈ vs ∧ i < σ.length) := by
        constructor
        · rintro ⟨a, b⟩
          rcases List.mem_cons.mp a with e | e
          · exact absurd e.symm h
          · exact ⟨e, b⟩
        · rintro ⟨a, b⟩
          exact ⟨List.mem_cons_of_mem _ a, b⟩
      simp only [this]
theorem wipe_set {σ : L2.St} {vs : List Nat} {j : Nat} {x : Option V} (h : j ∈ vs) : L2.wipe (σ.set j x) vs = L2.wipe σ vs := by
  apply List.ext_getElem?
  intro i
  rw [wipe_get, wipe_get, List.length_set, List.getElem?_set]
  by_cases hi : i ∈ vs ∧ i < σ.length
  · rw [if_pos hi, if_pos hi]
  · rw [if_neg hi, if_neg hi]
    by_cases e : j = i
    · subst e
      rw [if_pos rfl, if_neg (fun z => hi ⟨h, z⟩), List.getElem?_eq_none (Nat.le_of_not_lt fun z => hi ⟨h, z⟩)]
    · rw [if_neg e]
theorem wipe_wipe {σ : L2.St} {vs : List Nat} : L2.wipe (L2.wipe σ vs) vs = L2.wipe σ vs := by
  apply List.ext_getElem?
  intro i
  rw [wipe_get, L2.wipe_length, wipe_get]
  split <;> rfl
/-- a target stores nothing but own names -/
def GW (vs : List Nat) (g : TG) : Prop := ∀ (v : V) (σ W : L2.St) (H : Hp) (Q : L2.St → Hp → Prop), L2.wipe σ vs = W → g v σ H Q → g v σ H fun σ2 H2 => L2.wipe σ2 vs = W ∧ Q σ2 H2
theorem gwName {vs : List Nat} {j : Nat} (h : j ∈ vs) : GW vs (gName j) := fun v σ W H Q e q => ⟨by rw [wipe_set h]; exact e, q⟩
def dLc (ι : DI) (γ : DG) (θ : DT) (φ : DE) (vs : List Nat) : DE := fun Ψ δ μ Φ => ι Ψ δ μ fun xs μ1 => ∀ p, μ1 p = none → ∃ W : Nat → Sto → Prop, W 0 (sset μ1 p (.lst [])) ∧
  (∀ i d μ2, xs[i]? = some d → W i μ2 → γ d (dwipe δ vs) μ2 fun δ3 μ3 => θ Ψ δ3 μ3 fun b μ4 =>
    (b = true → φ Ψ δ3 μ4 fun y μ5 => ∃ acc, μ5 p = some (.lst acc) ∧ acc.length ≤ 100000 ∧ W (i + 1) (sset μ5 p (.lst (acc ++ [y])))) ∧ (b = false → W (i + 1) μ4)) ∧
  ∀ μ2, W xs.length μ2 → ∃ acc, μ2 p = some (.lst acc) ∧ Φ (.lst acc) (sdel μ2 p)
theorem sLc {wi : TI} {g : TG} {tt : TT} {te : TE} {vs : List Nat} {ι : DI} {γ : DG} {θ : DT} {φ : DE} (a : SI B wi ι) (w : GW vs g) (b : ∀ H1 μ1 e, SG (B.re H1 μ1 e) g γ) (c : ∀ H1 μ1 e, ST (B.re H1 μ1 e) tt θ) (d : ∀ H1 μ1 e, SE (B.re H1 μ1 e) te φ) :
    SE B (tLc wi g tt te vs) (dLc ι γ θ φ vs) := fun σ H δ μ Φ Q S q k =>
  a σ H δ μ _ _ S q fun xs J H1 μ1 S1 e1 it q1 => fun p hp => by
    have hμp : μ1 p = none := S1.sto.fresh hp
    obtain ⟨W, w0, ws, wd⟩ := q1 p hμp
    refine ⟨fun i m H' => m = xs.length - i ∧ i ≤ xs.length ∧ ∃ μ', Evo μ1 H1 μ' H' ∧ StoOk K μ' H' ∧ W i μ', ⟨xs.length, by simp, Nat.zero_le _, _, .newC S1.sto hp, sto_own S1.sto hp .nil, w0⟩, ?_⟩
    rintro i m H' ⟨rfl, hi, μ', e', s', wi'⟩
    by_cases hlt : i < xs.length
    · obtain ⟨hgo, hy⟩ := (it i H' μ' s' e').1 hlt
      refine .inr ⟨hgo, fun H2 => ∃ μ2, Evo μ1 H1 μ2 H2 ∧ StoOk K μ2 H2 ∧ W (i + 1) μ2, fun H2 ⟨μ2, e2, s2, w2⟩ => ⟨xs.length - (i + 1), by omega, rfl, by omega, μ2, e2, s2, w2⟩, fun x H2 y => ?_⟩
      obtain ⟨dd, hd, s2, e2, r2⟩ := hy x H2 y
      have S2 : (B.re H1 μ1 S1.evo).S (L2.wipe σ vs) H2 (dwipe δ vs) μ' := ⟨e'.trans e2, s2, ((S1.env.mono e').mono e2).wipe vs⟩
      refine w x (L2.wipe σ vs) (L2.wipe σ vs) H2 _ wipe_wipe ?_
      refine b H1 μ1 S1.evo x dd (L2.wipe σ vs) H2 (dwipe δ vs) μ' _ _ S2 r2 (ws i dd μ' hd wi') fun σ3 H3 δ3 μ3 S3 e3 q3 => ?_
      refine c H1 μ1 S1.evo σ3 H3 δ3 μ3 _ _ S3 q3 fun b4 H4 μ4 S4 e4 q4 => ?_
      cases b4 with
      | true =>
        rw [if_pos rfl]
        refine d H1 μ1 S1.evo σ3 H4 δ3 μ4 _ _ S4 (q4.1 rfl) fun v5 H5 y5 μ5 S5 e5 r5 q5 => ?_
        obtain ⟨acc, hacc, hz, w5⟩ := q5
        obtain ⟨us, h5, hr5⟩ := S5.sto _ _ hacc
        have e6 : Evo μ5 H5 (sset μ5 p (.lst (acc ++ [y5]))) (upd H5 p (.lst (us ++ [v5]))) := own_evo hacc
        obtain ⟨e7, s7⟩ := own_upd S5.sto hacc ((hr5.append r5).mono e6)
        exact ⟨us, h5, Nat.lt_of_le_of_lt (by rw [hr5.length]; exact hz) (by decide), _, S5.evo.trans e7, s7, w5⟩
      | false =>
        rw [if_neg Bool.false_ne_true]
        exact ⟨μ4, S4.evo, S4.sto, q4.2 rfl⟩
    · have e : i = xs.length := by omega
      subst e
      obtain ⟨acc, hacc, q2⟩ := wd μ' wi'
      obtain ⟨us, h5, hr5⟩ := s' _ _ hacc
      refine .inl ⟨(it _ H' μ' s' e').2 (Nat.le_refl _), ?_⟩
      have e8 : Evo μ1 H1 (sdel μ' p) H' := e'.trans sdel_sub.evo
      exact k (.ref p) H' (.lst acc) (sdel μ' p) (S1.step e8 (sdel_sub.sto s')) (e1.trans e8) (.lst ⟨h5, .of sdel_same⟩ (hr5.mono sdel_sub.evo) .nil) q2
def dYes : DT := fun _ _ μ Φ => Φ true μ
theorem sYes : ST B tYes dYes := fun σ H δ μ Φ Q S q k => k true H μ S .refl q
abbrev Con := List D → Sto → DK → (XD → Sto → Prop) → Prop
def spOf (K : Fg) (c : Con) : Sp := fun vs H Q E => ∃ μ ds Φ Ψ, StoOk K μ H ∧ Reps K μ H vs ds ∧ c ds μ Φ Ψ ∧
  (∀ v H' d μ', Evo μ H μ' H' → StoOk K μ' H' → Rep K μ' H' v d → Φ d μ' → Q v H') ∧
  ∀ cls dd H' x μ', Evo μ H μ' H' → StoOk K μ' H' → RepX K μ' H' cls dd x → Ψ x μ' → E cls dd H'
/-- a call that raises nothing -/
def dCall (c : Con) (ψ : DA) : DE := fun Ψ δ μ Φ => ψ Ψ δ μ fun xs μ1 => c xs μ1 Φ fun _ _ => False
theorem sCall {c : Con} {tas : TA} {ψ : DA} (a : SA B tas ψ) : SE B (tCall (spOf K c) [] E0 tas) (dCall c ψ) := fun σ H δ μ Φ Q S q k =>
  a σ H δ μ _ _ S q fun vs H1 xs μ1 S1 e1 r1 q1 => by
    rw [List.append_nil]
    exact ⟨μ1, xs, Φ, fun _ _ => False, S1.sto, r1, q1, fun v H2 d μ2 e2 s2 r2 q2 => k v H2 d μ2 (S1.step e2 s2) (e1.trans e2) r2 q2, fun _ _ _ _ _ _ _ _ z => z⟩
/-- a call that may raise -/
def dCallS (c : Con) (ψ : DA) : DE := fun Ψ δ μ Φ => ψ Ψ δ μ fun xs μ1 => c xs μ1 Φ fun x μ2 => Ψ x δ μ2
theorem sCallS {c : Con} {tas : TA} {ψ : DA} (a : SA B tas ψ) : SE B (tCallS (spOf K c) (WE B.W) tas) (dCallS c ψ) := fun σ H δ μ Φ Q S q k =>
  a σ H δ μ _ _ S q fun vs H1 xs μ1 S1 e1 r1 q1 =>
    ⟨μ1, xs, Φ, fun x μ2 => B.Ψ x δ μ2, S1.sto, r1, q1, fun v H2 d μ2 e2 s2 r2 q2 => k v H2 d μ2 (S1.step e2 s2) (e1.trans e2) r2 q2, fun cls dd H2 x μ2 e2 s2 r2 q2 => B.hW cls dd σ H2 x δ μ2 (S1.step e2 s2) r2 q2⟩
/-- raise C('..'), a class without own fields -/
def dRaise0 (C : Addr) : DSt := fun Ψ _ δ μ => Ψ (.mk C none) δ μ
theorem sRaise0 {C : Addr} : SS B (fun _ σ H => (fun (_ : L2.St) (H : Hp) (Q : XK) => Q (.ref C) none H) σ H fun cls d H' => B.W cls d σ H') (dRaise0 C) := fun D Δ σ H δ μ E S q => B.hW _ _ σ H (.mk C none) δ μ S ⟨rfl, rfl⟩ q
def dstart (N : List Str) (ds : List D) : DEnv := ds.map some ++ List.replicate (N.length - ds.length) none
theorem env_start {μ : Sto} {H : Hp} {N : List Str} {vs : List V} {ds : List D} (r : Reps K μ H vs ds) : EnvOk K μ H (L2.start N vs) (dstart N ds) := by
  have hl := r.length
  refine ⟨by unfold L2.start dstart; simp [hl], fun i d q => ?_⟩
  unfold dstart at q
  unfold L2.start
  by_cases h : i < ds.length
  · rw [List.getElem?_append_left (by simpa using h), List.getElem?_map] at q
    cases e : ds[i]? with
    | none => rw [e] at q; cases q
    | some y =>
      rw [e] at q
      cases q
      obtain ⟨v, ev, rv⟩ := r.get e
      exact ⟨v, by rw [List.getElem?_append_left (by simpa [hl] using h), List.getElem?_map, ev]; rfl, rv⟩
  · rw [List.getElem?_append_right (by simpa using h), List.getElem?_replicate] at q
    split at q <;> cases q
/-- what a def's body must bring about -/
abbrev goalE (Φ : DK) : DEnds := ⟨fun _ μ' => ∃ μ2, Sub μ2 μ' ∧ Φ .non μ2, fun d μ' => ∃ μ2, Sub μ2 μ' ∧ Φ d μ2, fun _ _ => False, fun _ _ => False⟩
abbrev goalX (Ψ : XD → Sto → Prop) : XP := fun x _ μ' => ∃ μ2, Sub μ2 μ' ∧ Ψ x μ2
theorem RepX.mono {μ μ' : Sto} {H H' : Hp} {cls : Value} {dd : Option Addr} {x : XD} (e : Evo μ H μ' H') (h : RepX K μ H cls dd x) : RepX K μ' H' cls dd x := by
  obtain ⟨C, fs⟩ := x
  cases fs with
  | none => exact h
  | some f =>
    obtain ⟨ns, ds⟩ := f
    obtain ⟨h1, d, us, h2, h3, h4, h5, h6⟩ := h
    exact ⟨h1, d, us, h2, (e.st _ _ h3 h4).1, (e.st _ _ h3 h4).2, h5, h6.mono e⟩
end
end DW
set_option Elab.async false
set_option linter.all false
set_option maxRecDepth 100000
namespace DW
open PySem PySem.Spec L2
section
variable {α : Type} {μ μ' : Sto} {Φ : DK} {i j : Int} {x y : D} {xs ys ds : List D} {δ : DEnv} {Ψ : XP} {Δ : DEnds} {b : Bool} {s t : Str}
theorem ex_some {a : α} {P : α → Prop} : (∃ d, some (some a) = some (some d) ∧ P d) = P a := propext ⟨fun ⟨d, e, p⟩ => by cases e; exact p, fun p => ⟨a, rfl, p⟩⟩
theorem w_I0 {g : Int → Int → D} : oI0 g (.int i) (.int j) μ Φ = Φ (g i j) μ := propext ⟨fun ⟨a, b, e1, e2, q⟩ => by cases e1; cases e2; exact q, fun q => ⟨i, j, rfl, rfl, q⟩⟩
theorem w_I {C : Int → Int → Prop} {g : Int → Int → D} : oI C g (.int i) (.int j) μ Φ = (C i j ∧ Φ (g i j) μ) := propext ⟨fun ⟨a, b, e1, e2, q⟩ => by cases e1; cases e2; exact q, fun q => ⟨i, j, rfl, rfl, q⟩⟩
theorem w_uI {g : Int → Int} : uI g (.int i) μ Φ = Φ (.int (g i)) μ := propext ⟨fun ⟨a, e1, q⟩ => by cases e1; exact q, fun q => ⟨i, rfl, q⟩⟩
theorem w_int : cInt [.int i] μ Φ = Φ (.int i) μ := propext (Iff.intro (by
  rintro ⟨a, q⟩
  rcases q with ⟨e, q⟩ | ⟨_, e, q⟩
  · cases e; exact q
  · cases e) (fun q => ⟨i, .inl ⟨rfl, q⟩⟩))
theorem w_bl {P : Bool → Prop} : (∃ c, D.bl b = .bl c ∧ P c) = P b := propext ⟨fun ⟨c, e, q⟩ => by cases e; exact q, fun q => ⟨b, rfl, q⟩⟩
theorem w_isi {T : String} : cIsi T [x, .hd (.ty T)] μ Φ = ∃ b, instB x T = some b ∧ Φ (.bl b) μ := propext ⟨fun ⟨y, b, e, q⟩ => by cases e; exact ⟨b, q⟩, fun ⟨b, q⟩ => ⟨x, b, rfl, q⟩⟩
theorem w_someb {P : Bool → Prop} : (∃ c, some b = some c ∧ P c) = P b := propext ⟨fun ⟨c, e, q⟩ => by cases e; exact q, fun q => ⟨b, rfl, q⟩⟩
theorem w_eqI : oEq (.int i) (.int j) μ Φ = Φ (.bl (decide (i = j))) μ := w_someb
theorem w_neI : oNe (.int i) (.int j) μ Φ = Φ (.bl (!decide (i = j))) μ := w_someb
theorem w_eqS : oEq (.str s) (.str t) μ Φ = Φ (.bl (decide (s = t))) μ := w_someb
theorem w_neS : oNe (.str s) (.str t) μ Φ = Φ (.bl (!decide (s = t))) μ := w_someb
theorem w_lenT : cLen [.tup ds] μ Φ = Φ (.int ds.length) μ := propext ⟨fun ⟨x, es, e, h, q⟩ => by cases e; cases h; exact q, fun q => ⟨_, _, rfl, .tup ds, q⟩⟩
theorem w_lenL : cLen [.lst ds] μ Φ = Φ (.int ds.length) μ := propext ⟨fun ⟨x, es, e, h, q⟩ => by cases e; cases h; exact q, fun q => ⟨_, _, rfl, .lst ds, q⟩⟩
theorem w_lenS {ns : List Int} : cLen [.scr ns] μ Φ = Φ (.int ns.length) μ := propext ⟨fun ⟨x, es, e, h, q⟩ => by cases e; cases h; rw [List.length_map] at q; exact q, fun q => ⟨_, _, rfl, .scr ns, by rw [List.length_map]; exact q⟩⟩
theorem w_tupL : cTuple [.lst ds] μ Φ = Φ (.tup ds) μ := propext ⟨fun ⟨x, es, e, h, q⟩ => by cases e; cases h; exact q, fun q => ⟨_, _, rfl, .lst ds, q⟩⟩
theorem w_tupT : cTuple [.tup ds] μ Φ = Φ (.tup ds) μ := propext ⟨fun ⟨x, es, e, h, q⟩ => by cases e; cases h; exact q, fun q => ⟨_, _, rfl, .tup ds, q⟩⟩
theorem w_ixT : oIxT (.tup ds) (.int i) μ Φ = ∃ d, atI ds i = some d ∧ Φ d μ := propext ⟨fun ⟨x, es, d, e1, e2, q⟩ => by cases e1; cases e2; exact ⟨d, q⟩, fun ⟨d, q⟩ => ⟨_, _, d, rfl, rfl, q⟩⟩
theorem w_ixL : oIxL (.lst ds) (.int i) μ Φ = ∃ d, atI ds i = some d ∧ Φ d μ := propext ⟨fun ⟨x, es, d, e1, _, e2, q⟩ => by cases e1; cases e2; exact ⟨d, q⟩, fun ⟨d, q⟩ => ⟨_, _, d, .lst ds, rfl, rfl, q⟩⟩
theorem w_ixS {ns : List Int} : oIxL (.scr ns) (.int i) μ Φ = ∃ d, atI (ns.map D.int) i = some d ∧ Φ d μ := propext ⟨fun ⟨x, es, d, e1, _, e2, q⟩ => by cases e1; cases e2; exact ⟨d, q⟩, fun ⟨d, q⟩ => ⟨_, _, d, .scr ns, rfl, rfl, q⟩⟩
theorem w_catT : oCatT (.tup xs) (.tup ys) μ Φ = (xs.length + ys.length ≤ 100000 ∧ Φ (.tup (xs ++ ys)) μ) := propext ⟨fun ⟨x, es, e1, e2, q⟩ => by cases e1; cases e2; exact q, fun q => ⟨_, _, rfl, rfl, q⟩⟩
theorem w_catL : oCatL (.lst xs) (.lst ys) μ Φ = (xs.length + ys.length ≤ 100000 ∧ Φ (.lst (xs ++ ys)) μ) := propext ⟨fun ⟨x, es, e1, e2, q⟩ => by cases e1; cases e2; exact q, fun q => ⟨_, _, rfl, rfl, q⟩⟩
theorem w_all {bs : List Bool} : cAll [.lst (bs.map .bl)] μ Φ = Φ (.bl (bs.all id)) μ := propext (Iff.intro (by
  rintro ⟨cs, e, q⟩
  have e2 : bs = cs := by
    injection e with e _
    injection e with e
    exact (List.map_inj_right (fun _ _ z => by cases z; rfl)).mp e
  subst e2
  exact q) (fun q => ⟨bs, rfl, q⟩))
theorem w_any {bs : List Bool} : cAny [.lst (bs.map .bl)] μ Φ = Φ (.bl (bs.any id)) μ := propext (Iff.intro (by
  rintro ⟨cs, e, q⟩
  have e2 : bs = cs := by
    injection e with e _
    injection e with e
    exact (List.map_inj_right (fun _ _ z => by cases z; rfl)).mp e
  subst e2
  exact q) (fun q => ⟨bs, rfl, q⟩))
theorem w_min2 : cMin2 [.int i, .int j] μ Φ = Φ (.int (if j < i then j else i)) μ := propext ⟨fun ⟨a, b, e, q⟩ => by cases e; exact q, fun q => ⟨_, _, rfl, q⟩⟩
theorem w_divmod : cDivmod [.int i, .int j] μ Φ = (CDivP i j ∧ Φ (.pr [.int (i / j), .int (i % j)]) μ) := propext ⟨fun ⟨a, b, e, q⟩ => by cases e; exact q, fun q => ⟨_, _, rfl, q⟩⟩
theorem w_listS {ns : List Int} : cList [.scr ns] μ Φ = Φ (.lst (ns.map .int)) μ := propext ⟨fun ⟨x, es, e, h, q⟩ => by cases e; cases h; exact q, fun q => ⟨_, _, rfl, .scr ns, q⟩⟩
theorem w_listL : cList [.lst ds] μ Φ = Φ (.lst ds) μ := propext ⟨fun ⟨x, es, e, h, q⟩ => by cases e; cases h; exact q, fun q => ⟨_, _, rfl, .lst ds, q⟩⟩
theorem w_listT : cList [.tup ds] μ Φ = Φ (.lst ds) μ := propext ⟨fun ⟨x, es, e, h, q⟩ => by cases e; cases h; exact q, fun q => ⟨_, _, rfl, .tup ds, q⟩⟩
theorem w_isN {x : D} : oIsN x .non μ Φ = ∃ b, isNone x = some b ∧ Φ (.bl b) μ := propext ⟨fun ⟨_, q⟩ => q, fun q => ⟨rfl, q⟩⟩
theorem w_notN {x : D} : oNotN x .non μ Φ = ∃ b, isNone x = some b ∧ Φ (.bl (!b)) μ := propext ⟨fun ⟨_, q⟩ => q, fun q => ⟨rfl, q⟩⟩
section
variable {φ φa φb φc : DE} {γ : DG} {ω ζ : DSt} {θ ϑ : DT} {ψ : DA} {ρ ρ' : DO} {σ : DU} {κ : DC} {c : Con} {n : Nat} {C : Addr} {d : D} {Th : Bool → Sto → Prop} {Ls : List D → Sto → Prop} {Pn : DEnv → Sto → Prop} {η : List D → DEnv → Sto → (DEnv → Sto → Prop) → Prop} {ol oh : XP → DEnv → Sto → (Option Int → Sto → Prop) → Prop} {Xo : Option Int → Sto → Prop}
theorem u_seq : dSeq ω ζ Ψ Δ δ μ = ω Ψ { Δ with nx := ζ Ψ Δ } δ μ := rfl
theorem u_asg : dAsg φ γ Ψ Δ δ μ = φ Ψ δ μ fun x μ1 => γ x δ μ1 Δ.nx := rfl
theorem u_asgS : dAsgS φ φa φb Ψ Δ δ μ = φ Ψ δ μ fun x μ1 => eSub φa φb Ψ x δ μ1 Δ.nx := rfl
theorem u_ret : dRet φ Ψ Δ δ μ = φ Ψ δ μ Δ.rt := rfl
theorem u_retN : dRetN Ψ Δ δ μ = Δ.rt .non μ := rfl
theorem u_if : dIfS θ ω ζ Ψ Δ δ μ = θ Ψ δ μ fun b μ1 => (b = true → ω Ψ Δ δ μ1) ∧ (b = false → ζ Ψ Δ δ μ1) := rfl
theorem u_next : dNext Ψ Δ δ μ = Δ.nx δ μ := rfl
theorem u_break : dBreak Ψ Δ δ μ = Δ.bk δ μ := rfl
theorem u_cont : dCont Ψ Δ δ μ = Δ.ct δ μ := rfl
theorem u_drop : dDrop φ Ψ Δ δ μ = φ Ψ δ μ fun _ μ1 => Δ.nx δ μ1 := rfl
theorem u_raise : dRaise0 C Ψ Δ δ μ = Ψ (.mk C none) δ μ := rfl
theorem u_aug : dAug n φ ρ Ψ Δ δ μ = ∃ x, δ[n]? = some (some x) ∧ φ Ψ δ μ fun y μ1 => ρ x y μ1 fun z μ2 => Δ.nx (δ.set n (some z)) μ2 := rfl
theorem u_var : dVar n Ψ δ μ Φ = ∃ d, δ[n]? = some (some d) ∧ Φ d μ := rfl
theorem u_rest : dRest n Ψ δ μ Φ = ∃ a ds, δ[n]? = some (some (.hd (.ref a))) ∧ μ a = some (.lst ds) ∧ Φ (.lst ds) (sset μ a (.frz ds)) := rfl
theorem u_c : dC d Ψ δ μ Φ = Φ d μ := rfl
theorem u_op : dOp ρ φa φb Ψ δ μ Φ = φa Ψ δ μ fun x μ1 => φb Ψ δ μ1 fun y μ2 => ρ x y μ2 Φ := rfl
theorem u_un : dUn σ φa Ψ δ μ Φ = φa Ψ δ μ fun x μ1 => σ x μ1 Φ := rfl
theorem u_test : dTest φ Ψ δ μ Th = φ Ψ δ μ fun x μ1 => ∃ b, x = .bl b ∧ Th b μ1 := rfl
theorem u_and : dAnd θ ϑ Ψ δ μ Th = θ Ψ δ μ fun b μ1 => (b = true → ϑ Ψ δ μ1 Th) ∧ (b = false → Th false μ1) := rfl
theorem u_or : dOr θ ϑ Ψ δ μ Th = θ Ψ δ μ fun b μ1 => (b = true → Th true μ1) ∧ (b = false → ϑ Ψ δ μ1 Th) := rfl
theorem u_not : dNot θ Ψ δ μ Th = θ Ψ δ μ fun b μ1 => Th (!b) μ1 := rfl
theorem u_yes : dYes Ψ δ μ Th = Th true μ := rfl
theorem u_andV : dAndV φa φb Ψ δ μ Φ = φa Ψ δ μ fun x μ1 => ∃ b, x = .bl b ∧ (b = true → φb Ψ δ μ1 Φ) ∧ (b = false → Φ (.bl false) μ1) := rfl
theorem u_orV : dOrV φa φb Ψ δ μ Φ = φa Ψ δ μ fun x μ1 => ∃ b, x = .bl b ∧ (b = true → Φ (.bl true) μ1) ∧ (b = false → φb Ψ δ μ1 Φ) := rfl
theorem u_notV : dNotV φa Ψ δ μ Φ = φa Ψ δ μ fun x μ1 => ∃ b, x = .bl b ∧ Φ (.bl (!b)) μ1 := rfl
theorem u_ifE : dIf θ φa φb Ψ δ μ Φ = θ Ψ δ μ fun b μ1 => (b = true → φa Ψ δ μ1 Φ) ∧ (b = false → φb Ψ δ μ1 Φ) := rfl
theorem u_chain : dChain ρ ρ' φa φb φc Ψ δ μ Φ = φa Ψ δ μ fun x μ1 => φb Ψ δ μ1 fun y μ2 => ρ x y μ2 fun z μ3 => ∃ b, z = .bl b ∧ (b = true → φc Ψ δ μ3 fun u μ4 => ρ' y u μ4 Φ) ∧ (b = false → Φ (.bl false) μ3) := rfl
theorem u_nil : dNil Ψ δ μ Ls = Ls [] μ := rfl
theorem u_cons : dCons φ ψ Ψ δ μ Ls = φ Ψ δ μ fun x μ1 => ψ Ψ δ μ1 fun xs μ2 => Ls (x :: xs) μ2 := rfl
theorem u_tup : dTup ψ Ψ δ μ Φ = ψ Ψ δ μ fun xs μ1 => xs.length ≤ 100000 ∧ Φ (.tup xs) μ1 := rfl
theorem u_lst : dLst ψ Ψ δ μ Φ = ψ Ψ δ μ fun xs μ1 => xs.length ≤ 100000 ∧ Φ (.lst xs) μ1 := rfl
theorem u_own : dOwn ψ Ψ δ μ Φ = ψ Ψ δ μ fun xs μ1 => xs.length ≤ 100000 ∧ ∀ p, μ1 p = none → Φ (.hd (.ref p)) (sset μ1 p (.lst xs)) := rfl
theorem u_cb : dCB κ ψ Ψ δ μ Φ = ψ Ψ δ μ fun xs μ1 => κ xs μ1 Φ := rfl
theorem u_call : dCall c ψ Ψ δ μ Φ = ψ Ψ δ μ fun xs μ1 => c xs μ1 Φ fun _ _ => False := rfl
theorem u_callS : dCallS c ψ Ψ δ μ Φ = ψ Ψ δ μ fun xs μ1 => c xs μ1 Φ fun x μ2 => Ψ x δ μ2 := rfl
theorem u_name : eName n d δ μ Pn = Pn (δ.set n (some d)) μ := rfl
theorem u_etup : eTup n η d δ μ Pn = ∃ ds, tpl d = some ds ∧ ds.length = n ∧ η ds δ μ Pn := rfl
theorem w_tplT {P : List D → Prop} : (∃ es, tpl (.tup ds) = some es ∧ P es) = P ds := propext ⟨fun ⟨c, e, q⟩ => by cases e; exact q, fun q => ⟨ds, rfl, q⟩⟩
theorem w_tplP {P : List D → Prop} : (∃ es, tpl (.pr ds) = some es ∧ P es) = P ds := propext ⟨fun ⟨c, e, q⟩ => by cases e; exact q, fun q => ⟨ds, rfl, q⟩⟩
theorem u_enil : eNil xs δ μ Pn = (xs = [] ∧ Pn δ μ) := rfl
theorem u_econs : eCons γ η xs δ μ Pn = ∃ d r, xs = d :: r ∧ γ d δ μ fun δ' μ' => η r δ' μ' Pn := rfl
theorem u_sub : eSub φa φb Ψ d δ μ Pn = φa Ψ δ μ fun x μ1 => φb Ψ δ μ1 fun y μ2 => ∃ a ds i j, x = .hd (.ref a) ∧ y = .int i ∧ μ2 a = some (.lst ds) ∧ ixN ds.length i = some j ∧ Pn δ (sset μ2 a (.lst (ds.set j d))) := rfl
theorem u_app : dApp φa φb Ψ δ μ Φ = φa Ψ δ μ fun x μ1 => ∃ a ds, x = .hd (.ref a) ∧ μ1 a = some (.lst ds) ∧ φb Ψ δ μ1 fun y μ2 => ∃ es, μ2 a = some (.lst es) ∧ es.length ≤ 100000 ∧ Φ .non (sset μ2 a (.lst (es ++ [y]))) := rfl
theorem u_slT : dSlT φ ol oh Ψ δ μ Φ = φ Ψ δ μ fun x μ1 => ol Ψ δ μ1 fun lo μ2 => oh Ψ δ μ2 fun hi μ3 => ∃ ds, x = .tup ds ∧ Φ (.tup (cutD ds lo hi)) μ3 := rfl
theorem u_slL : dSlL φ ol oh Ψ δ μ Φ = φ Ψ δ μ fun x μ1 => ol Ψ δ μ1 fun lo μ2 => oh Ψ δ μ2 fun hi μ3 => ∃ ds, Items μ3 x ds ∧ isTup x = false ∧ Φ (.lst (cutD ds lo hi)) μ3 := rfl
theorem u_noPart : dNoPart Ψ δ μ Xo = Xo none μ := rfl
theorem u_part : dPart φ Ψ δ μ Xo = φ Ψ δ μ fun x μ1 => ∃ i, x = .int i ∧ Xo (some i) μ1 := rfl
theorem u_revL : dRevL φ Ψ δ μ Φ = φ Ψ δ μ fun x μ1 => ∃ ds, Items μ1 x ds ∧ isTup x = false ∧ Φ (.lst ds.reverse) μ1 := rfl
end
theorem w_tupE {P : List D → Prop} : (∃ es, D.tup ds = .tup es ∧ P es) = P ds := propext ⟨fun ⟨c, e, q⟩ => by cases e; exact q, fun q => ⟨ds, rfl, q⟩⟩
theorem w_intE {P : Int → Prop} : (∃ j, D.int i = .int j ∧ P j) = P i := propext ⟨fun ⟨c, e, q⟩ => by cases e; exact q, fun q => ⟨i, rfl, q⟩⟩
theorem w_consE {P : D → List D → Prop} : (∃ d r, x :: xs = d :: r ∧ P d r) = P x xs := propext ⟨fun ⟨c, r, e, q⟩ => by cases e; exact q, fun q => ⟨x, xs, rfl, q⟩⟩
theorem w_hdE {a : Addr} {P : Addr → List D → Prop} : (∃ b es, D.hd (.ref a) = .hd (.ref b) ∧ P b es) = ∃ es, P a es := propext ⟨fun ⟨b, es, e, q⟩ => by cases e; exact ⟨es, q⟩, fun ⟨es, q⟩ => ⟨a, es, rfl, q⟩⟩
theorem w_cell {a : Addr} {P : List D → Prop} (h : μ a = some (.lst ds)) : (∃ es, μ a = some (.lst es) ∧ P es) = P ds := propext ⟨fun ⟨es, e, q⟩ => by rw [h] at e; cases e; exact q, fun q => ⟨ds, h, q⟩⟩
theorem w_cellS {a : Addr} {P : List D → Prop} : (∃ es, sset μ a (.lst ds) a = some (.lst es) ∧ P es) = P ds := w_cell sset_same
theorem w_set {a : Addr} {P' : Addr → List D → Nat → Prop} : (∃ b es k j, D.hd (.ref a) = .hd (.ref b) ∧ D.int i = .int k ∧ μ b = some (.lst es) ∧ ixN es.length k = some j ∧ P' b es j) = (∃ es, μ a = some (.lst es) ∧ ∃ j, ixN es.length i = some j ∧ P' a es j) := propext ⟨fun ⟨b, es, k, j, e1, e2, q1, q2⟩ => by cases e1; cases e2; exact ⟨es, q1, j, q2⟩, fun ⟨es, q1, j, q2⟩ => ⟨a, es, i, j, rfl, rfl, q1, q2⟩⟩
theorem at0 {P : D → Prop} {x0 : D} : (∃ d, atI (x0 :: xs) 0 = some d ∧ P d) = P x0 := propext ⟨fun ⟨d, e, q⟩ => by rw [show (0 : Int) = ((0 : Nat) : Int) from rfl, atI_nat (j := 0) rfl] at e; cases e; exact q, fun q => ⟨x0, atI_nat (j := 0) rfl, q⟩⟩
theorem at1 {P : D → Prop} {x0 x1 : D} : (∃ d, atI (x0 :: x1 :: xs) 1 = some d ∧ P d) = P x1 := propext ⟨fun ⟨d, e, q⟩ => by rw [show (1 : Int) = ((1 : Nat) : Int) from rfl, atI_nat (j := 1) rfl] at e; cases e; exact q, fun q => ⟨x1, atI_nat (j := 1) rfl, q⟩⟩
theorem at2 {P : D → Prop} {x0 x1 x2 : D} : (∃ d, atI (x0 :: x1 :: x2 :: xs) 2 = some d ∧ P d) = P x2 := propext ⟨fun ⟨d, e, q⟩ => by rw [show (2 : Int) = ((2 : Nat) : Int) from rfl, atI_nat (j := 2) rfl] at e; cases e; exact q, fun q => ⟨x2, atI_nat (j := 2) rfl, q⟩⟩
theorem at3 {P : D → Prop} {x0 x1 x2 x3 : D} : (∃ d, atI (x0 :: x1 :: x2 :: x3 :: xs) 3 = some d ∧ P d) = P x3 := propext ⟨fun ⟨d, e, q⟩ => by rw [show (3 : Int) = ((3 : Nat) : Int) from rfl, atI_nat (j := 3) rfl] at e; cases e; exact q, fun q => ⟨x3, atI_nat (j := 3) rfl, q⟩⟩
theorem ix40 {P : Nat → Prop} : (∃ j, ixN 4 0 = some j ∧ P j) = P 0 := propext ⟨fun ⟨j, e, q⟩ => by cases e; exact q, fun q => ⟨0, rfl, q⟩⟩
theorem ix42 {P : Nat → Prop} : (∃ j, ixN 4 2 = some j ∧ P j) = P 2 := propext ⟨fun ⟨j, e, q⟩ => by cases e; exact q, fun q => ⟨2, rfl, q⟩⟩
theorem ix43 {P : Nat → Prop} : (∃ j, ixN 4 3 = some j ∧ P j) = P 3 := propext ⟨fun ⟨j, e, q⟩ => by cases e; exact q, fun q => ⟨3, rfl, q⟩⟩
theorem mapI_get {ws : List Int} {i : Nat} {d : D} (h : (ws.map D.int)[i]? = some d) : ∃ z, ws[i]? = some z ∧ d = .int z := by
  rw [List.getElem?_map] at h
  cases e : ws[i]? with
  | none => rw [e] at h; cases h
  | some z => rw [e] at h; cases h; exact ⟨z, rfl, rfl⟩
theorem v_ixH {a : Addr} : oIxL (.hd (.ref a)) (.int i) μ Φ = ((∃ es, μ a = some (.lst es) ∧ ∃ d, atI es i = some d ∧ Φ d μ) ∨ (∃ es, μ a = some (.frz es) ∧ ∃ d, atI es i = some d ∧ Φ d μ)) := propext (Iff.intro (by
  rintro ⟨es, k, d, hi, _, e, q⟩
  cases e
  cases hi with
  | own h => exact .inl ⟨es, h, d, q⟩
  | frz h => exact .inr ⟨es, h, d, q⟩) (by
  rintro (⟨es, h, d, q⟩ | ⟨es, h, d, q⟩)
  · exact ⟨es, i, d, .own h, rfl, rfl, q⟩
  · exact ⟨es, i, d, .frz h, rfl, rfl, q⟩))
theorem v_items {a : Addr} {P : List D → Prop} : (∃ es, Items μ (.hd (.ref a)) es ∧ P es) = ((∃ es, μ a = some (.lst es) ∧ P es) ∨ (∃ es, μ a = some (.frz es) ∧ P es)) := propext (Iff.intro (by
  rintro ⟨es, hi, q⟩
  cases hi with
  | own h => exact .inl ⟨es, h, q⟩
  | frz h => exact .inr ⟨es, h, q⟩) (by
  rintro (⟨es, h, q⟩ | ⟨es, h, q⟩)
  · exact ⟨es, .own h, q⟩
  · exact ⟨es, .frz h, q⟩))
theorem v_itemsT {P : List D → Prop} : (∃ es, Items μ (.tup ds) es ∧ P es) = P ds := propext ⟨fun ⟨es, h, q⟩ => by cases h; exact q, fun q => ⟨ds, .tup ds, q⟩⟩
theorem v_itemsL {P : List D → Prop} : (∃ es, Items μ (.lst ds) es ∧ P es) = P ds := propext ⟨fun ⟨es, h, q⟩ => by cases h; exact q, fun q => ⟨ds, .lst ds, q⟩⟩
theorem v_itemsS {ns : List Int} {P : List D → Prop} : (∃ es, Items μ (.scr ns) es ∧ P es) = P (ns.map .int) := propext ⟨fun ⟨es, h, q⟩ => by cases h; exact q, fun q => ⟨_, .scr ns, q⟩⟩
theorem v_len : cLen [x] μ Φ = ∃ es, Items μ x es ∧ Φ (.int es.length) μ := propext ⟨fun ⟨y, es, e, h, q⟩ => by cases e; exact ⟨es, h, q⟩, fun ⟨es, h, q⟩ => ⟨x, es, rfl, h, q⟩⟩
theorem v_tuple : cTuple [x] μ Φ = ∃ es, Items μ x es ∧ Φ (.tup es) μ := propext ⟨fun ⟨y, es, e, h, q⟩ => by cases e; exact ⟨es, h, q⟩, fun ⟨es, h, q⟩ => ⟨x, es, rfl, h, q⟩⟩
theorem v_list : cList [x] μ Φ = ∃ es, Items μ x es ∧ Φ (.lst es) μ := propext ⟨fun ⟨y, es, e, h, q⟩ => by cases e; exact ⟨es, h, q⟩, fun ⟨es, h, q⟩ => ⟨x, es, rfl, h, q⟩⟩
theorem v_listOwn : cListOwn [x] μ Φ = ∃ es, Items μ x es ∧ ∀ p, μ p = none → Φ (.hd (.ref p)) (sset μ p (.lst es)) := propext ⟨fun ⟨y, es, e, h, q⟩ => by cases e; exact ⟨es, h, q⟩, fun ⟨es, h, q⟩ => ⟨x, es, rfl, h, q⟩⟩
section
variable {T : String}
theorem i_tT : instB (.tup xs) "tuple" = some true := rfl
theorem i_tI : instB (.tup xs) "int" = some false := rfl
theorem i_tB : instB (.tup xs) "bool" = some false := rfl
theorem i_tS : instB (.tup xs) "str" = some false := rfl
theorem i_nT : instB .non "tuple" = some false := rfl
theorem i_nI : instB .non "int" = some false := rfl
theorem i_nB : instB .non "bool" = some false := rfl
theorem i_nS : instB .non "str" = some false := rfl
theorem i_iT : instB (.int i) "tuple" = some false := rfl
theorem i_iI : instB (.int i) "int" = some true := rfl
theorem i_iB : instB (.int i) "bool" = some false := rfl
theorem i_iS : instB (.int i) "str" = some false := rfl
theorem i_bT : instB (.bl b) "tuple" = some false := rfl
theorem i_bI : instB (.bl b) "int" = some true := rfl
theorem i_bB : instB (.bl b) "bool" = some true := rfl
theorem i_bS : instB (.bl b) "str" = some false := rfl
theorem i_sT : instB (.str s) "tuple" = some false := rfl
theorem i_sI : instB (.str s) "int" = some false := rfl
theorem i_sB : instB (.str s) "bool" = some false := rfl
theorem i_sS : instB (.str s) "str" = some true := rfl
end
theorem w_eqB {c : Bool} : oEq (.bl b) (.bl c) μ Φ = Φ (.bl (decide (b = c))) μ := w_someb
/-- the turns of a comprehension that changes nothing -/
def givenD (n : Nat) (f : Nat → Bool) (v : Nat → D) : List D := ((List.range n).filter f).map v
theorem givenD_yes {n : Nat} {f : Nat → Bool} {v : Nat → D} (h : f n = true) : givenD (n + 1) f v = givenD n f v ++ [v n] := by
  unfold givenD
  rw [List.range_succ, List.filter_append, List.map_append, List.filter_cons, if_pos h] <;> rfl
theorem givenD_no {n : Nat} {f : Nat → Bool} {v : Nat → D} (h : f n = false) : givenD (n + 1) f v = givenD n f v := by
  unfold givenD
  rw [List.range_succ, List.filter_append, List.map_append, List.filter_cons, if_neg (by rw [h]; decide)]
  exact List.append_nil _
theorem givenD_len (n : Nat) (f : Nat → Bool) (v : Nat → D) : (givenD n f v).length ≤ n := by
  unfold givenD
  rw [List.length_map]
  have h := List.length_filter_le f (List.range n)
  rw [List.length_range] at h
  exact h
theorem givenD_all (n : Nat) (v : Nat → D) : givenD n (fun _ => true) v = (List.range n).map v := by
  unfold givenD
  rw [List.filter_eq_self.mpr fun _ _ => rfl]
theorem lc_go {γ : DG} {θ : DT} {φ : DE} {δw : DEnv} {μ1 : Sto} {xs : List D} (f : Nat → Bool) (v : Nat → D) (hz : xs.length ≤ 100000)
    (hs : ∀ (i : Nat) (d : D) (μ2 : Sto) (X : DK) (Y : Sto → Prop), xs[i]? = some d → Sub μ1 μ2 → (f i = true → X (v i) μ2) → (f i = false → Y μ2) →
      γ d δw μ2 fun δ3 μ3 => θ Ψ δ3 μ3 fun b μ4 => (b = true → φ Ψ δ3 μ4 X) ∧ (b = false → Y μ4))
    (hd : Φ (.lst (givenD xs.length f v)) μ1) : ∀ p, μ1 p = none → ∃ W : Nat → Sto → Prop, W 0 (sset μ1 p (.lst [])) ∧
  (∀ i d μ2, xs[i]? = some d → W i μ2 → γ d δw μ2 fun δ3 μ3 => θ Ψ δ3 μ3 fun b μ4 =>
    (b = true → φ Ψ δ3 μ4 fun y μ5 => ∃ acc, μ5 p = some (.lst acc) ∧ acc.length ≤ 100000 ∧ W (i + 1) (sset μ5 p (.lst (acc ++ [y])))) ∧ (b = false → W (i + 1) μ4)) ∧
  ∀ μ2, W xs.length μ2 → ∃ acc, μ2 p = some (.lst acc) ∧ Φ (.lst acc) (sdel μ2 p) := fun p hp => by
  refine ⟨fun i μ' => μ' = sset μ1 p (.lst (givenD i f v)), rfl, fun i d μ2 hi e => ?_, fun μ2 e => ?_⟩
  · subst e
    have hl : i < xs.length := (List.getElem?_eq_some_iff.mp hi).1
    refine hs i d _ _ _ hi (.set Sub.refl hp) (fun hf => ⟨_, sset_same, ?_, ?_⟩) fun hf => ?_
    · have := givenD_len i f v; omega
    · show sset (sset μ1 p (.lst (givenD i f v))) p (.lst (givenD i f v ++ [v i])) = sset μ1 p (.lst (givenD (i + 1) f v))
      rw [sset_sset, givenD_yes hf]
    · show sset μ1 p (.lst (givenD i f v)) = sset μ1 p (.lst (givenD (i + 1) f v))
      rw [givenD_no hf]
  · subst e
    refine ⟨_, sset_same, ?_⟩
    rw [sdel_sset hp]
    exact hd
/-- the list of a comprehension -/
def LcG (γ : DG) (θ : DT) (φ : DE) (δw : DEnv) (Ψ : XP) (xs : List D) (μ1 : Sto) (Φ : DK) : Prop := ∀ p, μ1 p = none → ∃ W : Nat → Sto → Prop, W 0 (sset μ1 p (.lst [])) ∧
  (∀ i d μ2, xs[i]? = some d → W i μ2 → γ d δw μ2 fun δ3 μ3 => θ Ψ δ3 μ3 fun b μ4 =>
    (b = true → φ Ψ δ3 μ4 fun y μ5 => ∃ acc, μ5 p = some (.lst acc) ∧ acc.length ≤ 100000 ∧ W (i + 1) (sset μ5 p (.lst (acc ++ [y])))) ∧ (b = false → W (i + 1) μ4)) ∧
  ∀ μ2, W xs.length μ2 → ∃ acc, μ2 p = some (.lst acc) ∧ Φ (.lst acc) (sdel μ2 p)
theorem u_lc {ι : DI} {γ : DG} {θ : DT} {φ : DE} {vs : List Nat} : dLc ι γ θ φ vs Ψ δ μ Φ = ι Ψ δ μ fun xs μ1 => LcG γ θ φ (dwipe δ vs) Ψ xs μ1 Φ := rfl
theorem lcG_pure {γ : DG} {θ : DT} {φ : DE} {δw : DEnv} {μ1 : Sto} {xs : List D} (f : Nat → Bool) (v : Nat → D) (hz : xs.length ≤ 100000)
    (hs : ∀ (i : Nat) (d : D) (μ2 : Sto) (X : DK) (Y : Sto → Prop), xs[i]? = some d → Sub μ1 μ2 → (f i = true → X (v i) μ2) → (f i = false → Y μ2) →
      γ d δw μ2 fun δ3 μ3 => θ Ψ δ3 μ3 fun b μ4 => (b = true → φ Ψ δ3 μ4 X) ∧ (b = false → Y μ4))
    (hd : Φ (.lst (givenD xs.length f v)) μ1) : LcG γ θ φ δw Ψ xs μ1 Φ := lc_go f v hz hs hd
/-- each item gives one -/
theorem lcG_map {γ : DG} {φ : DE} {δw : DEnv} {μ1 : Sto} {xs : List D} (v : Nat → D) (hz : xs.length ≤ 100000)
    (hs : ∀ (i : Nat) (d : D) (μ2 : Sto) (X : DK), xs[i]? = some d → Sub μ1 μ2 → X (v i) μ2 → γ d δw μ2 fun δ3 μ3 => φ Ψ δ3 μ3 X)
    (hd : Φ (.lst ((List.range xs.length).map v)) μ1) (mono : ∀ d δ μ (P Q : DEnv → Sto → Prop), (∀ a b, P a b → Q a b) → γ d δ μ P → γ d δ μ Q) : LcG γ dYes φ δw Ψ xs μ1 Φ := by
  refine lcG_pure (fun _ => true) v hz (fun i d μ2 X Y hi hsub hx hy => ?_) (by rw [givenD_all]; exact hd)
  exact mono _ _ _ _ _ (fun δ3 μ3 h => ⟨fun _ => h, fun z => nomatch z⟩) (hs i d μ2 X hi hsub (hx rfl))
theorem lcG_mapN {n : Nat} {φ : DE} {δw : DEnv} {μ1 : Sto} {xs : List D} (v : Nat → D) (hz : xs.length ≤ 100000)
    (hs : ∀ (i : Nat) (d : D) (μ2 : Sto) (X : DK), xs[i]? = some d → Sub μ1 μ2 → X (v i) μ2 → φ Ψ (δw.set n (some d)) μ2 X)
    (hd : Φ (.lst ((List.range xs.length).map v)) μ1) : LcG (eName n) dYes φ δw Ψ xs μ1 Φ :=
  lcG_map v hz hs hd fun d δ μ P Q h q => h _ _ q
theorem u_for {ι : DI} {γ : DG} {ω : DSt} : dFor ι γ ω Ψ Δ δ μ = ι Ψ δ μ fun xs μ1 => ∃ W : Nat → DEnv → Sto → Prop, W 0 δ μ1 ∧
  (∀ i d δ' μ', xs[i]? = some d → W i δ' μ' → γ d δ' μ' fun δ2 μ2 => ω Ψ { Δ with nx := W (i + 1), ct := W (i + 1), bk := Δ.nx } δ2 μ2) ∧ ∀ δ' μ', W xs.length δ' μ' → Δ.nx δ' μ' := rfl
section
variable {φ φ' : DE} {Ls : List D → Sto → Prop}
theorem u_iT : iSeqT φ Ψ δ μ Ls = φ Ψ δ μ fun x μ1 => ∃ ds, x = .tup ds ∧ Ls ds μ1 := rfl
theorem u_iL : iSeqL φ Ψ δ μ Ls = φ Ψ δ μ fun x μ1 => ∃ ds, x = .lst ds ∧ Ls ds μ1 := rfl
theorem u_iR1 : iR1 φ Ψ δ μ Ls = φ Ψ δ μ fun x μ1 => ∃ j, x = .int j ∧ j < 4611686018427387904 ∧ -4611686018427387904 ≤ j ∧ Ls (rngD 0 j.toNat) μ1 := rfl
theorem u_iR2 : iR2 φ φ' Ψ δ μ Ls = φ Ψ δ μ fun x μ1 => φ' Ψ δ μ1 fun y μ2 => ∃ i j, x = .int i ∧ y = .int j ∧ (-4611686018427387904 ≤ i ∧ i < 4611686018427387904 ∧ -4611686018427387904 ≤ j ∧ j < 4611686018427387904) ∧ Ls (rngD i (j - i).toNat) μ2 := rfl
theorem u_iZ : iZipT φ φ' Ψ δ μ Ls = φ Ψ δ μ fun x μ1 => φ' Ψ δ μ1 fun y μ2 => ∃ xs ys, x = .tup xs ∧ y = .tup ys ∧ Ls ((xs.zip ys).map fun p => .pr [p.1, p.2]) μ2 := rfl
theorem u_iS : iText φ Ψ δ μ Ls = φ Ψ δ μ fun x μ1 => ∃ s, x = .str s ∧ Ls (s.cps.toList.map fun c => .str ⟨#[c]⟩) μ1 := rfl
end
theorem w_lstE {P : List D → Prop} : (∃ es, D.lst ds = .lst es ∧ P es) = P ds := propext ⟨fun ⟨c, e, q⟩ => by cases e; exact q, fun q => ⟨ds, rfl, q⟩⟩
theorem rngD_get {lo : Int} {n i : Nat} {d : D} (h : (rngD lo n)[i]? = some d) : i < n ∧ d = .int (lo + (i : Int)) := by
  have hl := (List.getElem?_eq_some_iff.mp h).1
  rw [rngD_len] at hl
  rw [rngD_at hl] at h
  cases h
  exact ⟨hl, rfl⟩
theorem w_allB {P : List Bool} (e : ds = P.map .bl) (h : Φ (.bl (P.all id)) μ) : cAll [.lst ds] μ Φ := ⟨P, by rw [e], h⟩
/-- one statement, what follows named -/
theorem q_seq {ω ζ : DSt} (h : ∀ nx, nx = ζ Ψ Δ → ω Ψ ⟨nx, Δ.rt, Δ.bk, Δ.ct⟩ δ μ) : dSeq ω ζ Ψ Δ δ μ := h _ rfl
theorem atI_n {α : Type} {xs : List α} {j : Nat} {v : α} (h : xs[j]? = some v) : atI xs (j : Int) = some v := atI_nat h
theorem ret_same {Φ : DK} {d : D} {μ : Sto} (h : Φ d μ) : ∃ μ2, Sub μ2 μ ∧ Φ d μ2 := ⟨μ, Sub.refl, h⟩
theorem mulx (a b : Nat) (h1 : i.natAbs < 2 ^ a) (h2 : j.natAbs < 2 ^ b) (h : a + b ≤ 134217728) : CMulX i j := mulx_ok h1 h2 h
end
end DW
set_option Elab.async false
set_option linter.all false
set_option maxRecDepth 100000
set_option maxHeartbeats 4000000
namespace DW
open PySem PySem.Spec PyProof.Rows L2 HT
def dRevT (φ : DE) : DE := fun Ψ δ μ Φ => φ Ψ δ μ fun x μ1 => ∃ ds, x = .tup ds ∧ Φ (.tup ds.reverse) μ1
theorem tuple_mul1 (l : Addr) (items : Array Value) (n : Nat) (sl : Array (Option Value)) (dd : Option Addr) (x : Int) (u : Tok) (c0 : (decide (x < -(2 ^ 63)) || decide (x ≥ 2 ^ 63)) = false) (c1 : (items.isEmpty || x == 1) = true) :
    Meets (Builtin.«tuple.__mul__» ⟨[.ref l, .int x u], []⟩) (fun _ R s => s.heap.get? l = some { cls := .type "tuple", dict := dd, data := .seq items n, slots := sl } ∧ R (.ok (.ret (Value.ref l))) s) :=
  .of_wp fun prog w A R s h => by
    obtain ⟨hp, g, d, tk, os⟩ := s
    obtain ⟨hl, h⟩ := h
    have f1 := AutoSeq1.idx_int
    wp_walk using wpAny_loadPart' hl
    repeat (first
      | (refine wpAny_ite_false (decide_eq_false (by rw [c0]; exact Bool.false_ne_true)) ?_; wp_walk using wpAny_loadPart' hl)
      | (refine wpAny_ite_true (decide_eq_true (by rw [c1])) ?_; wp_walk using wpAny_loadPart' hl))
    exact ⟨_, rfl, h⟩
theorem tuple_mul0 (l : Addr) (items : Array Value) (n : Nat) (sl : Array (Option Value)) (dd : Option Addr) (x : Int) (u : Tok) (c0 : (decide (x < -(2 ^ 63)) || decide (x ≥ 2 ^ 63)) = false) (c1 : (items.isEmpty || x == 1) = false) (c2 : (decide (x ≤ 0) || items.isEmpty) = true) :
    Meets (Builtin.«tuple.__mul__» ⟨[.ref l, .int x u], []⟩) (fun _ R s => s.heap.get? l = some { cls := .type "tuple", dict := dd, data := .seq items n, slots := sl } ∧
      R (.ok (.ret (Value.ref s.heap.objs.size))) { s with heap := s.heap.push { cls := Value.type "tuple", data := Data.seq #[] }, toks := s.toks }) :=
  .of_wp fun prog w A R s h => by
    obtain ⟨hp, g, d, tk, os⟩ := s
    obtain ⟨hl, h⟩ := h
    have f1 := AutoSeq1.idx_int
    wp_walk using wpAny_loadPart' hl
    repeat (first
      | (refine wpAny_ite_false (decide_eq_false (by rw [c0]; exact Bool.false_ne_true)) ?_; wp_walk using wpAny_loadPart' hl)
      | (refine wpAny_ite_false (decide_eq_false (by rw [c1]; exact Bool.false_ne_true)) ?_; wp_walk using wpAny_loadPart' hl)
      | (refine wpAny_ite_true (decide_eq_true (by rw [c2])) ?_; wp_walk using wpAny_loadPart' hl))
    exact ⟨_, rfl, h⟩
def rRepBig (K : Fg) : R2 := fun x y H Q => ∃ l k xs, x = .ref l ∧ y = .int k ∧ SqT K H l xs ∧ xs ≠ [] ∧ 2 ≤ k ∧ k ≤ 1000 ∧ xs.length ≤ 1000 ∧ NewT H (List.replicate k.toNat xs).flatten Q
theorem op_repBig {X : Cx} : OpR X (binaryOp .Mult) (rRepBig X.K) := by
  intro pins s σ H x y v u Q I rx ry h
  obtain ⟨l, k, xs, rfl, rfl, hT, hne, g2, g3, hz, q⟩ := h
  cases rx
  obtain ⟨t, rfl⟩ := ry
  obtain ⟨its, r, ⟨⟨cls, dd, data, sl⟩, ho, hc, n, hd⟩, hs⟩ := I.tuple hT
  simp only at hc hd
  subst hc hd
  have many : its.length = xs.length := r.length.symm
  have some' : its.toArray.isEmpty = false := by
    cases its with
    | nil => exact absurd (List.eq_nil_of_length_eq_zero (l := xs) (by simpa using many.symm)) hne
    | cons a b => rfl
  have wide : (its.toArray.size : Int) * k ≤ 1000000 := by
    have z : ((xs.length : Nat) : Int) * k ≤ 1000 * k := Int.mul_le_mul_of_nonneg_right (by omega) (by omega)
    rw [List.size_toArray, many]; omega
  have fl : (List.replicate k.toNat xs).flatten.length ≤ sizeLine := by
    have z : k.toNat * xs.length ≤ 1000 * 1000 := Nat.mul_le_mul (by omega) hz
    rw [PyProof.Rows.lm_len_rep_flat, sizeLine_eq]; omega
  have fl2 : (List.replicate k.toNat its).flatten.length ≤ sizeLine := by rw [PyProof.Rows.lm_len_rep_flat, many, ← PyProof.Rows.lm_len_rep_flat]; exact fl
  have z0 : (decide (k < -(2 ^ 63)) || decide (k ≥ 2 ^ 63)) = false := by rw [decide_eq_false (by omega), decide_eq_false (by omega)]; rfl
  have z1 : (its.toArray.isEmpty || k == 1) = false := by rw [some', Bool.false_or]; exact beq_eq_false_iff_ne.mpr (by omega)
  have z2 : (decide (k ≤ 0) || its.toArray.isEmpty) = false := by rw [some', Bool.or_false]; exact decide_eq_false (by omega)
  have z4 : Builtin.Tuple.tupleTooMany ((its.toArray.size : Int) * k) = false := by unfold Builtin.Tuple.tupleTooMany; rw [sizeLine_eq]; exact decide_eq_false (by omega)
  have mul := tuple_mulW l its.toArray n dd sl k t z0 z1 z2 (by omega) z4 (by rw [size_rep, List.size_toArray]; exact fl2)
  have one : s.TypeIs (.ref l) "tuple" := ⟨_, ho, rfl⟩
  refine wpAny_binaryOp_repeat_ref (T := "tuple") (U := "int") (by decide) one (fun s' => typeIs_int s' k t) noFill_tuple_mul F.fills_int_mul F.slot_int_rmul repeat_tuple F.slot_int_index.lookup ?_
  refine call_meets F.slot_int_rmul (typeIs_int s k t) F.entry_int_rmul (F.args_int_rmul_2 _ _) (int_rmul_tuple k t l its.toArray n dd sl) ⟨ho, rfl, one, ?_⟩
  refine call_meets F.slot_tuple_mul one F.entry_tuple_mul (F.args_tuple_mul_2 _ _) mul ⟨ho, ?_⟩
  rw [size_rep]
  exact new_tup I fl (r.rep k.toNat) q
def rRepA (K : Fg) : R2 := fun x y H Q => ∃ l k xs, x = .ref l ∧ y = .int k ∧ SqT K H l xs ∧ k ≤ 1000 ∧ -1000000 ≤ k ∧ xs.length ≤ 1000 ∧ (xs = [] ∨ k = 1 → Q (.ref l) H) ∧ (xs ≠ [] → k ≤ 0 → NewT H [] Q) ∧
  (xs ≠ [] → 2 ≤ k → NewT H (List.replicate k.toNat xs).flatten Q)
theorem op_repA {X : Cx} : OpR X (binaryOp .Mult) (rRepA X.K) := by
  intro pins s σ H x y v u Q I rx ry h
  obtain ⟨l, k, xs, ex, ey, hT, h1, h2, hz, q1, q2, q3⟩ := h
  by_cases hbig : xs ≠ [] ∧ 2 ≤ k
  · exact op_repBig pins s σ H _ _ v u Q I rx ry ⟨l, k, xs, ex, ey, hT, hbig.1, hbig.2, h1, hz, q3 hbig.1 hbig.2⟩
  · subst ex ey
    cases rx
    obtain ⟨t, rfl⟩ := ry
    obtain ⟨its, r, ⟨⟨cls, dd, data, sl⟩, ho, hc, n, hd⟩, hs⟩ := I.tuple hT
    simp only at hc hd
    subst hc hd
    have hle : its.length = xs.length := r.length.symm
    have c0 : (decide (k < -(2 ^ 63)) || decide (k ≥ 2 ^ 63)) = false := by
      rw [decide_eq_false (by omega), decide_eq_false (by omega)] <;> rfl
    have hemp : its.toArray.isEmpty = decide (xs = []) := by
      cases its with
      | nil => rw [List.eq_nil_of_length_eq_zero (l := xs) (by simpa using hle.symm)]; rfl
      | cons a b =>
        have : xs ≠ [] := fun z => by rw [z] at hle; simp at hle
        rw [decide_eq_false this]; rfl
    by_cases hs1 : xs = [] ∨ k = 1
    · have c1 : (its.toArray.isEmpty || k == 1) = true := by
        rw [hemp]
        rcases hs1 with z | z
        · rw [decide_eq_true z]; rfl
        · rw [z]; simp
      refine wpAny_binaryOp_repeat_ref (T := "tuple") (U := "int") (by decide) ⟨_, ho, rfl⟩ (fun s' => typeIs_int s' k t) noFill_tuple_mul F.fills_int_mul F.slot_int_rmul repeat_tuple F.slot_int_index.lookup
        (call_meets F.slot_int_rmul (typeIs_int s k t) F.entry_int_rmul (F.args_int_rmul_2 _ _) (int_rmul_tuple k t l its.toArray n dd sl)
          ⟨ho, rfl, ⟨_, ho, rfl⟩, call_meets F.slot_tuple_mul ⟨_, ho, rfl⟩ F.entry_tuple_mul (F.args_tuple_mul_2 _ _) (tuple_mul1 l its.toArray n sl dd k t c0 c1) ⟨ho, ?_⟩⟩)
      exact ⟨.ref l, H, I, rfl, q1 hs1⟩
    · have hx : xs ≠ [] := fun z => hs1 (.inl z)
      have hk : k ≤ 0 := by
        have : ¬ 2 ≤ k := fun z => hbig ⟨hx, z⟩
        have : k ≠ 1 := fun z => hs1 (.inr z)
        omega
      have c1 : (its.toArray.isEmpty || k == 1) = false := by
        rw [hemp, decide_eq_false hx, Bool.false_or]
        exact beq_eq_false_iff_ne.mpr (by omega)
      have c2 : (decide (k ≤ 0) || its.toArray.isEmpty) = true := by rw [decide_eq_true hk]; rfl
      refine wpAny_binaryOp_repeat_ref (T := "tuple") (U := "int") (by decide) ⟨_, ho, rfl⟩ (fun s' => typeIs_int s' k t) noFill_tuple_mul F.fills_int_mul F.slot_int_rmul repeat_tuple F.slot_int_index.lookup
        (call_meets F.slot_int_rmul (typeIs_int s k t) F.entry_int_rmul (F.args_int_rmul_2 _ _) (int_rmul_tuple k t l its.toArray n dd sl)
          ⟨ho, rfl, ⟨_, ho, rfl⟩, call_meets F.slot_tuple_mul ⟨_, ho, rfl⟩ F.entry_tuple_mul (F.args_tuple_mul_2 _ _) (tuple_mul0 l its.toArray n sl dd k t c0 c1 c2) ⟨ho, ?_⟩⟩)
      exact new_tup (its := []) I (by decide) .nil (q2 hx hk)
def oRepT : DO := fun x y μ Φ => ∃ ds k, x = .tup ds ∧ y = .int k ∧ k ≤ 1000 ∧ -1000000 ≤ k ∧ ds.length ≤ 1000 ∧ Φ (.tup (List.replicate k.toNat ds).flatten) μ
theorem roRepT {K : Fg} : RO K (rRepA K) oRepT := fun H μ v w d e Φ Q s0 r1 r2 h k => by
  obtain ⟨ds, i, rfl, rfl, h1, h2, h3, q⟩ := h
  obtain ⟨p, vs, rfl, t1, t2⟩ := Rep.tup_inv r1
  obtain rfl := Rep.int_inv r2
  have hl := t2.length
  have nil : vs = [] → ds = [] := fun z => by rw [z] at hl; exact List.eq_nil_of_length_eq_zero hl.symm
  have rnil : ∀ n, (List.replicate n ([] : List D)).flatten = [] := fun n => by induction n <;> simp_all [List.replicate_succ]
  refine ⟨p, i, vs, rfl, rfl, t1.sq, h1, h2, by omega, fun z => ?_, fun z z2 q0 o ho hc hp => ?_, fun z z2 q0 o ho hc hp => ?_⟩
  · refine k _ H _ μ .refl s0 ?_ q
    have e : (List.replicate i.toNat ds).flatten = ds := by
      rcases z with z | z
      · rw [nil z, rnil]
      · subst z; simp
    rw [e]
    exact r1
  · refine k _ _ _ μ (.new hp) (s0.new hp) ?_ q
    have e : i.toNat = 0 := by omega
    rw [e]
    exact rep_tupN s0 hp ho hc .nil
  · exact k _ _ _ μ (.new hp) (s0.new hp) (rep_tupN s0 hp ho hc (reps_rep t2 _)) q
end DW
set_option Elab.async false
set_option linter.all false
set_option maxRecDepth 100000
set_option maxHeartbeats 4000000
namespace DW
open PySem PySem.Spec PyProof.Rows L2 GenW
end DW
set_option Elab.async false
set_option linter.all false
set_option maxRecDepth 100000
set_option maxHeartbeats 4000000
namespace DW
open PySem PySem.Spec PyProof.Rows L2 HotX
def kitD (K : Fg) : XD → V → Option Bool
  | .mk C none, .ref T => PySem.W.kitOne K (.ref C) (.ref T)
  | .mk C none, .ty T => PySem.W.kitOne K (.ref C) (.type T)
  | _, _ => none
def excOk (K : Fg) : XD → Prop
  | .mk C none => L2.ExcC K C
  | _ => False
def cIsX (K : Fg) (a : Addr) (x : XD) : DC := fun xs μ Φ => ∃ c b, xs = [.hd (.ref a), .hd c] ∧ kitD K x c = some b ∧ excOk K x ∧ Φ (.bl b) μ
section
variable {K : Fg} {B : Bx K}
theorem sCallSW {W : WX} {c : Con} {tas : TA} {ψ : DA} (hW : B.W = W) (a : SA B tas ψ) : SE B (tCallS (spOf K c) (WE W) tas) (dCallS c ψ) := by
  subst hW; exact sCallS a
theorem sRaise0W {W : WX} {C : Addr} (hW : B.W = W) : SS B (fun _ σ H => (fun (_ : L2.St) (H : Hp) (Q : XK) => Q (.ref C) none H) σ H fun cls d H' => W cls d σ H') (dRaise0 C) := by
  subst hW; exact sRaise0
def dTryAs (K : Fg) (c : Value) (i : Nat) (ω : DSt) (ζ : Addr → XD → DSt) : DSt := fun Ψ Δ δ μ => ω (fun x δ' μ' => ∃ b, (match x with | .mk D _ => PySem.W.exmOne K (.ref D) c) = some b ∧
  (b = true → ∀ a, μ' a = none → ζ a x Ψ ⟨fun δ2 μ2 => Δ.nx (δ2.set i none) μ2, Δ.rt, fun δ2 μ2 => Δ.bk (δ2.set i none) μ2, fun δ2 μ2 => Δ.ct (δ2.set i none) μ2⟩ (δ'.set i (some (.hd (.ref a)))) μ') ∧ (b = false → Ψ x δ' μ')) Δ δ μ
theorem sTryAs {c : Value} {i : Nat} {W : WX} {tb : WX → TS} {ts : Addr → Value → Option Addr → TS} {ω : DSt} {ζ : Addr → XD → DSt} (hW : B.W = W) (hb : ∀ (W' : WX) (B' : Bx K), B'.W = W' → SS B' (tb W') ω)
    (hs : ∀ (a : Addr) (cls : Value) (dd : Option Addr) (x : XD) (B' : Bx K), B'.W = W → RepX K B'.μ0 B'.H0 cls dd x → SS B' (ts a cls dd) (ζ a x)) :
    SS B (fun D σ H => tb (wAs K c i ts W D) D σ H) (dTryAs K c i ω ζ) := fun D Δ σ H δ μ E S q => by
  subst hW
  refine hb _ ⟨B.H0, B.μ0, wAs K c i ts B.W D, _, fun cls dd σ1 H1 x δ1 μ1 S1 rx q1 => ?_⟩ rfl D Δ σ H δ μ ⟨E.nx, E.rt, E.bk, E.ct⟩ S q
  obtain ⟨b, e1, hy, hn⟩ := q1
  have ec : ∃ C fs, x = .mk C fs ∧ cls = .ref C := by
    obtain ⟨C, fs⟩ := x
    cases fs with
    | none => exact ⟨C, _, rfl, rx.1⟩
    | some f => exact ⟨C, _, rfl, rx.1⟩
  obtain ⟨C, fs, rfl, rfl⟩ := ec
  refine ⟨b, e1, fun hb1 a ha => ?_, fun hb1 => B.hW _ _ σ1 H1 _ δ1 μ1 S1 rx (hn hb1)⟩
  have hfr := S1.sto.fresh ha
  refine hs a (.ref C) dd (.mk C fs) (B.re H1 μ1 S1.evo) rfl rx _ _ _ H1 _ μ1 ⟨fun σ2 H2 δ2 μ2 S2 q2 => ?_, fun v H2 d μ2 σ2 δ2 S2 r2 q2 => ?_, fun σ2 H2 δ2 μ2 S2 q2 => ?_, fun σ2 H2 δ2 μ2 S2 q2 => ?_⟩ ⟨.refl, S1.sto, S1.env.set (.hd _ .nil) i⟩ (hy hb1 a hfr)
  · exact E.nx _ H2 _ μ2 ⟨S1.evo.trans S2.evo, S2.sto, S2.env.unset i⟩ q2
  · exact E.rt v H2 d μ2 σ2 δ2 ⟨S1.evo.trans S2.evo, S2.sto, S2.env⟩ r2 q2
  · exact E.bk _ H2 _ μ2 ⟨S1.evo.trans S2.evo, S2.sto, S2.env.unset i⟩ q2
  · exact E.ct _ H2 _ μ2 ⟨S1.evo.trans S2.evo, S2.sto, S2.env.unset i⟩ q2
abbrev ConG := List D → Sto → (List D → Sto → Prop) → Prop
def dTupG (c : ConG) (ψ : DA) : DE := fun Ψ δ μ Φ => ψ Ψ δ μ fun xs μ1 => c xs μ1 fun es μ2 => Φ (.tup es) μ2
end
/-- what is wanted behind a statement of a generator -/
structure GDs where
  nx : List DW.D → DEnv → Sto → Prop
  rt : List DW.D → DW.D → Sto → Prop
  bk : List DW.D → DEnv → Sto → Prop
  ct : List DW.D → DEnv → Sto → Prop
abbrev DGn := XP → GDs → List DW.D → DEnv → Sto → Prop
section
variable {K : Fg} {B : Bx K}
def dGPlain (ω : DSt) : DGn := fun Ψ Δ es δ μ => ω Ψ ⟨Δ.nx es, Δ.rt es, Δ.bk es, Δ.ct es⟩ δ μ
def dGThen (ω ζ : DGn) : DGn := fun Ψ Δ es δ μ => ω Ψ ⟨fun es' δ' μ' => ζ Ψ Δ es' δ' μ', Δ.rt, Δ.bk, Δ.ct⟩ es δ μ
def dGNil : DGn := fun _ Δ es δ μ => Δ.nx es δ μ
def dYield (φ : DE) : DGn := fun Ψ Δ es δ μ => es.length ≤ 100000 ∧ φ Ψ δ μ fun x μ1 => Δ.nx (es ++ [x]) δ μ1
def dGWhile (θ : DT) (ω : DGn) : DGn := fun Ψ Δ es δ μ => ∃ W : Nat → List DW.D → DEnv → Sto → Prop, (∃ m, W m es δ μ) ∧ ∀ m es δ μ, W m es δ μ → θ Ψ δ μ fun b μ1 =>
  (b = true → ω Ψ ⟨fun es' δ' μ' => ∃ m', m' < m ∧ W m' es' δ' μ', Δ.rt, Δ.nx, fun es' δ' μ' => ∃ m', m' < m ∧ W m' es' δ' μ'⟩ es δ μ1) ∧ (b = false → Δ.nx es δ μ1)
end
theorem passN {X : Cx} : Passes (L2N.CX X.prog X.w) X E0 := fun _ _ _ _ _ _ _ h => by
  obtain ⟨_, _, _, _, _, _, _, _, _, _, _, _, z⟩ := h
  exact z.elim
/-- THE RULE for a def, whatever the air -/
theorem def_okC {CX : CXT} {P : Program} {w : World} {K : Fg} {mg : Str → Option Value} {base : Heap} {x qual : Str} {st : Stmt} {f : Addr} {fd : FuncData} {N ps : List Str} {k : Nat} {c : Con} (F : Fun K x qual st f fd) (Sc : FnScope N ps (defScope st)) (φ : DSt)
    (hl : ∀ ds μ Φ Ψ, c ds μ Φ Ψ → ds.length = ps.length)
    (hb : ∀ (cdv : Value) (A : Around) (outer : List Env) (s : Shared) (H : Hp) (E : XK) (B : Bx K), B.W = (fun cls d _ H => E cls d H) → Room k (A.deeper (PyProof.Rows.envOfC qual (defScope st) s.heap.objs.size f cdv)) →
      ∃ t, PSs (cxOf CX P w K mg base N qual (defScope st) f cdv A outer s H E) (defBody st) t ∧ SS B t φ)
    (hv : ∀ ds μ Φ Ψ, c ds μ Φ Ψ → φ (goalX Ψ) (goalE Φ) (dstart N ds) μ) : FnOk P w K mg base CX (k + 1) f fd ps (spOf K c) := by
  obtain ⟨oc, od, kV, doc, pm, an, cdv, ct, osl, rfl, lk, hcd⟩ := F.ex
  refine fn_of lk hcd Sc (fun vs H Q E h => ?_) (fun A outer s H vs Q E hr h => ?_)
  · obtain ⟨μ, ds, Φ, Ψ, _, r, hc, _⟩ := h
    rw [r.length]
    exact hl ds μ Φ Ψ hc
  · obtain ⟨μ, ds, Φ, Ψ, s0, r, hc, hq, hx⟩ := h
    let B : Bx K := ⟨H, μ, fun cls d _ H => E cls d H, goalX Ψ, fun cls dd σ H' x δ μ' S rx ⟨μ2, hs, q⟩ => hx cls dd H' x μ2 (S.evo.trans hs.evo) (hs.sto S.sto) (rx.mono hs.evo) q⟩
    obtain ⟨t, ht, hs⟩ := hb cdv A outer s H E B rfl hr
    refine ⟨t, ht, hs { nx := fun _ H' => Q .non H', rt := Q } (goalE Φ) (L2.start N vs) H (dstart N ds) μ ⟨fun σ H' δ μ' S ⟨μ2, h2, q⟩ => ?_, fun v H' d μ' σ δ S rv ⟨μ2, h2, q⟩ => ?_, fun _ _ _ _ _ z => z, fun _ _ _ _ _ z => z⟩ ⟨.refl, s0, env_start r⟩ (hv ds μ Φ Ψ hc)⟩
    · exact hq .non H' .non μ2 (S.evo.trans h2.evo) (h2.sto S.sto) (.non .nil) q
    · exact hq v H' d μ2 (S.evo.trans h2.evo) (h2.sto S.sto) (rv.mono h2.evo) q
section
variable {K : Fg} {φ : DE} {ψ : DA} {Ψ : XP} {δ : DEnv} {μ : Sto} {Φ : DK} {ω ζ : DSt} {Δ : DEnds} {ds es : List DW.D} {k : Int} {Γ : GDs} {α β : DGn} {θ : DT} {c : ConG} {cv : Value} {i : Nat} {ξ : Addr → XD → DSt}
theorem u_revT : dRevT φ Ψ δ μ Φ = φ Ψ δ μ fun x μ1 => ∃ ds, x = .tup ds ∧ Φ (.tup ds.reverse) μ1 := rfl
theorem w_repT : oRepT (.tup ds) (.int k) μ Φ = (k ≤ 1000 ∧ -1000000 ≤ k ∧ ds.length ≤ 1000 ∧ Φ (.tup (List.replicate k.toNat ds).flatten) μ) := propext ⟨fun ⟨a, b, e1, e2, q⟩ => by cases e1; cases e2; exact q, fun q => ⟨_, _, rfl, rfl, q⟩⟩
theorem u_tupG : dTupG c ψ Ψ δ μ Φ = ψ Ψ δ μ fun xs μ1 => c xs μ1 fun es μ2 => Φ (.tup es) μ2 := rfl
theorem u_try : dTryAs K cv i ω ξ Ψ Δ δ μ = ω (fun x δ' μ' => ∃ b, (match x with | .mk D _ => PySem.W.exmOne K (.ref D) cv) = some b ∧
  (b = true → ∀ a, μ' a = none → ξ a x Ψ ⟨fun δ2 μ2 => Δ.nx (δ2.set i none) μ2, Δ.rt, fun δ2 μ2 => Δ.bk (δ2.set i none) μ2, fun δ2 μ2 => Δ.ct (δ2.set i none) μ2⟩ (δ'.set i (some (.hd (.ref a)))) μ') ∧ (b = false → Ψ x δ' μ')) Δ δ μ := rfl
theorem u_gPlain : dGPlain ω Ψ Γ es δ μ = ω Ψ ⟨Γ.nx es, Γ.rt es, Γ.bk es, Γ.ct es⟩ δ μ := rfl
theorem u_gThen : dGThen α β Ψ Γ es δ μ = α Ψ ⟨fun es' δ' μ' => β Ψ Γ es' δ' μ', Γ.rt, Γ.bk, Γ.ct⟩ es δ μ := rfl
theorem u_gNil : dGNil Ψ Γ es δ μ = Γ.nx es δ μ := rfl
theorem u_yield : dYield φ Ψ Γ es δ μ = (es.length ≤ 100000 ∧ φ Ψ δ μ fun x μ1 => Γ.nx (es ++ [x]) δ μ1) := rfl
theorem u_gWhile : dGWhile θ α Ψ Γ es δ μ = ∃ W : Nat → List DW.D → DEnv → Sto → Prop, (∃ m, W m es δ μ) ∧ ∀ m es δ μ, W m es δ μ → θ Ψ δ μ fun b μ1 =>
  (b = true → α Ψ ⟨fun es' δ' μ' => ∃ m', m' < m ∧ W m' es' δ' μ', Γ.rt, Γ.nx, fun es' δ' μ' => ∃ m', m' < m ∧ W m' es' δ' μ'⟩ es δ μ1) ∧ (b = false → Γ.nx es δ μ1) := rfl
theorem u_while : dWhile θ ω Ψ Δ δ μ = ∃ W : Nat → DEnv → Sto → Prop, (∃ m, W m δ μ) ∧ ∀ m δ μ, W m δ μ → θ Ψ δ μ fun b μ1 =>
  (b = true → ω Ψ { Δ with nx := fun δ' μ' => ∃ m', m' < m ∧ W m' δ' μ', ct := fun δ' μ' => ∃ m', m' < m ∧ W m' δ' μ', bk := Δ.nx } δ μ1) ∧ (b = false → Δ.nx δ μ1) := rfl
theorem u_isX {a : Addr} {x : XD} {c : V} : cIsX K a x [.hd (.ref a), .hd c] μ Φ = ∃ b, kitD K x c = some b ∧ excOk K x ∧ Φ (.bl b) μ := propext ⟨fun ⟨c', b, e, q⟩ => by cases e; exact ⟨b, q⟩, fun ⟨b, q⟩ => ⟨c, b, rfl, q⟩⟩
theorem u_kitR {C T : Addr} : kitD K (.mk C none) (.ref T) = PySem.W.kitOne K (.ref C) (.ref T) := rfl
theorem u_kitT {C : Addr} {T : String} : kitD K (.mk C none) (.ty T) = PySem.W.kitOne K (.ref C) (.type T) := rfl
theorem u_excOk {C : Addr} : excOk K (.mk C none) = L2.ExcC K C := rfl
theorem w_zipE {P : List DW.D → List DW.D → Prop} : (∃ xs ys, D.tup ds = D.tup xs ∧ D.tup es = D.tup ys ∧ P xs ys) = P ds es := propext ⟨fun ⟨a, b, e1, e2, q⟩ => by cases e1; cases e2; exact q, fun q => ⟨_, _, rfl, rfl, q⟩⟩
theorem u_goalX {G : XD → Sto → Prop} {x : XD} : goalX G x δ μ = ∃ μ2, Sub μ2 μ ∧ G x μ2 := rfl
theorem cut_to (p : Nat) : cutD ds none (some (p : Int)) = ds.take p := by
  unfold cutD
  show (ds.drop 0).take (min (p : Int).toNat ds.length - 0) = _
  rw [List.drop_zero, Nat.sub_zero, Int.toNat_natCast]
  by_cases h : p ≤ ds.length
  · rw [Nat.min_eq_left h]
  · rw [Nat.min_eq_right (by omega), List.take_length, List.take_of_length_le (by omega)]
theorem cut_from (p : Nat) : cutD ds (some (p : Int)) none = ds.drop p := by
  unfold cutD
  show (ds.drop (min (p : Int).toNat ds.length)).take (ds.length - min (p : Int).toNat ds.length) = _
  rw [Int.toNat_natCast]
  by_cases h : p ≤ ds.length
  · rw [Nat.min_eq_left h, List.take_of_length_le (by rw [List.length_drop]; omega)]
  · rw [Nat.min_eq_right (by omega), List.drop_length, List.take_nil, List.drop_eq_nil_of_le (by omega)]
theorem cut_from1 (p : Nat) : cutD ds (some ((p : Int) + 1)) none = ds.drop (p + 1) := cut_from (p + 1)
end
end DW
set_option Elab.async false
set_option linter.all false
set_option maxRecDepth 100000
namespace LW
open PySem PySem.Spec L2 DW
def prodI (ws : List Int) : Int := ws.foldl (· * ·) 1
theorem prodI_snoc (ws : List Int) (z : Int) : prodI (ws ++ [z]) = prodI ws * z := by unfold prodI; rw [List.foldl_append]; rfl
theorem prod_snoc {ws : List Int} {i : Nat} {z : Int} (h : ws[i]? = some z) : prodI (ws.take (i + 1)) = prodI (ws.take i) * z := by
  rw [List.take_add_one, h]; exact prodI_snoc _ _
def prodR : List Int → Int
  | [] => 1
  | w :: r => prodR r * w
theorem prodI_rev : ∀ r : List Int, prodI r.reverse = prodR r
  | [] => rfl
  | w :: r => by rw [List.reverse_cons, prodI_snoc, prodI_rev r]; rfl
abbrev Pos (ws : List Int) : Prop := ∀ w ∈ ws, (0 : Int) < w
theorem Pos.rev {ws : List Int} (h : Pos ws) : Pos ws.reverse := fun w hw => h w (List.mem_reverse.mp hw)
theorem prodR_pos : ∀ {r : List Int}, Pos r → 0 < prodR r
  | [], _ => by decide
  | w :: r, h => Int.mul_pos (prodR_pos fun x hx => h x (List.mem_cons_of_mem _ hx)) (h w List.mem_cons_self)
/-- widths as they are drawn -/
structure WB (ws : List Int) : Prop where
  len : ws.length ≤ 1000
  lo : ∀ w ∈ ws, (0 : Int) ≤ w
  hi : ∀ w ∈ ws, w < 2 ^ 100
  pr : ∀ j, 0 ≤ prodI (ws.take j) ∧ prodI (ws.take j) < 2 ^ 200
end LW
set_option Elab.async false
set_option linter.all false
set_option maxRecDepth 100000
namespace LW
open PySem PySem.Spec L2 DW
/-- two lists that change: the state and one's own -/
structure Two (μ : Sto) (p st : Addr) (L c : List D) (μ' : Sto) : Prop where
  hp : μ p = none
  ne : st ≠ p
  pL : μ' p = some (.lst L)
  sc : μ' st = some (.lst c)
  ot : ∀ a, a ≠ p → a ≠ st → μ' a = μ a
theorem Two.start {μ : Sto} {p st : Addr} {L c : List D} (hp : μ p = none) (hs : μ st = some (.lst c)) : Two μ p st L c (sset μ p (.lst L)) := by
  have ne : st ≠ p := fun z => by rw [z, hp] at hs; cases hs
  exact ⟨hp, ne, sset_same, by rw [sset_ne ne]; exact hs, fun a h _ => sset_ne h⟩
theorem Two.setS {μ μ' : Sto} {p st : Addr} {L c c2 : List D} (T : Two μ p st L c μ') : Two μ p st L c2 (sset μ' st (.lst c2)) :=
  ⟨T.hp, T.ne, by rw [sset_ne (Ne.symm T.ne)]; exact T.pL, sset_same, fun a h1 h2 => by rw [sset_ne h2]; exact T.ot a h1 h2⟩
theorem Two.setP {μ μ' : Sto} {p st : Addr} {L L2 c : List D} (T : Two μ p st L c μ') : Two μ p st L2 c (sset μ' p (.lst L2)) :=
  ⟨T.hp, T.ne, sset_same, by rw [sset_ne T.ne]; exact T.sc, fun a h1 h2 => by rw [sset_ne h1]; exact T.ot a h1 h2⟩
theorem Two.sub {μ μ' : Sto} {p st : Addr} {L c : List D} (T : Two μ p st L c μ') : Sub (sset μ st (.lst c)) μ' := fun a x e => by
  by_cases h : a = st
  · subst h; rw [sset_same] at e; rw [T.sc]; exact e
  · rw [sset_ne h] at e
    have h1 : a ≠ p := fun z => by rw [z, T.hp] at e; cases e
    rw [T.ot a h1 h]; exact e
theorem Two.del {μ μ' : Sto} {p st : Addr} {L c : List D} (T : Two μ p st L c μ') : sdel μ' p = sset μ st (.lst c) := by
  funext a
  unfold sdel
  by_cases h : a = p
  · subst h; rw [if_pos rfl, sset_ne (Ne.symm T.ne), T.hp]
  · rw [if_neg h]
    by_cases h2 : a = st
    · subst h2; rw [sset_same, T.sc]
    · rw [sset_ne h2]; exact T.ot a h h2
theorem prodI_eqR (ws : List Int) : prodI ws = prodR ws.reverse := by
  have e := prodI_rev ws.reverse
  rw [List.reverse_reverse] at e
  exact e
theorem prodI_pos0 {ws : List Int} (h : Pos ws) : 0 < prodI ws := by rw [prodI_eqR]; exact prodR_pos h.rev
theorem Pos.take {ws : List Int} (h : Pos ws) (j : Nat) : Pos (ws.take j) := fun w hw => h w (List.mem_of_mem_take hw)
/-- a product of a front is no greater -/
theorem prod_take_le {ws : List Int} (h : Pos ws) : ∀ j, prodI (ws.take j) ≤ prodI ws := by
  have step : ∀ j, prodI (ws.take j) ≤ prodI (ws.take (j + 1)) := fun j => by
    cases e : ws[j]? with
    | none =>
      have hl : ws.length ≤ j := by rw [List.getElem?_eq_none_iff] at e; exact e
      rw [List.take_of_length_le hl, List.take_of_length_le (by omega)]; exact Int.le_refl _
    | some z =>
      rw [LW.prod_snoc e]
      have h1 := prodI_pos0 (h.take j)
      have h2 := h z (List.mem_of_getElem? e)
      have : prodI (ws.take j) * 1 ≤ prodI (ws.take j) * z := Int.mul_le_mul_of_nonneg_left (by omega) (by omega)
      omega
  have far : ∀ k j, prodI (ws.take j) ≤ prodI (ws.take (j + k)) := fun k => by
    induction k with
    | zero => intro j; exact Int.le_refl _
    | succ k ih => intro j; exact Int.le_trans (ih j) (step (j + k))
  intro j
  have := far ws.length j
  rw [List.take_of_length_le (by omega : ws.length ≤ j + ws.length)] at this
  exact this
theorem WB.of {ws : List Int} (hl : ws.length ≤ 1000) (hp : Pos ws) (hh : ∀ w ∈ ws, w < 2 ^ 100) (hb : prodI ws < 2 ^ 200) : WB ws :=
  ⟨hl, fun w hw => by have := hp w hw; omega, hh, fun j => ⟨by have := prodI_pos0 (hp.take j); omega, by have := prod_take_le hp j; omega⟩⟩
end LW
set_option Elab.async false
set_option linter.all false
set_option maxRecDepth 100000
set_option maxHeartbeats 4000000
namespace DW
open PySem PySem.Spec PyProof.Rows L2
section
variable {K : Fg} {B : Bx K} {te ta tb : TE} {φ φa φb : DE} {tl th : TO} {ol oh : XP → DEnv → Sto → (Option Int → Sto → Prop) → Prop}
def oCatS : DO := fun x y μ Φ => ∃ s t, x = .str s ∧ y = .str t ∧ s.length + t.length ≤ 100000 ∧ Φ (.str (s ++ t)) μ
theorem roCatS : RO K (fun x y H Q => ∃ i j, x = .str i ∧ y = .str j ∧ i.length + j.length ≤ sizeLine ∧ Q (.str (i ++ j)) H) oCatS := fun H μ v w d e Φ Q s0 r1 r2 h k => by
  obtain ⟨s, t, rfl, rfl, hz, q⟩ := h
  exact ⟨s, t, Rep.str_inv r1, Rep.str_inv r2, sz hz, k _ H _ μ .refl s0 (.str _ .nil) q⟩
def oInS (neg : Bool) : DO := fun x y μ Φ => ∃ (c : Nat) (z : Str), x = .str ⟨#[c]⟩ ∧ y = .str z ∧ Φ (.bl (if neg then !decide (c ∈ z.cps.toList) else decide (c ∈ z.cps.toList))) μ
theorem roInS : RO K (fun x y H Q => ∃ (c : Nat) (z : Str), x = .str ⟨#[c]⟩ ∧ y = .str z ∧ Q (.bl (decide (c ∈ z.cps.toList))) H) (oInS false) := fun H μ v w d e Φ Q s0 r1 r2 h k => by
  obtain ⟨c, z, rfl, rfl, q⟩ := h
  exact ⟨c, z, Rep.str_inv r1, Rep.str_inv r2, k _ H _ μ .refl s0 (.bl _ .nil) q⟩
def oIxS : DO := fun x y μ Φ => ∃ z i c, x = .str z ∧ y = .int i ∧ z.length ≤ 100000 ∧ atI z.cps.toList i = some c ∧ Φ (.str ⟨#[c]⟩) μ
theorem roIxS : RO K rIxS oIxS := fun H μ v w d e Φ Q s0 r1 r2 h k => by
  obtain ⟨z, i, c, rfl, rfl, hz, ha, q⟩ := h
  exact ⟨z, i, c, Rep.str_inv r1, Rep.int_inv r2, sz hz, ha, k _ H _ μ .refl s0 (.str _ .nil) q⟩
def dSlS (φ : DE) (ol oh : XP → DEnv → Sto → (Option Int → Sto → Prop) → Prop) : DE := fun Ψ δ μ Φ => φ Ψ δ μ fun x μ1 => ol Ψ δ μ1 fun lo μ2 => oh Ψ δ μ2 fun hi μ3 => ∃ z, x = .str z ∧ z.length ≤ 100000 ∧ Φ (.str (cutS z lo hi)) μ3
theorem sSlS (a : SE B te φ) (b : SO B tl ol) (c : SO B th oh) : SE B (tSl rSlS te tl th) (dSlS φ ol oh) := fun σ H δ μ Φ Q S q k =>
  a σ H δ μ _ _ S q fun v H1 x μ1 S1 e1 r1 q1 => b σ H1 δ μ1 _ _ S1 q1 fun lo H2 μ2 S2 e2 q2 => c σ H2 δ μ2 _ _ S2 q2 fun hi H3 μ3 S3 e3 q3 => by
    obtain ⟨z, rfl, hz, q4⟩ := q3
    exact ⟨z, Rep.str_inv r1, sz hz, k _ _ _ μ3 S3 ((e1.trans e2).trans e3) (.str _ .nil) q4⟩
/-- str(x), x a text or a number -/
def rStrA : List V → Hp → VK → Prop := fun xs H Q => (∃ i, xs = [.int i] ∧ i.natAbs.log2 < 1920 ∧ Q (.str (toString i)) H) ∨ ∃ a, xs = [.str a] ∧ Q (.str a) H
theorem call_strA {X : Cx} : CallR X (.type "str") rStrA := fun pins s σ H xs us Q I r h => by
  rcases h with h | h
  · exact call_str_int pins s σ H xs us Q I r h
  · exact SkE.call_str_str pins s σ H xs us Q I r h
def cStr : DC := fun xs μ Φ => (∃ i, xs = [.int i] ∧ i.natAbs.log2 < 1920 ∧ Φ (.str (toString i)) μ) ∨ ∃ a, xs = [.str a] ∧ Φ (.str a) μ
theorem rcStr : RC K rStrA cStr := fun H μ vs ds Φ Q s r q k => by
  rcases q with ⟨i, rfl, h1, q⟩ | ⟨a, rfl, q⟩
  · obtain ⟨v, rfl, r1⟩ := reps1 r
    obtain rfl := Rep.int_inv r1
    exact .inl ⟨i, rfl, h1, k _ H _ μ .refl s (.str _ .nil) q⟩
  · obtain ⟨v, rfl, r1⟩ := reps1 r
    obtain rfl := Rep.str_inv r1
    exact .inr ⟨a, rfl, k _ H _ μ .refl s (.str _ .nil) q⟩
/-- int(text) -/
def cIntS : DC := fun xs μ Φ => ∃ a n, xs = [.str a] ∧ PySem.intText? a = some n ∧ a.length ≤ 640 ∧ Φ (.int n) μ
theorem rcIntS : RC K (fun xs H Q => ∃ a n, xs = [.str a] ∧ PySem.intText? a = some n ∧ a.length ≤ 640 ∧ Q (.int n) H) cIntS := fun H μ vs ds Φ Q s r q k => by
  obtain ⟨a, n, rfl, h1, h2, q⟩ := q
  obtain ⟨v, rfl, r1⟩ := reps1 r
  obtain rfl := Rep.str_inv r1
  exact ⟨a, n, rfl, h1, h2, k _ H _ μ .refl s (.int _ .nil) q⟩
theorem reps_strs {μ : Sto} {H : Hp} : ∀ {vs : List V} {ys : List Str}, Reps K μ H vs (ys.map D.str) → vs = ys.map V.str
  | [], [], _ => rfl
  | [], _ :: _, r => by have := r.length; simp at this
  | _ :: _, [], r => by have := r.length; simp at this
  | v :: vs, y :: ys, r => by
    rw [List.map_cons] at r ⊢
    rw [Rep.str_inv r.split.1, reps_strs r.split.2]
/-- a.join(list of texts) -/
def dJoin (φa φb : DE) : DE := fun Ψ δ μ Φ => φa Ψ δ μ fun x μ1 => ∃ a, x = .str a ∧ φb Ψ δ μ1 fun y μ2 => ∃ ys : List Str, y = .lst (ys.map .str) ∧ (ys.map (·.length)).sum + ys.length * a.length ≤ 1000000 ∧ Φ (.str (Txt.join a ys)) μ2
theorem sJoin (a : SE B ta φa) (b : SE B tb φb) : SE B (tBM K "str" (fun x xs H Q => ∃ a p, ∃ ys : List Str, x = .str a ∧ xs = [.ref p] ∧ (SqL K H p (ys.map V.str) ∨ SqT K H p (ys.map V.str)) ∧ (ys.map (·.length)).sum + ys.length * a.length ≤ 16777216 ∧ Q (.str (Txt.join a ys)) H) ta (tCons tb tNil)) (dJoin φa φb) := fun σ H δ μ Φ Q S q k =>
  a σ H δ μ _ _ S q fun v H1 x μ1 S1 e1 r1 q1 => by
    obtain ⟨z, rfl, q2⟩ := q1
    obtain rfl := Rep.str_inv r1
    refine ⟨?_, b σ H1 δ μ1 _ _ S1 q2 fun w H2 y μ2 S2 e2 r2 q3 => ?_⟩
    · first | exact rfl | exact .inl rfl | exact ⟨z, rfl⟩ | trace_state
    · obtain ⟨ys, rfl, hz, q4⟩ := q3
      obtain ⟨p, vs, rfl, h1, h2⟩ := Rep.lst_inv r2
      have e := reps_strs h2
      subst e
      exact ⟨z, p, ys, rfl, rfl, .inl h1.sq, by omega, k _ _ _ μ2 S2 (e1.trans e2) (.str _ .nil) q4⟩
end
end DW
set_option Elab.async false
set_option linter.all false
set_option maxRecDepth 100000
set_option maxHeartbeats 4000000
namespace DW
open PySem PySem.Spec PyProof.Rows L2
theorem meets_enum1 {v : Value} {o : Obj} {H : Heap → Prop} (B : Begins v o H) :
    Meets (Builtin.«enumerate.__new__» ⟨[.type "enumerate", v], []⟩) (fun _ R s => H s.heap ∧
      R (.ok (.ret (.ref (s.heap.push o).objs.size))) { s with heap := (s.heap.push o).push { cls := .type "enumerate", data := .fields #[.none, .bool false, .ref s.heap.objs.size, rawInt 0, .none, .none] } }) :=
  .of_wp fun prog w A R s h => by
    obtain ⟨hp, g, d, tk, os⟩ := s
    obtain ⟨h1, h⟩ := h
    have hsub := sub_enumerate
    have itr : ∀ {A' : Around} {E : Value → Shared → Prop} {Q : Value → Shared → Prop}, Q (.ref hp.objs.size) ⟨hp.push o, g, d, tk, os⟩ → wpAny (model prog w) A' (pyIter v) Q E ⟨hp, g, d, tk, os⟩ :=
      fun q => B.iter prog w _ _ ⟨hp, g, d, tk, os⟩ _ h1 q
    wp_walk using itr
    refine wpAny_stack_any fun st => wpAny_pure ?_
    split
    · rename_i c _ _ _ _ _
      cases (c == Value.type "enumerate") <;> (wp_walk using itr; exact ⟨_, rfl, h⟩)
    · wp_walk using itr
      exact ⟨_, rfl, h⟩
theorem enum_one {prog : Program} {w : World} {A : Around} {E : Value → Shared → Prop} {s : Shared} {v : Value} {o : Obj} {H : Heap → Prop} {Q : Value → Shared → Prop} (B : Begins v o H) (h1 : H s.heap)
    (h : ∀ h', IsEnum h' (s.heap.objs.size + 1) s.heap.objs.size 0 .none → h'.get? s.heap.objs.size = some o → h'.objs.size = s.heap.objs.size + 2 →
      (∀ b o, s.heap.get? b = some o → h'.get? b = some o) → Q (.ref (s.heap.objs.size + 1)) { s with heap := h' }) :
    wpAny (model prog w) A (call (.type "enumerate") [v]) Q E s := by
  refine callType_new F.called_enumerate (by decide) (F.typeCall_enumerate_1 _) (F.newCall_enumerate_1 _) (fun obj => F.args_object_init_2 obj _) F.entry_enumerate_new (meets_enum1 B) ⟨h1, ?_⟩
  have hz : (s.heap.push o).objs.size = s.heap.objs.size + 1 := Heap.size_push ..
  have he := Heap.get?_push_size (s.heap.push o) (o := { cls := .type "enumerate", data := .fields #[.none, .bool false, .ref s.heap.objs.size, rawInt 0, .none, .none] }) rfl
  rw [hz] at he
  show _ ∧ _
  rw [hz]
  exact ⟨⟨_, he, rfl⟩, h _ he (Heap.get?_push_of_some _ (Heap.get?_push_size _ B.free)) (by rw [Heap.size_push, hz]) fun b o x => Heap.get?_push_of_some _ (Heap.get?_push_of_some _ x)⟩
/-- the tuple at a, counted from c -/
def IteT (K : Fg) (a : Addr) (n : Nat) (c : Int) : It :=
  ⟨fun i H => i < n ∧ ∃ (xs : List V) (x : V), SqT K H a xs ∧ xs[i]? = some x, fun i H v H' => ∃ T x, v = .ref T ∧ H T = none ∧ H' = upd H T (.tup [.int (c + (i : Nat)), x]) ∧ ∀ xs, SqT K H a xs → xs[i]? = some x, fun i H => n ≤ i ∧ ∃ xs : List V, SqT K H a xs ∧ xs.length = n⟩
theorem enum_apart {h : Heap} {e it t : Addr} {c : Int} {i : Nat} {old : Value} {items : Array Value} (he : IsEnum h e it c old) (hi : h.IsTupleIter it t i) (ht : h.IsTuple t items) : t ≠ it ∧ e ∉ [it, t] ∧ e ≠ it := by
  obtain ⟨o1, e1, c1, _⟩ := hi
  obtain ⟨o2, e2, c2, _⟩ := ht
  have n1 : t ≠ it := fun z => by subst z; rw [e1] at e2; cases e2; rw [c1] at c2; exact absurd (Value.type.inj c2) (by decide)
  have n2 : e ≠ it := fun z => by
    subst z
    have q : h.get? e = some _ := he
    rw [e1] at q; cases q; exact absurd (Value.type.inj c1) (by decide)
  have n3 : e ≠ t := fun z => by
    subst z
    have q : h.get? e = some _ := he
    rw [e2] at q; cases q; exact absurd (Value.type.inj c2) (by decide)
  exact ⟨n1, by simp [n2, n3], n2⟩
theorem turn_enumT {P : Program} {w : World} {K : Fg} {elts : List Expr} {kk : Nat} {tpos : Pos} (a e it : Addr) (n : Nat) (c : Int) :
    Turn P w K (.Tuple elts kk tpos) (IteT K a n c) [e, it] e (fun i h => i ≤ n ∧ (∃ old, IsEnum h e it (c + (i : Nat)) old) ∧ h.IsTupleIter it a i ∧ e ≠ it) where
  mem := by simp
  obj := fun i h st b hb => by
    obtain ⟨_, ⟨old, he⟩, ⟨o, ho, hc, hd⟩, _⟩ := st
    rcases (show b = e ∨ b = it by simpa using hb) with z | z
    · rw [z]; exact ⟨_, he, fun v q => nomatch q⟩
    · rw [z]; exact ⟨o, ho, fun v q => by rw [hd] at q; cases q⟩
  keep := fun i h h' st k => by
    obtain ⟨hin, ⟨old, he⟩, ⟨o, ho, r⟩, hne⟩ := st
    exact ⟨hin, ⟨old, k e (by simp) _ he⟩, ⟨o, k it (by simp) o ho, r⟩, hne⟩
  item := by
    intro X hP hw hK hc i pins s σ H E I hf st hg
    subst hP hw hK
    obtain ⟨hin, ⟨old, he⟩, hit, hne⟩ := st
    obtain ⟨hlt, xs, x, hq, hx⟩ := hg
    obtain ⟨its, rv, p, hz⟩ := I.tuple hq
    obtain ⟨u, hu, ru⟩ := rv.get hx
    have pt : s.heap.IsTuple a its.toArray := p
    obtain ⟨n1, n2, n3⟩ := enum_apart he hit pt
    have hel : e < s.heap.objs.size := Heap.lt_size he
    have hil : it < s.heap.objs.size := by obtain ⟨_, q, _⟩ := hit; exact Heap.lt_size q
    have hiu : i < its.toArray.size := by rw [List.size_toArray]; exact (List.getElem?_eq_some_iff.mp hu).1
    refine wpAny_pyNext_enum_itemC (Draws.tuple (A := X.A.in1) (I.ok.hd hc) it a n1 its.toArray) he ⟨hit, pt⟩ hiu n3 n2 fun y h' tk hP ho hst hT hsz hk => ?_
    have hy : y = u := by
      have q : its.toArray[i]? = some y := hP
      have q2 : its.toArray[i]? = some u := by simpa using hu
      rw [q2] at q; exact (Option.some.inj q).symm
    subst hy
    refine ⟨_, rfl, wpAny_letOwnedTupleGo_enum (s := { s with heap := h', toks := tk + 1 }) ho fun h'' he' sb => ?_⟩
    have hT2 := (sb.2 _ (Nat.ne_of_gt hel)).trans hT
    have new : ObjOk X.prog X.w (upd H s.heap.objs.size (.tup [.int (c + (i : Nat)), x])) h'' s.heap.objs.size (.tup [.int (c + (i : Nat)), x]) :=
      ⟨by show 2 ≤ sizeLine; decide, [.int (c + (i : Nat)) tk, y], .cons ⟨_, rfl⟩ (.cons ru .nil), ⟨_, hT2, rfl, _, rfl⟩⟩
    have I1 : Inv X pins σ (upd H s.heap.objs.size (.tup [.int (c + (i : Nat)), x])) { s with heap := h'', toks := tk + 1 } :=
      I.turnedNew (ch := [e, it]) (fun b ob hb q => (sb.2 b (fun z => hb (by simp [z]))).trans (hk b ob (fun z => hb (by simp [z])) (fun z => hb (by simp [z])) q)) hf (Nat.le_refl _) new
    refine ⟨.ref s.heap.objs.size, _, I1, rfl, ⟨_, x, rfl, I.hok.fresh (Nat.le_refl _), rfl, fun ys hy => by rw [I.tuple_inj hy hq]; exact hx⟩, ⟨hlt, ⟨y, ?_⟩, ?_, hne⟩, fun b hb => ?_⟩
    · have e1 : c + ((i + 1 : Nat) : Int) = c + ((i : Nat) : Int) + 1 := by omega
      rw [e1]; exact he'
    · obtain ⟨o, q, r⟩ := hst.1
      exact ⟨o, (sb.2 it (Ne.symm hne)).trans q, r⟩
    · have hb' : b < s.heap.objs.size := by
        rcases (show b = e ∨ b = it by simpa using hb) with z | z <;> (rw [z]; assumption)
      rw [upd_ne (Nat.ne_of_lt hb')]
      exact (hf b hb).1
  done := by
    intro X hP hw hK hc i pins s σ H E I hf st hg
    subst hP hw hK
    obtain ⟨hin, ⟨old, he⟩, hit, hne⟩ := st
    obtain ⟨hle, xs, hq, hx⟩ := hg
    obtain ⟨its, rv, p, hz⟩ := I.tuple hq
    have pt : s.heap.IsTuple a its.toArray := p
    obtain ⟨n1, n2, n3⟩ := enum_apart he hit pt
    obtain ⟨f0, f1, f2, f3, f4, f5⟩ := hf it (by simp)
    have hl := rv.length
    have hi : i = its.toArray.size := by rw [List.size_toArray]; omega
    subst hi
    exact wpAny_pyNext_enum_endD (Draws.tuple (A := X.A.in1) (I.ok.hd hc) it a n1 its.toArray) he ⟨hit, pt⟩ fun h' eb => ⟨rfl, I.turned (t' := s.toks) (fun b o hb q => eb b o hb q) f0 f1 f3 f4 f5⟩
  self := fun A i s Q E st h => let ⟨_, ⟨_, he⟩, _⟩ := st; wpAny_pyIter_enum he h
def iEnumT (K : Fg) (c : Int) (ta : TA) : TI := fun σ H R => ta σ H fun vs H1 => ∃ a xs, vs = [.ref a] ∧ SqT K H1 a xs ∧ R (IteT K a xs.length c) H1
theorem pie_enumT {X : Cx} {pins : List (Addr × Obj)} {σ : L2.St} {H1 : Hp} {s1 : Shared} {h' : Heap} {a : Addr} {xs : List V} {c : Int} {R : It → Hp → Prop} {elts : List Expr} {kk : Nat} {tpos : Pos} (I1 : Inv X pins σ H1 s1) (hq : SqT X.K H1 a xs)
    (he : IsEnum h' (s1.heap.objs.size + 1) s1.heap.objs.size c .none) (ho : h'.get? s1.heap.objs.size = some { cls := .type "tuple_iterator", data := .fields #[.ref a, .int 0 0] })
    (hk : ∀ b o, s1.heap.get? b = some o → h'.get? b = some o) (q : R (IteT X.K a xs.length c) H1) : PIE X pins σ (.Tuple elts kk tpos) R (.ref (s1.heap.objs.size + 1)) { s1 with heap := h' } := by
  refine ⟨s1.heap.objs.size + 1, [s1.heap.objs.size + 1, s1.heap.objs.size], _, _, H1, rfl, I1.kept (t' := s1.toks) hk, turn_enumT a (s1.heap.objs.size + 1) s1.heap.objs.size xs.length c, ⟨Nat.zero_le _, ⟨.none, ?_⟩, ⟨_, ho, rfl, rfl⟩, Nat.succ_ne_self _⟩, fun b hb => ?_, q⟩
  · have e : c + ((0 : Nat) : Int) = c := by omega
    rw [e]; exact he
  · have hle : s1.heap.objs.size ≤ b := by
      rcases (show b = s1.heap.objs.size + 1 ∨ b = s1.heap.objs.size by simpa using hb) with z | z
      · rw [z]; exact Nat.le_succ _
      · rw [z]; exact Nat.le_refl _
    exact I1.fpOk hle (I1.hok.fresh hle)
/-- for i, x in enumerate(t) -/
theorem pi_enumT {X : Cx} {e : Expr} {ta : TA} {p pos tpos : Pos} {elts : List Expr} {kk : Nat} (hg : Gl X "enumerate") (hm : X.mg "enumerate" = none) (ha : PA X [e] ta) (hs : starEach [e] X.env = [(false, eval e X.env)] := by rfl) :
    PI X (.Tuple elts kk tpos) (.Call (.Name "enumerate" p) [e] [] pos) (iEnumT X.K 0 ta) := by
  refine ⟨fun pins s σ H R I h => ?_⟩
  refine Call_ (ld_blt I hg hm boot_enumerate (PyProof.Rows.callWith_type1 (thn (ha.run pos pins s σ H _ I h) fun us s1 ⟨vs, H1, I1, r1, q1⟩ => ?_) hs rfl))
  obtain ⟨a, xs, rfl, hq, q⟩ := q1
  rw [Vals.ref1 r1]
  obtain ⟨its, rv, p', hz⟩ := I1.tuple hq
  exact enum_one (begins_tuple a its.toArray) p' fun h' he ho hsz hk => wpAny_pyIter_enum he (pie_enumT I1 hq he ho hk q)
def iEnD (φ : DE) (c : Int) : DI := fun Ψ δ μ Φ => φ Ψ δ μ fun x μ1 => ∃ ds, x = .tup ds ∧ Φ ((List.range ds.length).map fun (i : Nat) => .pr [.int (c + (i : Int)), ds.getD i .non]) μ1
theorem siEnumT {K : Fg} {B : Bx K} {te : TE} {φ : DE} {c : Int} (a : SE B te φ) : SI B (iEnumT K c (tCons te tNil)) (iEnD φ c) := fun σ H δ μ Φ R S q k =>
  a σ H δ μ _ _ S q fun v H1 x μ1 S1 e1 r1 q1 => by
    obtain ⟨ds, rfl, q2⟩ := q1
    obtain ⟨p, vs, rfl, h1, h2⟩ := Rep.tup_inv r1
    refine ⟨p, vs, rfl, h1.sq, k _ _ H1 μ1 S1 e1 (fun i H3 μ3 s3 e3 => ?_) q2⟩
    rw [List.length_map, List.length_range]
    have hl := h2.length
    refine ⟨fun hi => ?_, fun hi => ⟨by omega, vs, (h1.mono e3).sq, rfl⟩⟩
    have hv : i < vs.length := by omega
    refine ⟨⟨hv, vs, vs[i], (h1.mono e3).sq, List.getElem?_eq_getElem hv⟩, fun z H' hy => ?_⟩
    obtain ⟨T, u, rfl, hT, rfl, hu⟩ := hy
    obtain ⟨d, hd, rd⟩ := (h2.mono e3).getV (hu vs (h1.mono e3).sq)
    refine ⟨.pr [.int (c + (i : Int)), d], ?_, s3.new hT, .new hT, rep_tup s3 hT (.cons (.int _ .nil) (.cons rd .nil))⟩
    rw [List.getElem?_map, List.getElem?_range hi]
    show some (D.pr [D.int (c + (i : Int)), ds.getD i .non]) = _
    rw [List.getD_eq_getElem?_getD, hd]
    rfl
end DW
set_option Elab.async false
set_option linter.all false
set_option maxRecDepth 100000
set_option maxHeartbeats 4000000
namespace DW
open PySem PySem.Spec PyProof.Rows L2 NdefX PySem.W
/-- a method that may say super(): its body, at its own activation -/
theorem supfn_of {CX : CXT} {P : Program} {w : World} {K : Fg} {mg : Str → Option Value} {base : Heap} {k : Nat} {f C cc cda : Addr} {name qual : Str} {params : Arguments} {body : List Stmt} {scope : Scope} {kV doc pm ct oc cl : Value} {an od cld : Option Addr}
    {osl csl : Array (Option Value)} {N ps : List Str} {sp : Sp} (lk : K.lookup f = some ⟨oc, od, .func (ksFn name qual params body scope .none kV doc pm an (.ref cda) ct cc), osl⟩) (hcd : codeIn K (.ref cda) qual = true) (S : NScope N ps ["__class__"] scope)
    (lcc : K.lookup cc = some ⟨cl, cld, .cell (some (.ref C)), csl⟩)
    (len : ∀ vs H Q E, sp vs H Q E → vs.length = ps.length)
    (hbody : ∀ (A : Around) (outer : List Env) (s s1 : Shared) (H : Hp) (vs : List V) (Q : VK) (E : XK), Room k (A.deeper (envF ⟨name, qual, params, body, scope, [("__class__", cc)], cda⟩ f s.heap.objs.size)) → sp vs H Q E →
      Inv (ncx CX P w K mg base N ⟨name, qual, params, body, scope, [("__class__", cc)], cda⟩ f A outer s H E) [] (startF N vs [none]) H s1 →
      _root_.PySem.wpAt (model P w) (A.deeper (envF ⟨name, qual, params, body, scope, [("__class__", cc)], cda⟩ f s.heap.objs.size)) (.func body (envF ⟨name, qual, params, body, scope, [("__class__", cc)], cda⟩ f s.heap.objs.size)) (execs body (envF ⟨name, qual, params, body, scope, [("__class__", cc)], cda⟩ f s.heap.objs.size))
        (SP (ncx CX P w K mg base N ⟨name, qual, params, body, scope, [("__class__", cc)], cda⟩ f A outer s H E) [] { nx := fun _ H' => Q .non H', rt := Q }) (ncx CX P w K mg base N ⟨name, qual, params, body, scope, [("__class__", cc)], cda⟩ f A outer s H E).xe s1) :
    FnOk P w K mg base CX (k + 1) f (ksFn name qual params body scope .none kV doc pm an (.ref cda) ct cc) ps sp := by
  refine ⟨len, fun A outer s H args us vs Q E hr e0 hb r hsp => ?_⟩
  have hl := len _ _ _ _ hsp
  have KX : K.In s.heap := e0.mod.kin.keeps fun b o e => (e0.bs b o e).1
  have lim : s.heap.NoLimit := e0.mod.nolimit.keeps fun b o e => (e0.bs b o e).1
  refine ks_codeAny_call_defAt (fd := ksFn name qual params body scope .none kV doc pm an (.ref cda) ct cc) (body := body) (binds := ps.zip us) hr.depth (KX _ _ lk) rfl lim (codeRec_of KX hcd) rfl hb S.nocell (fun ⟨n, _⟩ hy => S.par n (List.of_mem_zip hy).1) (fun h₁ hns hk₁ => ?_) S.co S.gen S.kind
  have Cc : CellsAt [("__class__", cc)] ["__class__"] [none] s.heap H := by
    refine ⟨rfl, fun y c e => ?_, fun x y c e1 e2 => ?_, fun i y e => ?_⟩
    · have ec : c = cc := by
        simp only [List.lookup] at e
        split at e <;> simp_all
      subst ec
      exact ⟨(e0.bs _ _ (e0.mod.kin _ _ lcc)).2, _, _, KX _ _ lcc, rfl⟩
    · simp only [List.lookup] at e1 e2
      split at e1 <;> split at e2 <;> simp_all
    · cases i with
      | zero => cases e; exact ⟨cc, rfl, fun v z => by cases z⟩
      | succ i => cases i <;> cases e
  have I := inv_startN (CX := CX) (P := P) (w := w) (K := K) (mg := mg) (base := base) (F := ⟨name, qual, params, body, scope, [("__class__", cc)], cda⟩) (f := f) (E := E) (tk := s.toks + (ps.zip us).length) S hr.hd e0 hl r Cc hns hk₁
  refine ks_wpAt_mono (hbody A outer s _ H vs Q E (hr.deeper _) hsp I) (fun fl s' hs => ?_) fun e s' hs => hs
  have fin : ∀ {σ' : L2.St} {H' : Hp} {v : V} {u : Value}, Inv (ncx CX P w K mg base N ⟨name, qual, params, body, scope, [("__class__", cc)], cda⟩ f A outer s H E) [] σ' H' s' → L2.RelV v u → Q v H' → CE outer P w H s Q u s' :=
    fun {σ' H' v u} J rv q => ⟨v, H', J.os, J.bare, J.base, J.hok, rv, q⟩
  cases fl with
  | ret u =>
    obtain ⟨v, σ', H', J, rv, q⟩ := hs
    exact fin J rv q
  | next =>
    obtain ⟨σ', H', J, q⟩ := hs
    exact fin (v := V.non) (u := Value.none) J rfl q
  | brk =>
    obtain ⟨_, _, _, q⟩ := hs
    exact False.elim q
  | cont =>
    obtain ⟨_, _, _, q⟩ := hs
    exact False.elim q
end DW
set_option Elab.async false
set_option linter.all false
set_option maxRecDepth 100000
set_option maxHeartbeats 4000000
namespace DW
open PySem PySem.Spec PyProof.Rows L2 NdefX PySem.W
/-- the call of the bound __init__ -/
theorem mw_init {X : Cx} {pins : List (Addr × Obj)} {σ : L2.St} {H : Hp} {s : Shared} {a C u : Addr} {us : List Value} {A : Around} {E : Value → Shared → Prop} {Q : Value → Shared → Prop} (T : OexC X.K C) (I : Inv X pins σ H s) (e : H a = some (exo a C none)) (hu : s.heap.get? u = some (kxs_mw "ValueError.__init__" a)) (hl : us.length ≤ sizeLine)
    (h : ∀ s', Inv X pins σ H s' → Q .none s') : wpAny (model X.prog X.w) A (call (.ref u) us) Q E s := by
  obtain ⟨nm, q, N, bs, bm, sn, sub, ab, col, dd, k0, k1, k2, k3, k5, hC, hbm⟩ := T.cls
  obtain ⟨t1, ho⟩ := exo_at I.hok e
  have hC1 := I.kIn _ _ hC
  obtain ⟨hp, g, d, t, os⟩ := s
  have fin : ∀ h', (∀ b o, b ≠ a → hp.get? b = some o → h'.get? b = some o) → h'.get? a = some (excRec (.ref C) hp.objs.size none .none .none (.bool false)) → h'.get? hp.objs.size = some (excTup us) → Q .none ⟨h', g, d, t, os⟩ := fun h' k hx _ => by
    have J := I.write (t' := t) (x := a) (e := a) (o := exo a C none) (by rw [e]; exact True.intro) (.inl rfl) k ⟨_, hx⟩ (exo_ok hx)
    have eu : upd H a (exo a C none) = H := by
      funext b
      by_cases hb : b = a
      · rw [hb, upd_same, e]
      · rw [upd_ne hb]
    rw [eu] at J
    exact h _ J
  refine wpAny_call (codeAny_of_tree ?_)
  show wpAny _ A.in1 (callAny (.ref u) ⟨us, []⟩) _ _ _
  simp only [callAny]
  refine wpAny_bind (wpAny_load hu ?_)
  simp only [kxs_mw, show (Value.type "method-wrapper" == Value.type "method" || Value.type "method-wrapper" == Value.type "builtin_function_or_method" || Value.type "method-wrapper" == Value.type "method-wrapper") = true by decide, if_true]
  refine KFB.if_so (by decide) ?_
  refine wpAny_bind (check_bound_init PySem.F.excBase_ValueError.toExcCallFacts hC1 ho rfl ?_)
  refine wpAny_bind (wpAny_pure (wpAny_pure ?_))
  refine ⟨plainId_quiet PySem.F.excBase_ValueError.init.plain _, codeAny_builtin PySem.F.excBase_ValueError.initEntry ?_⟩
  exact exc_init_tree (cls := .ref C) (t0 := t1) (dv := none) (c2 := .none) (c3 := .none) (b4 := .bool false) ho hl fin
/-- what the written part says of a class whose __init__ says super().__init__(..) -/
structure SupC (K : Fg) (C D cc f cda : Addr) (file : Str) : Prop where
  ox : OexC K C
  cell : ∃ cl cld csl, K.lookup cc = some ⟨cl, cld, .cell (some (.ref D)), csl⟩
  own : isClsIn K D = true
  sub : mroIn K C (.ref D) = some true
  ve : subIn K (.ref C) (.type "ValueError") = some true
  opq : nsIn K cStatics "thirdparty.any" = some none
  sup : ks_superIn K C D "__init__" = some (some (.builtin "ValueError.__init__"))
  code : ∃ ccl cdd vs ccs tf, K.lookup cda = some ⟨ccl, cdd, .fields vs, ccs⟩ ∧ vs[2]? = some (.str file tf)
theorem super_line {X : Cx} {qual : Str} {scope : Scope} {L f cda cc a C D : Addr} {file : Str} {fd : FuncData} {oc : Value} {od : Option Addr} {osl : Array (Option Value)} {body : List Stmt} {p0 p1 p2 p3 p4 : Pos} {e1 : Expr} {te : TE} {σ : L2.St} {H : Hp} {s : Shared} {G : Shared → Prop} {ar : Arg}
    (hX : X.env = ksEnv qual scope L f (.ref cda) cc) (T : SupC X.K C D cc f cda file) (hf : X.K.lookup f = some ⟨oc, od, .func fd, osl⟩) (hp : (fd.params.posonlyargs ++ fd.params.args).head? = some ar)
    (hfile : ((X.prog.main.file : Str) == file) = true) (htop : (X.prog.main.scope.names.lookup ("super" : Str)).isSome = false) (hms : X.mg "super" = none)
    (hks : scope.names.lookup ("super" : Str) = some .globalImplicit) (hkc : scope.names.lookup ("__class__" : Str) = some .free) (hka : scope.names.lookup ar.arg = some .local)
    (I : Inv X [] σ H s) (hN : X.N[0]? = some ar.arg) (h0 : σ[0]? = some (some (.ref a))) (ea : H a = some (exo a C none)) (he : PE X e1 te)
    (hst : starEach [e1] X.env = (false, eval e1 X.env) :: starEach [] X.env) (hpl : (backTo p3 (starEach [] X.env)).any (·.1) = false)
    (hi : interactive X.env = false) (hsw : swapsWith (.Call (.Attribute (.Call (.Name "super" p0) [] [] p1) "__init__" p2) [e1] [] p3) none p4.line X.env = pure false)
    (hev : ∃ pl, eval (.Call (.Attribute (.Call (.Name "super" p0) [] [] p1) "__init__" p2) [e1] [] p3) X.env = (do
      let ov ← attributeBase (.Call (.Name "super" p0) [] [] p1) "__init__" X.env (eval (.Call (.Name "super" p0) [] [] p1) X.env)
      standAt p2.atName
      let (f, first) ← holding [ov] (getMethod ov "__init__" pl)
      callWith p3 f first (backTo p3 (starEach [e1] X.env)) []))
    (h : te σ H fun x H1 => H1 a = some (exo a C none) ∧ ∀ s', Inv X [] σ H1 s' → G s') :
    _root_.PySem.wpAt (model X.prog X.w) X.A (.func body X.env) (exec (.Expr (.Call (.Attribute (.Call (.Name "super" p0) [] [] p1) "__init__" p2) [e1] [] p3) p4) X.env) (fun fl s' => fl = .next ∧ G s') X.xe s := by
  obtain ⟨pl, hev⟩ := hev
  obtain ⟨cl, cld, csl, hcell⟩ := T.cell
  obtain ⟨ccl, cdd, vs, ccs, tf, hcode, hvs⟩ := T.code
  have KX := I.kIn
  refine ks_wpAt_Expr_any (ks_wpAt_MethodCall ?_ hev) hi hsw
  obtain ⟨nm, q, N, bs, bm, sn, sub, ab, col, dd, k0, k1, k2, k3, k5, hC, hbm⟩ := T.ox.cls
  obtain ⟨t1, ho⟩ := exo_at I.hok ea
  obtain ⟨m, hns, hlk⟩ := I.loc
  have hkind := I.ok.kind
  have ksX : X.env.kindOf "super" = some .globalImplicit := by rw [hX]; exact hks
  have kcX : X.env.kindOf "__class__" = some .free := by rw [hX]; exact hkc
  have kaX : X.env.kindOf ar.arg = some .local := by rw [hX]; exact hka
  have ccX : X.env.cells.lookup (("__class__" : Str)) = some cc := by rw [hX]; rfl
  obtain ⟨u0, ru0, lk0⟩ := hlk 0 ar.arg (.ref a) hN h0 (.inl kaX)
  obtain rfl : u0 = Value.ref a := ru0
  have hma : m ar.arg = some (.ref a) := by
    rcases lk0 with ⟨_, q⟩ | ⟨q, _⟩
    · exact q
    · rw [kaX] at q; rcases q with q | q <;> cases q
  obtain ⟨cdD, hcdD⟩ := Option.isSome_iff_exists.mp (show (clsIn X.K D).isSome = true from T.own)
  obtain ⟨oD, hD1, hD2⟩ : ∃ oD, s.heap.get? D = some oD ∧ oD.data = .cls cdD := by
    unfold clsIn at hcdD
    split at hcdD
    · rename_i c d cd' sl ho'
      cases hcdD
      exact ⟨_, KX _ _ ho', rfl⟩
    · cases hcdD
  obtain ⟨cdC, hcdC⟩ : ∃ cd, clsIn X.K C = some cd := by
    have q := T.sub
    unfold mroIn at q
    cases z : clsIn X.K C with
    | none => rw [z] at q; cases q
    | some cd => exact ⟨cd, rfl⟩
  have hsup : alongIn X.K "__init__" ((cdC.mro.dropWhile (· != .ref D)).drop 1) = some (some (.builtin "ValueError.__init__")) := by
    have q := T.sup
    unfold ks_superIn at q
    rw [hcdC] at q
    exact q
  have haC : a ≠ C := fun z => by
    have q := KX _ _ hC
    rw [← z, ho] at q
    cases q
  obtain ⟨mb, hb1, hb2⟩ := I.mod.blt
  obtain ⟨hh, g, d, t, os⟩ := s
  refine ks_wpAt_super_base (f := f) (fd := fd) (ar := ar) ksX kcX (by decide) (by rw [hX]) (KX _ _ hf) rfl hp (by rw [hX]) (KX _ _ hcode) rfl hvs hfile htop ?_
  refine ks_loadName_global hkind ksX (Calls.loadGlobal_builtin (by rw [I.ok.glob]; exact I.mod.glob.keeps I.bk) hms (by rw [I.ok.blt]; exact hb1.keeps I.bk) ((hb2 _ (by decide)).trans (by first | boot_by_name | rfl | kernel_rfl)) ⟨rfl, ?_⟩)
  refine wpAny_loadName_free hkind kcX ccX ⟨_, KX _ _ hcell, rfl⟩ ?_
  refine wpAny_loadName_local hkind kaX hns hma ?_
  refine ks_wpAny_isType_cls hD1 hD2 ⟨rfl, ?_⟩
  refine ks_wpAny_call_super hD1 hD2 ho rfl (fun c z => by cases z) (looks_mroIn KX T.sub) (fun h' e k => ?_)
  have KX' : X.K.In h' := KX.keeps k
  have ho' := k _ _ ho
  have LT : Looks (model X.prog X.w) h' (typeOf (.ref a)) (.ref C) := fun A Q E s k q => wpAny_typeOf_ref (k _ _ ho') q
  refine kxs_getMethod kxs_ValueError e (looks_opaque KX' T.opq) (l₀ := cdC.mro) (fun A Q E s k q => wpAny_bind ((looks_clsIn KX' hcdC) A _ E s k (wpAny_pure q))) rfl KX' hsup (LT.andThen (looks_subIn KX' T.ve)) haC (by decide) ?_
  -- the arguments
  have k2 : ∀ b o, hh.get? b = some o → (h'.push (kxs_mw "ValueError.__init__" a)).get? b = some o := fun b o q => Heap.get?_push_of_some _ (k b o q)
  have I2 : Inv X [] σ H ⟨h'.push (kxs_mw "ValueError.__init__" a), g, d, t + 1, os⟩ := I.kept (t' := t + 1) k2
  have hge : hh.objs.size ≤ h'.objs.size := by
    by_cases z : hh.objs.size = 0
    · omega
    · have hl : hh.objs.size - 1 < hh.objs.size := by omega
      exact Nat.le_of_lt (Heap.lt_size e)
  have I3 : Inv X [(h'.objs.size, kxs_mw "ValueError.__init__" a)] σ H ⟨h'.push (kxs_mw "ValueError.__init__" a), g, d, t + 1, os⟩ := I2.pins_of fun p hp => by
    rw [List.mem_singleton.mp hp]
    refine ⟨Heap.get?_push_size _ rfl, I.hok.fresh hge, ?_, I.nofs hge, fun v z => by cases z⟩
    have := hns.lt
    exact Nat.ne_of_gt (Nat.lt_of_lt_of_le this hge)
  rw [hst]
  refine kxs_callWith (i := "ValueError.__init__") (x := a) (by show (false || (backTo p3 (starEach [] X.env)).any (·.1)) = false; rw [hpl]; rfl) (Calls.evalArgs_plain ?_)
  refine Calls.spliced_cons (thn (he.run _ _ σ H _ I3 h) fun u1 s1 ⟨x1, H1, J1, rx1, ea1, q1⟩ => ?_)
  refine Calls.spliced_nil ?_
  have hu := (J1.pin (h'.objs.size, kxs_mw "ValueError.__init__" a) (List.mem_append_right _ List.mem_cons_self)).1
  refine ⟨hu, mw_init T.ox J1 ea1 hu (by show 1 ≤ sizeLine; decide) fun s' J => ⟨rfl, q1 s' (J.pins_of fun p hp => absurd hp (by simp))⟩⟩
end DW
set_option Elab.async false
set_option linter.all false
set_option maxRecDepth 100000
set_option maxHeartbeats 4000000
namespace DW
open PySem PySem.Spec PyProof.Rows L2 NdefX PySem.W
/-- what __init__(self, f) keeps: self, an error in the making, gets its one field -/
def spInit (K : Fg) (C : Addr) (fld : Str) (okv : V → Hp → Prop) : Sp := fun vs H Q _ => ∃ a v, vs = [.ref a, v] ∧ okv v H ∧ OexC K C ∧ findIn K (.ref C) fld = some none ∧ H a = some (exo a C none) ∧
  ∀ d, H d = none → d ≠ a → Q .non (upd (upd H d (exd d [(fld, v)])) a (exo a C (some d)))
/-- __init__(self, f): super().__init__(text); self.f = f -/
theorem sup_fn {CX : CXT} {P : Program} {w : World} {K : Fg} {mg : Str → Option Value} {base : Heap} {k : Nat} {f C D cc cda : Addr} {name qual fld file : Str} {params : Arguments} {scope : Scope} {kV doc pm ct oc : Value} {an od : Option Addr} {osl : Array (Option Value)} {N : List Str} {okv : V → Hp → Prop}
    {p0 p1 p2 p3 p4 q1 q2 q3 q4 : Pos} {e1 : Expr} {ar : Arg}
    (lk : K.lookup f = some ⟨oc, od, .func (ksFn name qual params [.Expr (.Call (.Attribute (.Call (.Name "super" p0) [] [] p1) "__init__" p2) [e1] [] p3) p4, .Assign [.Attribute (.Name "self" q1) fld q2] (.Name fld q3) q4] scope .none kV doc pm an (.ref cda) ct cc), osl⟩)
    (hcd : codeIn K (.ref cda) qual = true) (S : NScope N ["self", fld] ["__class__"] scope) (T : SupC K C D cc f cda file) (hp : (params.posonlyargs ++ params.args).head? = some ar) (har : ar.arg = "self")
    (hfile : ((P.main.file : Str) == file) = true) (htop : (P.main.scope.names.lookup ("super" : Str)).isSome = false) (hms : mg "super" = none) (hks : scope.names.lookup ("super" : Str) = some .globalImplicit)
    (hdb : (fld == ("__debug__" : Str)) = false)
    (hX : ∀ (X : Cx), X.prog = P → X.w = w → X.K = K → X.N = N → X.env.scope = scope → (∃ L, X.env = ksEnv qual scope L f (.ref cda) cc) → Room k X.A →
      (∃ te, PE X e1 te ∧ ∀ (σ : L2.St) (H : Hp) (v : V), σ[1]? = some (some v) → okv v H → ∀ Q : VK, (∀ x, Q x H) → te σ H Q) ∧
      starEach [e1] X.env = (false, eval e1 X.env) :: starEach [] X.env ∧ (backTo p3 (starEach [] X.env)).any (·.1) = false ∧ interactive X.env = false ∧
      swapsWith (.Call (.Attribute (.Call (.Name "super" p0) [] [] p1) "__init__" p2) [e1] [] p3) none p4.line X.env = pure false ∧
      (∃ pl, eval (.Call (.Attribute (.Call (.Name "super" p0) [] [] p1) "__init__" p2) [e1] [] p3) X.env = (do
        let ov ← attributeBase (.Call (.Name "super" p0) [] [] p1) "__init__" X.env (eval (.Call (.Name "super" p0) [] [] p1) X.env)
        standAt p2.atName
        let (f, first) ← holding [ov] (getMethod ov "__init__" pl)
        callWith p3 f first (backTo p3 (starEach [e1] X.env)) [])) ∧
      swapsWith (.Name fld q3) (some (.Attribute (.Name "self" q1) fld q2)) q4.line X.env = pure false ∧ PE X (.Name "self" q1) (tVar 0) ∧ PE X (.Name fld q3) (tVar 1)) :
    FnOk P w K mg base CX (k + 1) f (ksFn name qual params [.Expr (.Call (.Attribute (.Call (.Name "super" p0) [] [] p1) "__init__" p2) [e1] [] p3) p4, .Assign [.Attribute (.Name "self" q1) fld q2] (.Name fld q3) q4] scope .none kV doc pm an (.ref cda) ct cc) ["self", fld] (spInit K C fld okv) := by
  obtain ⟨cl, cld, csl, lcc⟩ := T.cell
  obtain ⟨_, hC2⟩ : True ∧ True := ⟨trivial, trivial⟩
  refine supfn_of lk hcd S lcc (fun vs H Q E h => ?_) (fun A outer s s1 H vs Q E hr h I => ?_)
  · obtain ⟨a, v, rfl, _⟩ := h; rfl
  obtain ⟨a, v, rfl, hok, hox, hno, ea, hq⟩ := h
  have hlen : N.take 3 = (["self", fld, "__class__"] : List Str) := S.pre
  have hn0 : N[0]? = some ("self" : Str) := by
    have q := congrArg (fun l : List Str => l[0]?) hlen
    rw [List.getElem?_take_of_lt (by decide)] at q
    exact q
  have hl3 : 3 ≤ N.length := by have := congrArg List.length hlen; rw [List.length_take] at this; simp at this; omega
  obtain ⟨⟨te, hte, hmsg⟩, f1, f2, f3, f4, f5, f6, f7, f8⟩ := hX (ncx CX P w K mg base N ⟨name, qual, params, [.Expr (.Call (.Attribute (.Call (.Name "super" p0) [] [] p1) "__init__" p2) [e1] [] p3) p4, .Assign [.Attribute (.Name "self" q1) fld q2] (.Name fld q3) q4], scope, [("__class__", cc)], cda⟩ f A outer s H E) rfl rfl rfl rfl rfl ⟨_, rfl⟩ hr
  have s0 : (startF N [.ref a, v] [none])[0]? = some (some (.ref a)) := rfl
  have s1' : (startF N [.ref a, v] [none])[1]? = some (some v) := rfl
  refine ks_wpAt_execs_cons (ks_wpAt_mono (super_line (X := ncx CX P w K mg base N ⟨name, qual, params, [.Expr (.Call (.Attribute (.Call (.Name "super" p0) [] [] p1) "__init__" p2) [e1] [] p3) p4, .Assign [.Attribute (.Name "self" q1) fld q2] (.Name fld q3) q4], scope, [("__class__", cc)], cda⟩ f A outer s H E) (L := s.heap.objs.size) (σ := startF N [.ref a, v] [none]) (H := H) rfl T lk hp hfile htop hms hks (S.frk _ List.mem_cons_self) (by rw [har]; exact S.par _ List.mem_cons_self) I (by rw [har]; exact hn0) s0 ea hte f1 f2 f3 f4 f5
    (G := fun s' => Inv (ncx CX P w K mg base N ⟨name, qual, params, [.Expr (.Call (.Attribute (.Call (.Name "super" p0) [] [] p1) "__init__" p2) [e1] [] p3) p4, .Assign [.Attribute (.Name "self" q1) fld q2] (.Name fld q3) q4], scope, [("__class__", cc)], cda⟩ f A outer s H E) [] (startF N [.ref a, v] [none]) H s') ?_) (fun fl s' hs => ?_) fun _ _ z => z)
  · exact hmsg _ H v s1' hok _ fun x => ⟨ea, fun s' J => J⟩
  · obtain ⟨rfl, J⟩ := hs
    refine PySem.wpAt_of_wpAny ?_
    refine (pss_one (ps_ost f7 f8 f6)).run [] s' _ H _ J ?_
    refine ⟨v, s1', .ref a, s0, a, C, rfl, hox, hno, .inl ⟨ea, fun dx hd hne => ?_⟩⟩
    exact hq dx hd hne
/-- C(e): an own error made, its context None -/
theorem pmk_sup {CX : CXT} {X : Cx} {x fld : Str} {C fI : Addr} {k : Nat} {fd : FuncData} {ps : List Str} {okv : V → Hp → Prop} {e : Expr} {ta : TA} {p pos : Pos} (T : OexC X.K C) (iC : findIn X.K (.ref C) "__init__" = some (some (.ref fI))) (tI : typeIn X.K (.ref fI) = some (.type "function")) (hno : findIn X.K (.ref C) fld = some none)
    (F1 : FnOk X.prog X.w X.K X.mg X.base CX k fI fd ps (spInit X.K C fld okv)) (hr : Room (k + 1) X.A) (hb : Binds X.K fd ps []) (hx : Passes CX X (fun _ _ _ => False)) (hg : Gl X x) (hm : X.mg x = some (.ref C)) (ha : PA X [e] ta)
    (hdb : (x == ("__debug__" : Str)) = false := by decide) (hst : starEach [e] X.env = (false, eval e X.env) :: starEach [] X.env := by rfl) (hpl : (backTo pos (starEach [] X.env)).any (·.1) = false := by rfl) :
    L2N.PMk X (.Call (.Name x p) [e] [] pos) (fun σ H Q => ta σ H fun vs H1 => ∃ v, vs = [v] ∧ (∀ a, H1 a = none → okv v (upd H1 a (exo a C none))) ∧ ∀ d, H1 d = none → Q (.ref C) (some d) (upd H1 d (.xd [(fld, v)]))) := by
  intro pins s σ H Q I h
  obtain ⟨nm, q, N, bs, bm, sn, sub, ab, col, dd, k0, k1, k2, k3, k5, hC, hbm⟩ := T.cls
  refine wpAny_Call_Name_kw (ld_glob I hg hm ?_ hdb)
  refine callWith_K (h₀ := X.base) I.ok.mod.kin T.kC (thn (ha.run pos pins s σ H _ I h) fun us s1 ⟨vs, H1, I1, r1, v, ev, hok, q1⟩ => ⟨I1.kIn, ?_⟩) hst hpl
  subst ev
  obtain ⟨u1, rfl, rv1⟩ := vals1 r1
  obtain ⟨hp, g, dr, tk, os⟩ := s1
  have hsz : hp.objs.size ≤ hp.objs.size + 1 := Nat.le_succ _
  have hn : H1 (hp.objs.size + 1) = none := I1.hok.fresh hsz
  have kk : ∀ b o, hp.get? b = some o → ((hp.push (kdv_tup [u1])).push (PySem.HandSPX.excO C hp.objs.size)).get? b = some o := fun b o z => Heap.get?_push_of_some _ (Heap.get?_push_of_some _ z)
  have hget : ((hp.push (kdv_tup [u1])).push (PySem.HandSPX.excO C hp.objs.size)).get? (hp.objs.size + 1) = some (PySem.HandSPX.excO C hp.objs.size) := by heap_get
  have I2 : Inv X pins σ (upd H1 (hp.objs.size + 1) (exo (hp.objs.size + 1) C none)) ⟨(hp.push (kdv_tup [u1])).push (PySem.HandSPX.excO C hp.objs.size), g, dr, tk, os⟩ := I1.laid (t' := tk) kk hsz (exo_ok hget)
  have hsp : spInit X.K C fld okv [.ref (hp.objs.size + 1), v] (upd H1 (hp.objs.size + 1) (exo (hp.objs.size + 1) C none)) (fun v' H2 => v' = .non ∧ ∃ d, H2 (hp.objs.size + 1) = some (exo (hp.objs.size + 1) C (some d)) ∧ H2 d = some (exd d [(fld, v)]) ∧ H1 d = none ∧ Q (.ref C) (some d) (upd (L2.del H2 (hp.objs.size + 1)) d (.xd [(fld, v)]))) (fun _ _ _ => False) := by
    refine ⟨_, v, rfl, hok _ hn, T, hno, upd_same, fun d hd hne => ⟨rfl, d, upd_same, ?_, ?_, ?_⟩⟩
    · rw [upd_ne hne, upd_same]
    · rw [upd_ne hne] at hd; exact hd
    · have hd1 : H1 d = none := by rw [upd_ne hne] at hd; exact hd
      have e2 : upd (L2.del (upd (upd (upd H1 (hp.objs.size + 1) (exo (hp.objs.size + 1) C none)) d (exd d [(fld, v)])) (hp.objs.size + 1) (exo (hp.objs.size + 1) C (some d))) (hp.objs.size + 1)) d (.xd [(fld, v)]) = upd H1 d (.xd [(fld, v)]) := by
        funext b
        by_cases h1 : b = d
        · rw [h1, upd_same, upd_same]
        · rw [upd_ne h1, upd_ne h1]
          by_cases h2 : b = hp.objs.size + 1
          · rw [h2, L2.del_same, hn]
          · rw [L2.del_ne h2, upd_ne h2, upd_ne h1, upd_ne h2]
      rw [e2]
      exact q1 d hd1
  have r2 : Vals [V.ref (hp.objs.size + 1), v] [Value.ref (hp.objs.size + 1), u1] := .cons rfl (.cons rv1 .nil)
  have hl : [Value.ref (hp.objs.size + 1), u1].length = ps.length := F1.len _ _ _ _ hsp
  show wpAny _ _ (call (.ref C) [u1]) _ _ _
  refine wpAny_call (PySem.HandSPX.call_own PySem.F.excBase_ValueError (fun Y => PySem.HandSPX.refsVE_contains Y bm hbm) (I1.kIn _ _ hC) (looks_findIn I1.kIn iC) (fun self => bind_fn I1.kIn self tI) (by show 1 ≤ sizeLine; decide)
    (codeAny_mono (F1.run _ X.stack _ _ ⟨[Value.ref (hp.objs.size + 1), u1], []⟩ [Value.ref (hp.objs.size + 1), u1] _ _ (fun _ _ _ => False) (hr.make C [u1] []) (I2.env0.make C [u1] []) (by have := hb _ [Value.ref (hp.objs.size + 1), u1] I2.kIn (by simpa using hl); simpa using this) r2 hsp) fun r s' hq' => ?_))
  cases r with
  | error er => exact hx pins σ _ _ er s' I2 hq'
  | ok fl =>
    cases fl with
    | ret u =>
      obtain ⟨v', H2, os2, bare2, un2, hok2, rv, ev, d, ea, ed, hd1, q2⟩ := hq'
      subst ev
      obtain ⟨h2, g2, d2, t2, os'⟩ := s'
      obtain ⟨t0, G, J, kG, ge, hoe, na⟩ := mk_end0 (d2 := d2) (t2 := t2) I1 hsz kk un2 hok2 os2 bare2 ea ed hd1
      exact ⟨rv, _, _, _, ⟨G, g2, d2, t2, os'⟩, _, .ref C, some d, rfl, J, kG, ge, hoe, ⟨rfl, rfl, fun vs z => by cases z; rfl⟩, rfl, rfl, na, rfl, bare2, raises_own T.exC T.tyC, q2⟩
    | next => exact False.elim hq'
    | brk => exact False.elim hq'
    | cont => exact False.elim hq'
end DW
set_option Elab.async false
set_option linter.all false
set_option maxRecDepth 100000
set_option maxHeartbeats 4000000
namespace DW
open PySem PySem.Spec PyProof.Rows L2
section
variable {K : Fg} {B : Bx K}
def dRaise1 (C : Addr) (fld : Str) (okd : D → Prop) (φ : DE) : DSt := fun Ψ _ δ μ => φ Ψ δ μ fun x μ1 => okd x ∧ Ψ (.mk C (some ([fld], [x]))) δ μ1
theorem sRaise1 {W : WX} {C : Addr} {fld : Str} {okd : D → Prop} {okv : V → Hp → Prop} {te : TE} {φ : DE} (hW : B.W = W) (hok : ∀ (μ : Sto) (H : Hp) (v : V) (d : D), Rep K μ H v d → okd d → okv v H) (a : SE B te φ) :
    SS B (fun _ σ H => (fun (σ : L2.St) (H : Hp) (Q : XK) => tCons te tNil σ H fun vs H1 => ∃ v, vs = [v] ∧ (∀ a, H1 a = none → okv v (upd H1 a (exo a C none))) ∧ ∀ d, H1 d = none → Q (.ref C) (some d) (upd H1 d (.xd [(fld, v)]))) σ H fun cls d H' => W cls d σ H') (dRaise1 C fld okd φ) := fun D Δ σ H δ μ E S q => by
  subst hW
  refine a σ H δ μ _ _ S q fun v H1 x μ1 S1 e1 r1 q1 => ?_
  obtain ⟨q2, q3⟩ := q1
  refine ⟨v, rfl, fun b hb => hok μ1 _ v x (r1.mono (.new hb)) q2, fun d hd => ?_⟩
  have ev : Evo μ1 H1 μ1 (upd H1 d (.xd [(fld, v)])) := .new hd
  exact B.hW _ _ σ _ (.mk C (some ([fld], [x]))) δ μ1 (S1.step ev (S1.sto.new hd)) ⟨rfl, d, [v], rfl, upd_same, .new S1.sto hd, rfl, r1.mono ev⟩ q3
/-- n.f, n the error that a suite holds -/
def dXf (a : Addr) (x : XD) (C : Addr) (f : Str) (φ : DE) : DE := fun Ψ δ μ Φ => φ Ψ δ μ fun y μ1 => y = .hd (.ref a) ∧ ∃ (ns : List Str) (ds : List DW.D) (i : Nat) (d : DW.D), x = .mk C (some (ns, ds)) ∧ ns[i]? = some f ∧ ns.Nodup ∧ ds[i]? = some d ∧ Φ d μ1
theorem zip_lookup : ∀ {ns : List Str} {us : List V} {i : Nat} {f : Str} {v : V}, ns.Nodup → ns[i]? = some f → us[i]? = some v → (ns.zip us).lookup f = some v
  | [], us, i, f, v, _, h, _ => by cases h
  | n :: ns, [], i, f, v, _, _, h => by cases h
  | n :: ns, u :: us, 0, f, v, _, h1, h2 => by
    have e1 := Option.some.inj h1
    have e2 := Option.some.inj h2
    subst e1 e2
    simp [List.lookup]
  | n :: ns, u :: us, i + 1, f, v, hn, h1, h2 => by
    have hne : ¬ (f = n) := fun z => by
      have : f ∈ ns := List.mem_of_getElem? h1
      rw [z] at this
      exact (List.nodup_cons.mp hn).1 this
    have hb : (f == n) = false := by simp [hne]
    show (match f == n with | true => some u | false => (ns.zip us).lookup f) = some v
    rw [hb]
    exact zip_lookup (List.nodup_cons.mp hn).2 h1 h2
theorem sXf {a C : Addr} {cls : Value} {dd : Option Addr} {x : XD} {f : Str} {te : TE} {φ : DE} (rx : RepX K B.μ0 B.H0 cls dd x) (s : SE B te φ) : SE B (tXf a cls dd C f te) (dXf a x C f φ) := fun σ H δ μ Φ Q S q k =>
  s σ H δ μ _ _ S q fun v H1 y μ1 S1 e1 r1 q1 => by
    obtain ⟨rfl, ns, ds, i, d, rfl, h1, h2, h3, q2⟩ := q1
    obtain rfl := Rep.hd_inv r1
    obtain ⟨rfl, p, us, rfl, hp, hnm, hl, hr⟩ := rx
    have hp1 := (S1.evo.st _ _ hp hnm)
    obtain ⟨u, hu, ru⟩ := (hr.mono S1.evo).get h3
    exact ⟨rfl, rfl, p, _, u, rfl, hp1.1, zip_lookup h2 h1 hu, k u H1 d μ1 S1 e1 ru q2⟩
def rIsH (K : Fg) (cls : Value) (dd : Option Addr) (a : Addr) : List V → Hp → VK → Prop := fun xs H Q => ∃ C, cls = .ref C ∧ L2.ExcC K C ∧ (dd = none ∨ ∃ p fs, dd = some p ∧ H p = some (.xd fs)) ∧
  ∃ (c : V) (cv : Value) (b : Bool), xs = [.ref a, c] ∧ (∀ u, RelV c u → u = cv) ∧ PySem.W.kitOne K (.ref C) cv = some b ∧ Q (.bl b) H
theorem call_isH {X : Cx} {a : Addr} {cls : Value} {dd : Option Addr} {oe : Obj} {pn : List (Addr × Obj)} (hz : L2N.Zn cls dd oe) (hf : ∃ vs, oe.data = .fields vs) : CallR (X.suite a ((a, oe) :: pn)) (.builtin "isinstance") (rIsH X.K cls dd a) := by
  intro pins s σ H xs us Q I r h
  obtain ⟨C, rfl, hC, hdd, c, cv, b, rfl, hcv, e, q⟩ := h
  obtain ⟨hget, _⟩ := I.pin (a, oe) (List.mem_append.mpr (.inl List.mem_cons_self))
  obtain ⟨vs, hv⟩ := hf
  obtain ⟨u1, u2, rfl, r1, r2⟩ := vals2 r
  obtain rfl : u1 = Value.ref a := r1
  have ec := hcv _ r2
  subst ec
  obtain ⟨od, J⟩ : ∃ od, PySem.W.InstAt s.heap a oe C od := by
    obtain ⟨oc, od, oda, osl⟩ := oe
    obtain ⟨h1, h2, _⟩ := hz
    dsimp only at h1 h2 hv
    subst h1 hv
    rcases hdd with z | ⟨p, fs, z, hp⟩
    · subst z; subst h2; exact ⟨none, hget, rfl, rfl, trivial⟩
    · subst z; subst h2
      obtain ⟨mA, ⟨o, es, ep, ho, _⟩, _⟩ := (I.hok p _ hp)
      exact ⟨some o, hget, rfl, rfl, ho⟩
  have hcl : (PySem.W.clsIn X.K C).isSome = true := by
    obtain ⟨cd, q, _⟩ := PySem.W.any_some hC.hd
    rw [q]; rfl
  exact PySem.W.kia_one (PySem.W.kitx_exc hcl hC.hg hC.hk hC.hs hC.ha hC.hn hC.ht hC.hm) I.kIn J e (fun z => nomatch z) fun tk => ⟨.bl b, H, I.kept (t' := tk) fun _ _ z => z, rfl, q⟩
def kitE (K : Fg) : XD → V → Option Bool
  | .mk C _, .ref T => PySem.W.kitOne K (.ref C) (.ref T)
  | .mk C _, .ty T => PySem.W.kitOne K (.ref C) (.type T)
  | _, _ => none
def excE (K : Fg) : XD → Prop
  | .mk C _ => L2.ExcC K C
def dIsE (K : Fg) (a : Addr) (x : XD) (ψ : DA) : DE := fun Ψ δ μ Φ => ψ Ψ δ μ fun xs μ1 => ∃ c b, xs = [.hd (.ref a), .hd c] ∧ kitE K x c = some b ∧ excE K x ∧ Φ (.bl b) μ1
theorem sIsE {a : Addr} {cls : Value} {dd : Option Addr} {x : XD} {tas : TA} {ψ : DA} (rx : RepX K B.μ0 B.H0 cls dd x) (s : SA B tas ψ) : SE B (tCB (rIsH K cls dd a) tas) (dIsE K a x ψ) := fun σ H δ μ Φ Q S q k =>
  s σ H δ μ _ _ S q fun vs H1 xs μ1 S1 e1 r1 q1 => by
    obtain ⟨c, b, rfl, hk, hx, q2⟩ := q1
    obtain ⟨v, w, rfl, ra, rb⟩ := reps2 r1
    obtain rfl := Rep.hd_inv ra
    obtain rfl := Rep.hd_inv rb
    obtain ⟨C, fs⟩ := x
    have hcd : cls = .ref C ∧ (dd = none ∨ ∃ p fs', dd = some p ∧ H1 p = some (.xd fs')) := by
      cases fs with
      | none => exact ⟨rx.1, .inl rx.2⟩
      | some f =>
        obtain ⟨ns, ds⟩ := f
        obtain ⟨hc, p, us, hp, hH, hn, _⟩ := rx
        exact ⟨hc, .inr ⟨p, _, hp, (S1.evo.st _ _ hH hn).1⟩⟩
    obtain ⟨rfl, hdd⟩ := hcd
    refine ⟨C, rfl, hx, hdd, ?_⟩
    cases w with
    | ref T => exact ⟨_, .ref T, b, rfl, fun u h => by cases h; rfl, hk, k _ H1 _ μ1 S1 e1 (.bl _ .nil) q2⟩
    | ty T => exact ⟨_, .type T, b, rfl, fun u h => by cases h; rfl, hk, k _ H1 _ μ1 S1 e1 (.bl _ .nil) q2⟩
    | _ => cases hk
end
end DW
set_option Elab.async false
set_option linter.all false
set_option maxRecDepth 100000
set_option maxHeartbeats 4000000
namespace DW
open PySem PySem.Spec PyProof.Rows L2
theorem repr_ints {prog : Program} {w : World} : ∀ {l : List Int} {its : List Value}, Vals (l.map V.int) its → (∀ i ∈ l, i.natAbs.log2 < 1920) → ReprAll prog w its (l.map fun i => Str.ofString (toString i))
  | [], _, r, _ => by cases r; exact .nil
  | y :: l, _, r, h => by
    cases r with
    | cons r1 r2 =>
      obtain ⟨t, rfl⟩ := r1
      exact .cons (ReprIs.int t (h y List.mem_cons_self)) (repr_ints r2 fun z hz => h z (List.mem_cons_of_mem _ hz))
theorem piled_ints : ∀ (l : List Int), (∀ i ∈ l, i.natAbs.log2 < 1920) → piled (l.map fun i => Str.ofString (toString i)) ≤ 3000 * l.length
  | [], _ => by simp [piled]
  | y :: l, h => by
    have ih := piled_ints l fun z hz => h z (List.mem_cons_of_mem _ hz)
    have e := int_text_length_le (k := 1920) (by decide) (h y List.mem_cons_self)
    rw [List.map_cons, piled_cons, PySem.ofString_length, List.length_cons]
    omega
def tFmtI (K : Fg) (te : TE) : TE := fun σ H Q => te σ H fun x H1 => ∃ (a : Addr) (l : List Int), x = .ref a ∧ SqT K H1 a (l.map V.int) ∧ (∀ i ∈ l, i.natAbs.log2 < 1920) ∧ l.length ≤ 1000 ∧ ∀ m : Str, m.length ≤ 3000100 → Q (.str m) H1
theorem pe_fmtI {X : Cx} {e : Expr} {te : TE} {pos : Pos} {k : Nat} (hr : Room k X.A) (he : PE X e te) : PE X (.FormattedValue e (-1) none pos) (tFmtI X.K te) := by
  refine ⟨fun pins s σ H Q I h => ?_⟩
  refine wpAny_FormattedValue_plain (thn (he.run pins s σ H _ I h) fun v s1 hv => ?_)
  obtain ⟨x, H1, I1, r1, a, l, rfl, ht, hc, hz, q⟩ := hv
  cases r1
  obtain ⟨its, rv, ⟨o, ho, hcl, n, hd⟩, _⟩ := I1.tuple ht
  have hp := piled_ints l hc
  have htx := fmt_text (l.map fun i => Str.ofString (toString i))
  have hu := hr.units
  exact fmt_tuple (ts := l.map fun i => Str.ofString (toString i)) (by omega) ho hcl hd (repr_ints rv hc) (by rw [sizeLine_eq]; omega) fun m u tk hm => ⟨.str m, H1, I1.tok _, ⟨u, rfl⟩, q m (by omega)⟩
def okInt : V → Hp → Prop := fun v _ => ∃ i : Int, v = .int i ∧ i.natAbs.log2 < 1920
def okPath (K : Fg) : V → Hp → Prop := fun v H => ∃ (a : Addr) (l : List Int), v = .ref a ∧ SqT K H a (l.map V.int) ∧ (∀ i ∈ l, i.natAbs.log2 < 1920) ∧ l.length ≤ 1000
theorem strlen_append (a b : Str) : (a ++ b).length = a.length + b.length := by first | exact PySem.Str.length_append a b | exact StrLaws.length_append a b | exact PySem.StrLaws.length_append a b
/-- f"..{i}" -/
theorem msg_int {X : Cx} {s1 : Str} {k1 : Nat} {fld : Str} {q1 q2 q3 q4 : Pos} (h1 : s1.length ≤ 1000) (hv : PE X (.Name fld q2) (tVar 1)) :
    ∃ te, PE X (.JoinedStr [.Constant (.str s1) k1 q1, .FormattedValue (.Name fld q2) (-1) none q3] q4) te ∧ ∀ (σ : L2.St) (H : Hp) (v : V), σ[1]? = some (some v) → okInt v H → ∀ Q : VK, (∀ x, Q x H) → te σ H Q :=
  ⟨_, pe_joined (.cons pe_str (.cons (pe_fmt hv) .nil)), fun σ H v e ⟨i, ev, hi⟩ Q hq => by
    subst ev
    have e1 := int_text_length_le (k := 1920) (by decide) hi
    refine ⟨s1, rfl, ?_, .int i, e, .inr ⟨i, rfl, hi, _, rfl, ?_, hq _⟩⟩
    · rw [strlen_append, sizeLine_eq]; show 0 + _ ≤ _; omega
    · rw [strlen_append, strlen_append, sizeLine_eq]
      show 0 + s1.length + (Str.ofString (toString i)).length ≤ _
      rw [PySem.ofString_length]; omega⟩
/-- f"..{path}.." -/
theorem msg_path {X : Cx} {s1 s2 : Str} {k1 k2 : Nat} {k : Nat} {fld : Str} {q1 q2 q3 q4 q5 : Pos} (hr : Room k X.A) (h1 : s1.length ≤ 1000) (h2 : s2.length ≤ 1000) (hv : PE X (.Name fld q2) (tVar 1)) :
    ∃ te, PE X (.JoinedStr [.Constant (.str s1) k1 q1, .FormattedValue (.Name fld q2) (-1) none q3, .Constant (.str s2) k2 q5] q4) te ∧ ∀ (σ : L2.St) (H : Hp) (v : V), σ[1]? = some (some v) → okPath X.K v H → ∀ Q : VK, (∀ x, Q x H) → te σ H Q :=
  ⟨_, pe_joined (.cons pe_str (.cons (pe_fmtI hr hv) (.cons pe_str .nil))), fun σ H v e ⟨a, l, ev, hs, hi, hl⟩ Q hq => by
    subst ev
    refine ⟨s1, rfl, ?_, .ref a, e, a, l, rfl, hs, hi, hl, fun m hm => ⟨m, rfl, ?_, s2, rfl, ?_, hq _⟩⟩
    · rw [strlen_append, sizeLine_eq]; show 0 + _ ≤ _; omega
    · rw [strlen_append, strlen_append, sizeLine_eq]; show 0 + _ + _ ≤ _; omega
    · rw [strlen_append, strlen_append, strlen_append, sizeLine_eq]; show 0 + _ + _ + _ ≤ _; omega⟩
/-- the data of an int field, of a path field -/
def okdInt : D → Prop := fun d => ∃ i : Int, d = .int i ∧ i.natAbs.log2 < 1920
theorem okdInt_ok {K : Fg} (μ : Sto) (H : Hp) (v : V) (d : D) (r : Rep K μ H v d) (h : okdInt d) : okInt v H := by
  obtain ⟨i, rfl, hi⟩ := h
  exact ⟨i, Rep.int_inv r, hi⟩
theorem reps_int_inv {K : Fg} {μ : Sto} {H : Hp} : ∀ {vs : List V} {ns : List Int}, Reps K μ H vs (ns.map D.int) → vs = ns.map V.int
  | [], [], _ => rfl
  | [], _ :: _, r => by have := r.length; simp at this
  | _ :: _, [], r => by have := r.length; simp at this
  | v :: vs, n :: ns, r => by
    rw [List.map_cons] at r ⊢
    rw [Rep.int_inv r.split.1, reps_int_inv r.split.2]
def okdPath : D → Prop := fun d => ∃ l : List Int, d = .tup (l.map .int) ∧ (∀ i ∈ l, i.natAbs.log2 < 1920) ∧ l.length ≤ 1000
theorem okdPath_ok {K : Fg} (μ : Sto) (H : Hp) (v : V) (d : D) (r : Rep K μ H v d) (h : okdPath d) : okPath K v H := by
  obtain ⟨l, rfl, hi, hl⟩ := h
  obtain ⟨a, vs, rfl, ht, hr⟩ := Rep.tup_inv r
  have e := reps_int_inv hr
  subst e
  exact ⟨a, l, rfl, ht.sq, hi, hl⟩
end DW
set_option Elab.async false
set_option linter.all false
set_option maxRecDepth 100000
namespace DW
open PySem PySem.Spec PyProof.Rows L2
section
variable {K : Fg} {μ : Sto} {Φ : DK}
/-- len of a text -/
def cLenStr : DC := fun xs μ Φ => ∃ z, xs = [.str z] ∧ z.length ≤ 100000 ∧ Φ (.int z.length) μ
theorem rcLenStr : RC K (fun xs H Q => ∃ z, xs = [.str z] ∧ z.length ≤ sizeLine ∧ Q (.int z.length) H) cLenStr := fun H μ vs ds Φ Q s r q k => by
  obtain ⟨z, rfl, h1, q⟩ := q
  obtain ⟨v, rfl, r1⟩ := reps1 r
  obtain rfl := Rep.str_inv r1
  exact ⟨z, rfl, sz h1, k _ H _ μ .refl s (.int _ .nil) q⟩
theorem w_lenStr {s : Str} : cLenStr [.str s] μ Φ = ((TL.tl s).length ≤ 100000 ∧ Φ (.int (TL.tl s).length) μ) := propext ⟨fun ⟨z, e, h1, q⟩ => by cases e; exact ⟨h1, q⟩, fun ⟨h1, q⟩ => ⟨s, rfl, h1, q⟩⟩
theorem w_catStr {s t : Str} : oCatS (.str s) (.str t) μ Φ = ((TL.tl s).length + (TL.tl t).length ≤ 100000 ∧ Φ (.str (s ++ t)) μ) := propext ⟨fun ⟨a, b, e1, e2, h, q⟩ => by cases e1; cases e2; exact ⟨h, q⟩, fun ⟨h, q⟩ => ⟨s, t, rfl, rfl, h, q⟩⟩
theorem w_ixStr {s : Str} {i : Int} : oIxS (.str s) (.int i) μ Φ = ((TL.tl s).length ≤ 100000 ∧ ∃ c, atI (TL.tl s) i = some c ∧ Φ (.str ⟨#[c]⟩) μ) := propext ⟨fun ⟨z, j, c, e1, e2, h, h2, q⟩ => by cases e1; cases e2; exact ⟨h, c, h2, q⟩, fun ⟨h, c, h2, q⟩ => ⟨s, i, c, rfl, rfl, h, h2, q⟩⟩
theorem w_inStr {c : Nat} {z : Str} : oInS false (.str ⟨#[c]⟩) (.str z) μ Φ = Φ (.bl (decide (c ∈ TL.tl z))) μ := propext ⟨fun ⟨c', z', e1, e2, q⟩ => by cases e1; cases e2; exact q, fun q => ⟨c, z, rfl, rfl, q⟩⟩
theorem w_strE {s : Str} {P : Str → Prop} : (∃ z, D.str s = D.str z ∧ P z) = P s := propext ⟨fun ⟨z, e, h⟩ => by cases e; exact h, fun h => ⟨s, rfl, h⟩⟩
theorem w_strI {i : Int} : cStr [.int i] μ Φ = (i.natAbs.log2 < 1920 ∧ Φ (.str (toString i)) μ) := propext ⟨(fun h => by
  rcases h with ⟨j, e, h1, q⟩ | ⟨a, e, q⟩
  · cases e; exact ⟨h1, q⟩
  · cases e), fun ⟨h1, q⟩ => .inl ⟨i, rfl, h1, q⟩⟩
theorem w_strS {s : Str} : cStr [.str s] μ Φ = Φ (.str s) μ := propext ⟨(fun h => by
  rcases h with ⟨j, e, h1, q⟩ | ⟨a, e, q⟩
  · cases e
  · cases e; exact q), fun q => .inr ⟨s, rfl, q⟩⟩
end
end DW
set_option Elab.async false
set_option linter.all false
set_option maxRecDepth 100000
namespace DW
open PySem PySem.Spec PyProof.Rows L2
section
variable {K : Fg} {μ : Sto} {Φ : DK} {Ψ : XP} {δ : DEnv}
theorem u_iEn {φ : DE} {c : Int} {Ls : List D → Sto → Prop} : iEnD φ c Ψ δ μ Ls = φ Ψ δ μ fun x μ1 => ∃ ds, x = .tup ds ∧ Ls ((List.range ds.length).map fun (i : Nat) => .pr [.int (c + (i : Int)), ds.getD i .non]) μ1 := rfl
theorem u_raise1 {C : Addr} {fld : Str} {okd : D → Prop} {φ : DE} {Δ : DEnds} : dRaise1 C fld okd φ Ψ Δ δ μ = φ Ψ δ μ fun x μ1 => okd x ∧ Ψ (.mk C (some ([fld], [x]))) δ μ1 := rfl
theorem u_slS {φ : DE} {ol oh : XP → DEnv → Sto → (Option Int → Sto → Prop) → Prop} : dSlS φ ol oh Ψ δ μ Φ = φ Ψ δ μ fun x μ1 => ol Ψ δ μ1 fun lo μ2 => oh Ψ δ μ2 fun hi μ3 => ∃ z, x = .str z ∧ z.length ≤ 100000 ∧ Φ (.str (cutS z lo hi)) μ3 := rfl
def cListStr : DC := fun xs μ Φ => ∃ z : Str, xs = [.str z] ∧ z.length ≤ 100000 ∧ Φ (.lst (z.cps.toList.map fun c => .str ⟨#[c]⟩)) μ
theorem w_listStr {s : Str} : cListStr [.str s] μ Φ = ((TL.tl s).length ≤ 100000 ∧ Φ (.lst ((TL.tl s).map fun c => .str ⟨#[c]⟩)) μ) := propext ⟨fun ⟨z, e, h1, q⟩ => by cases e; exact ⟨h1, q⟩, fun ⟨h1, q⟩ => ⟨s, rfl, h1, q⟩⟩
end
end DW
set_option Elab.async false
set_option linter.all false
set_option maxRecDepth 100000
namespace DW
open PySem PySem.Spec PyProof.Rows L2
structure Two (μ : Sto) (p st : Addr) (L c : List D) (μ' : Sto) : Prop where
  hp : μ p = none
  ne : st ≠ p
  pL : μ' p = some (.lst L)
  sc : μ' st = some (.lst c)
  ot : ∀ a, a ≠ p → a ≠ st → μ' a = μ a
theorem Two.start {μ : Sto} {p st : Addr} {L c : List D} (hp : μ p = none) (hs : μ st = some (.lst c)) : Two μ p st L c (sset μ p (.lst L)) := by
  have ne : st ≠ p := fun z => by rw [z, hp] at hs; cases hs
  exact ⟨hp, ne, sset_same, by rw [sset_ne ne]; exact hs, fun a h _ => sset_ne h⟩
theorem Two.setS {μ μ' : Sto} {p st : Addr} {L c c2 : List D} (T : Two μ p st L c μ') : Two μ p st L c2 (sset μ' st (.lst c2)) :=
  ⟨T.hp, T.ne, by rw [sset_ne (Ne.symm T.ne)]; exact T.pL, sset_same, fun a h1 h2 => by rw [sset_ne h2]; exact T.ot a h1 h2⟩
theorem Two.setP {μ μ' : Sto} {p st : Addr} {L L2 c : List D} (T : Two μ p st L c μ') : Two μ p st L2 c (sset μ' p (.lst L2)) :=
  ⟨T.hp, T.ne, sset_same, by rw [sset_ne T.ne]; exact T.sc, fun a h1 h2 => by rw [sset_ne h1]; exact T.ot a h1 h2⟩
theorem Two.sub {μ μ' : Sto} {p st : Addr} {L c : List D} (T : Two μ p st L c μ') : Sub (sset μ st (.lst c)) μ' := fun a x e => by
  by_cases h : a = st
  · subst h; rw [sset_same] at e; rw [T.sc]; exact e
  · rw [sset_ne h] at e
    have h1 : a ≠ p := fun z => by rw [z, T.hp] at e; cases e
    rw [T.ot a h1 h]; exact e
theorem Two.del {μ μ' : Sto} {p st : Addr} {L c : List D} (T : Two μ p st L c μ') : sdel μ' p = sset μ st (.lst c) := by
  funext a
  unfold sdel
  by_cases h : a = p
  · subst h; rw [if_pos rfl, sset_ne (Ne.symm T.ne), T.hp]
  · rw [if_neg h]
    by_cases h2 : a = st
    · subst h2; rw [sset_same, T.sc]
    · rw [sset_ne h2]; exact T.ot a h h2
/-- a comprehension whose items are drawn from the state at st -/
theorem lcG_drawN {Ψ : XP} {Φ : DK} {n : Nat} {φ : DE} {δw : DEnv} {μ1 : Sto} {xs : List D} {st : Addr} (Sc : List D → Prop) (Inv : Nat → List D → Prop) {c : List D} (hz : xs.length ≤ 100000)
    (hst : μ1 st = some (.lst c)) (h0 : Sc c) (hI : Inv 0 [])
    (hs : ∀ (i : Nat) (d : D) (μ2 : Sto) (X : DK) (acc c : List D), xs[i]? = some d → μ2 st = some (.lst c) → Sc c → Inv i acc → acc.length = i →
      (∀ y c', Sc c' → Inv (i + 1) (acc ++ [y]) → X y (sset μ2 st (.lst c'))) → φ Ψ (δw.set n (some d)) μ2 X)
    (hd : ∀ acc c, Inv xs.length acc → acc.length = xs.length → Sc c → Φ (.lst acc) (sset μ1 st (.lst c))) : LcG (eName n) dYes φ δw Ψ xs μ1 Φ := fun p hp => by
  refine ⟨fun i μ' => ∃ acc c, Two μ1 p st acc c μ' ∧ Sc c ∧ Inv i acc ∧ acc.length = i, ⟨[], c, .start hp hst, h0, hI, rfl⟩, ?_, ?_⟩
  · rintro i d μ2 hi ⟨acc, c, T, s, I, hl⟩
    have hlt : i < xs.length := (List.getElem?_eq_some_iff.mp hi).1
    refine ⟨fun _ => ?_, fun z => nomatch z⟩
    exact hs i d μ2 _ acc c hi T.sc s I hl fun y c' s' I' => ⟨acc, T.setS.pL, by omega, _, c', T.setS.setP, s', I', by simp [hl]⟩
  · rintro μ2 ⟨acc, c, T, s, I, hl⟩
    exact ⟨acc, T.pL, by rw [T.del]; exact hd acc c I hl s⟩
section
variable {K : Fg} {μ : Sto} {Φ : DK} {Ψ : XP} {δ : DEnv}
theorem u_isE {a : Addr} {x : XD} {ψ : DA} : dIsE K a x ψ Ψ δ μ Φ = ψ Ψ δ μ fun xs μ1 => ∃ c b, xs = [.hd (.ref a), .hd c] ∧ kitE K x c = some b ∧ excE K x ∧ Φ (.bl b) μ1 := rfl
theorem w_isE {a : Addr} {c : V} {P : V → Bool → Prop} : (∃ c' b, [D.hd (.ref a), D.hd c] = [.hd (.ref a), .hd c'] ∧ P c' b) = ∃ b, P c b := propext ⟨fun ⟨c', b, e, q⟩ => by cases e; exact ⟨b, q⟩, fun ⟨b, q⟩ => ⟨c, b, rfl, q⟩⟩
theorem u_kitER {C T : Addr} {f : Option (List Str × List D)} : kitE K (.mk C f) (.ref T) = PySem.W.kitOne K (.ref C) (.ref T) := rfl
theorem u_kitET {C : Addr} {T : String} {f : Option (List Str × List D)} : kitE K (.mk C f) (.ty T) = PySem.W.kitOne K (.ref C) (.type T) := rfl
theorem u_excE {C : Addr} {f : Option (List Str × List D)} : excE K (.mk C f) = L2.ExcC K C := rfl
theorem u_xf {a C : Addr} {x : XD} {f : Str} {φ : DE} : dXf a x C f φ Ψ δ μ Φ = φ Ψ δ μ fun y μ1 => y = .hd (.ref a) ∧ ∃ (ns : List Str) (ds : List D) (i : Nat) (d : D), x = .mk C (some (ns, ds)) ∧ ns[i]? = some f ∧ ns.Nodup ∧ ds[i]? = some d ∧ Φ d μ1 := rfl
theorem w_xf1 {C : Addr} {f : Str} {d : D} {P : D → Prop} : (∃ (ns : List Str) (ds : List D) (i : Nat) (d' : D), XD.mk C (some ([f], [d])) = .mk C (some (ns, ds)) ∧ ns[i]? = some f ∧ ns.Nodup ∧ ds[i]? = some d' ∧ P d') = P d := propext ⟨fun ⟨ns, ds, i, d', e, h1, _, h2, q⟩ => by
  cases e
  cases i with
  | zero => cases h2; exact q
  | succ i => simp at h1, fun q => ⟨[f], [d], 0, d, rfl, rfl, by simp, rfl, q⟩⟩
end
end DW
set_option Elab.async false
set_option linter.all false
set_option maxRecDepth 100000
set_option maxHeartbeats 4000000
namespace DW
open PySem PySem.Spec PyProof.Rows L2
section layer
variable {X : Cx} {CX : CXT} {k : Nat} {f C : Addr} {fd : FuncData} {ps : List Str} {sp : Sp} {E : L2.St → XK} {x m : Str} {p pos apos : Pos} {e o : Expr} {es : List Expr} {ta : TE} {t : TA}
theorem run_makeS {pins : List (Addr × Obj)} {σ : L2.St} {H : Hp} {s : Shared} {Q : VK} {us : List Value} {vs : List V} (M : Mk X.K C f) (F : FnOk X.prog X.w X.K X.mg X.base CX k f fd ps sp) (hr : Room (k + 1) X.A) (hb : Binds X.K fd ps [])
    (hx : ∀ σ, PassesAt CX X σ (E σ)) (I : Inv X pins σ H s) (r : Vals vs us)
    (h : ∀ x dx, H x = none → H dx = none → dx ≠ x → sp (.ref x :: vs) (upd (upd H dx (.own x)) x (.ins C dx [])) (fun v H2 => v = .non ∧ Q (.ref x) H2) (E σ)) :
    wpAny (model X.prog X.w) X.A (call (.ref C) us) (EP X pins σ Q) X.xe s := by
  have hq := h (s.heap.objs.size + 1) s.heap.objs.size (I.hok.fresh (Nat.le_succ _)) (I.hok.fresh (Nat.le_refl _)) (Nat.ne_of_lt (Nat.lt_succ_self _))
  have I2 := Inv.made (C := C) I
  have r2 : Vals (V.ref (s.heap.objs.size + 1) :: vs) (Value.ref (s.heap.objs.size + 1) :: us) := .cons rfl r
  have hl : (Value.ref (s.heap.objs.size + 1) :: us).length = ps.length := by
    have e := r2.length
    rw [F.len _ _ _ _ hq] at e
    exact e.symm
  have hb2 := hb _ (Value.ref (s.heap.objs.size + 1) :: us) I2.kIn (by rw [List.append_nil]; exact hl)
  rw [List.append_nil] at hb2
  refine wpAny_call (make_map (f := f) I.kIn M.makes M.init (beq_iff_eq.mp M.fn) (codeAny_mono (F.run _ X.stack _ _ ⟨Value.ref (s.heap.objs.size + 1) :: us, []⟩ (Value.ref (s.heap.objs.size + 1) :: us) _ _ (E σ) (hr.make C us [])
    (I2.env0.make C us []) hb2 r2 hq) fun r s' hq' => ?_))
  cases r with
  | error e => exact hx σ pins _ _ e s' I2 hq'
  | ok fl =>
    cases fl with
    | ret u =>
      obtain ⟨v, H', I3, rv, ev, q3⟩ := I2.after hq'
      subst ev
      exact ⟨rv, ⟨V.ref (s.heap.objs.size + 1), H', I3, rfl, q3⟩⟩
    | next => exact False.elim hq'
    | brk => exact False.elim hq'
    | cont => exact False.elim hq'
def tMakeS (C : Addr) (sp : Sp) (E : L2.St → XK) (t : TA) : TE := fun σ H Q => t σ H fun vs H1 => ∀ x dx, H1 x = none → H1 dx = none → dx ≠ x → sp (.ref x :: vs) (upd (upd H1 dx (.own x)) x (.ins C dx [])) (fun v H2 => v = .non ∧ Q (.ref x) H2) (E σ)
theorem pe_makeS (M : Mk X.K C f) (F : FnOk X.prog X.w X.K X.mg X.base CX k f fd ps sp) (hr : Room (k + 1) X.A) (hg : Gl X x) (hm : X.mg x = some (.ref C)) (hb : Binds X.K fd ps []) (hx : ∀ σ, PassesAt CX X σ (E σ))
    (ha : PA X (e :: es) t) (hdb : (x == ("__debug__" : Str)) = false := by decide) (he : starEach (e :: es) X.env = (false, eval e X.env) :: starEach es X.env := by rfl) (hpl : (backTo pos (starEach es X.env)).any (·.1) = false := by rfl) :
    PE X (.Call (.Name x p) (e :: es) [] pos) (tMakeS C sp E t) := by
  refine ⟨fun pins s σ H Q I h => ?_⟩
  refine wpAny_Call_Name_kw (ld_glob I hg hm ?_ hdb)
  refine PySem.W.callWith_K (h₀ := X.base) I.ok.mod.kin M.kp (thn (ha.run pos pins s σ H _ I h) fun us s1 ⟨vs, H1, I1, r, q⟩ => ⟨I1.kIn, ?_⟩) he hpl
  exact run_makeS M F hr hb hx I1 r q
def tMethX (C : Addr) (m : Str) (sp : Sp) (E : L2.St → XK) (ta : TE) (t : TA) : TE := fun σ H Q => ta σ H fun x H1 => ∃ a dx fs, x = .ref a ∧ H1 a = some (.ins C dx fs) ∧ fs.lookup m = none ∧ t σ H1 fun vs H2 => sp (x :: vs) H2 Q (E σ)
end layer
section
variable {K : Fg} {B : Bx K} {ta tv : TE} {φ φa φv : DE} {tas : TA} {ψ : DA} {μ : Sto} {H : Hp}
theorem Rep.obj_inv {v : V} {C : Addr} {ns : List Str} {ds : List D} (h : Rep K μ H v (.obj C ns ds)) : ∃ a dx us, v = .ref a ∧ H a = some (.ins C dx (ns.zip us)) ∧ NM μ a ∧ us.length = ns.length ∧ Reps K μ H us ds := by
  cases h with
  | obj h1 h2 h3 h4 _ => exact ⟨_, _, _, rfl, h1, h2, h3, h4⟩
/-- C(..), C a class whose __init__ keeps c -/
def dMakeS (C : Addr) (c : Con) (ψ : DA) : DE := fun Ψ δ μ Φ => ψ Ψ δ μ fun ds μ1 => ∀ x, μ1 x = none → c (.hd (.ref x) :: ds) (sset μ1 x (.ins C [] [])) (fun d μ2 => d = .non ∧ ∃ ns es, μ2 x = some (.ins C ns es) ∧ Φ (.obj C ns es) (sdel μ2 x)) (fun y μ2 => Ψ y δ μ2)
theorem sMakeS {C : Addr} {c : Con} (a : SA B tas ψ) : SE B (tMakeS C (spOf K c) (WE B.W) tas) (dMakeS C c ψ) := fun σ H δ μ Φ Q S q k =>
  a σ H δ μ _ _ S q fun vs H1 xs μ1 S1 e1 r1 q1 x dx hx hdx hne => by
    have hx' : upd H1 dx (.own x) x = none := by rw [upd_ne (Ne.symm hne)]; exact hx
    have ev0 : Evo μ1 H1 μ1 (upd H1 dx (.own x)) := .new hdx
    have st0 : StoOk K μ1 (upd H1 dx (.own x)) := S1.sto.new hdx
    have ev1 : Evo μ1 (upd H1 dx (.own x)) (sset μ1 x (.ins C [] [])) (upd (upd H1 dx (.own x)) x (.ins C dx [])) := .newC st0 hx'
    have st1 : StoOk K (sset μ1 x (.ins C [] [])) (upd (upd H1 dx (.own x)) x (.ins C dx [])) := st0.cell ev1 ⟨dx, [], upd_same, rfl, .nil⟩
    have ev := ev0.trans ev1
    refine ⟨sset μ1 x (.ins C [] []), .hd (.ref x) :: xs, _, _, st1, .hd _ (r1.mono ev), q1 x (S1.sto.fresh hx), fun v H' d μ' e s r ⟨hd, ns, es, hc, hq⟩ => ?_, fun cls dd H' y μ' e s rx hΨ => ?_⟩
    · subst hd
      obtain rfl := Rep.non_inv r
      refine ⟨rfl, ?_⟩
      obtain ⟨dx', us, hH, hl, hr⟩ := s x _ hc
      have sb : Sub (sdel μ' x) μ' := sdel_sub
      have e2 : Evo μ' H' (sdel μ' x) H' := sb.evo
      exact k _ H' _ (sdel μ' x) (S1.step (ev.trans (e.trans e2)) (sb.sto s)) (e1.trans (ev.trans (e.trans e2))) (.obj hH (NM.of sdel_same) hl (hr.mono e2) .nil) hq
    · exact B.hW cls dd σ H' y δ μ' (S1.step (ev.trans e) s) rx hΨ
/-- x.f, x an instance at rest -/
def dFld (C : Addr) (NS : List Str) (i : Nat) (φ : DE) : DE := fun Ψ δ μ Φ => φ Ψ δ μ fun x μ1 => ∃ ds d, x = .obj C NS ds ∧ ds[i]? = some d ∧ Φ d μ1
theorem sFldO {C : Addr} {NS : List Str} {f : Str} {i : Nat} (c : Cls K C) (n : NoAttr K C f) (hi : NS[i]? = some f) (hn : NS.Nodup) (a : SE B ta φ) : SE B (tFld K ta f) (dFld C NS i φ) := fun σ H δ μ Φ Q S q k =>
  a σ H δ μ _ _ S q fun v H1 x μ1 S1 e1 r1 q1 => by
    obtain ⟨ds, d, rfl, hd, q⟩ := q1
    obtain ⟨p, dx, us, rfl, hH, hnm, hl, hr⟩ := Rep.obj_inv r1
    obtain ⟨u, hu, ru⟩ := hr.get hd
    exact ⟨p, C, dx, _, u, rfl, hH, c, n, zip_lookup hn hi hu, k u H1 d μ1 S1 e1 ru q⟩
theorem putF_new {f : Str} {v : V} : ∀ {ns : List Str} {us : List V}, f ∉ ns → us.length = ns.length → putF f v (ns.zip us) = (ns ++ [f]).zip (us ++ [v])
  | [], [], _, _ => rfl
  | [], _ :: _, _, h => by simp at h
  | _ :: _, [], _, h => by simp at h
  | n :: ns, u :: us, hf, hl => by
    show (if n = f then (n, v) :: ns.zip us else (n, u) :: putF f v (ns.zip us)) = _
    rw [if_neg (fun e => hf (by rw [e]; exact List.mem_cons_self)), putF_new (fun h => hf (List.mem_cons_of_mem _ h)) (by simpa using hl)]
    rfl
/-- self.f = value, a new field of an instance in the making -/
def dSetF (C : Addr) (f : Str) (φv φa : DE) : DSt := fun Ψ Δ δ μ => φv Ψ δ μ fun y μ1 => φa Ψ δ μ1 fun x μ2 => ∃ a ns ds, x = .hd (.ref a) ∧ μ2 a = some (.ins C ns ds) ∧ f ∉ ns ∧ ns.length < 1000 ∧ Δ.nx δ (sset μ2 a (.ins C (ns ++ [f]) (ds ++ [y])))
theorem sSetF {C : Addr} {f : Str} (c : Cls K C) (n : NoAttr K C f) (b : SE B tv φv) (a : SE B ta φa) : SS B (sFld K ta tv f) (dSetF C f φv φa) := fun D Δ σ H δ μ E S q =>
  b σ H δ μ _ _ S q fun w H1 y μ1 S1 e1 r1 q1 => a σ H1 δ μ1 _ _ S1 q1 fun v H2 x μ2 S2 e2 r2 q2 => by
    obtain ⟨p, ns, ds, rfl, hc, hf, hz, q⟩ := q2
    obtain rfl := Rep.hd_inv r2
    obtain ⟨dx, us, hH, hl, hr⟩ := S2.sto p _ hc
    refine ⟨p, C, dx, _, rfl, hH, c, n, by rw [List.length_zip, hl, Nat.min_self]; exact hz, ?_⟩
    rw [putF_new hf hl]
    have ev : Evo μ2 H2 (sset μ2 p (.ins C (ns ++ [f]) (ds ++ [y]))) (upd H2 p (.ins C dx ((ns ++ [f]).zip (us ++ [w])))) := .cell hc fun h => h.notI hc
    exact E.nx σ _ δ _ (S2.step ev (S2.sto.cell ev ⟨dx, us ++ [w], upd_same, by simp [hl], (hr.append (r1.mono e2)).mono ev⟩)) q
/-- x.m(..), x an instance at rest -/
def dMethX (C : Addr) (NS : List Str) (c : Con) (φ : DE) (ψ : DA) : DE := fun Ψ δ μ Φ => φ Ψ δ μ fun x μ1 => ∃ es, x = .obj C NS es ∧ ψ Ψ δ μ1 fun ds μ2 => c (x :: ds) μ2 Φ fun y μ3 => Ψ y δ μ3
theorem lookup_zip_none {m : Str} : ∀ {ns : List Str} {us : List V}, m ∉ ns → (ns.zip us).lookup m = none
  | [], _, _ => rfl
  | _ :: _, [], _ => rfl
  | n :: ns, u :: us, h => by
    show (match m == n with | true => some u | false => (ns.zip us).lookup m) = none
    have : (m == n) = false := beq_eq_false_iff_ne.mpr fun e => h (by rw [e]; exact List.mem_cons_self)
    rw [this]
    exact lookup_zip_none fun z => h (List.mem_cons_of_mem _ z)
theorem sMethX {C : Addr} {NS : List Str} {m : Str} {c : Con} (hm : m ∉ NS) (a : SE B ta φ) (b : SA B tas ψ) : SE B (tMethX C m (spOf K c) (WE B.W) ta tas) (dMethX C NS c φ ψ) := fun σ H δ μ Φ Q S q k =>
  a σ H δ μ _ _ S q fun v H1 x μ1 S1 e1 r1 q1 => by
    obtain ⟨es, rfl, q2⟩ := q1
    obtain ⟨p, dx, us, rfl, hH, hnm, hl, hr⟩ := Rep.obj_inv r1
    refine ⟨p, dx, _, rfl, hH, lookup_zip_none hm, b σ H1 δ μ1 _ _ S1 q2 fun vs H2 ds μ2 S2 e2 r2 q3 => ?_⟩
    exact ⟨μ2, _, Φ, fun y μ3 => B.Ψ y δ μ3, S2.sto, .cons (r1.mono e2) r2, q3, fun v H3 d μ3 e3 s3 r3 q4 => k v H3 d μ3 (S2.step e3 s3) ((e1.trans e2).trans e3) r3 q4, fun cls dd H3 y μ3 e3 s3 rx q4 => B.hW cls dd σ H3 y δ μ3 (S2.step e3 s3) rx q4⟩
end
end DW
set_option Elab.async false
set_option linter.all false
set_option maxRecDepth 100000
set_option maxHeartbeats 4000000
namespace DW
open PySem PySem.Spec PyProof.Rows L2
section
variable {P : Program} {w : World} {A : Around} {E : Value → Shared → Prop} {s : Shared}
abbrev noneIn (w : World) : Obj := { cls := .type "set", dict := none, data := .set #[] 0 (.fresh 0 0 (!w.params.followText "set-order")) }
/-- what set.__init__ leaves of a list of ints -/
def SetMade (w : World) (s : Shared) (zs : List Int) (s2 : Shared) : Prop := ∃ (hp : Heap) (tk c : Nat), s2 = { s with heap := hp, toks := tk } ∧ SetR w hp s.heap.objs.size (fun j => decide (j ∈ zs)) c ∧ c ≤ zs.length ∧ ∀ b o, s.heap.get? b = some o → hp.get? b = some o
theorem set_init_list {l : Addr} {arr : Array Value} (zs : List Int) (cold : A.handled = none) (isl : s.heap.IsList l arr) (zz : IntsAre arr.toList zs) (few : zs.length + 1 < scanBound) :
    codeAny (model P w) A (.call (.builtin "set.__init__") ⟨[.ref s.heap.objs.size, .ref l], []⟩) (wants (fun r s2 => r = .none ∧ SetMade w s zs s2) E) { s with heap := s.heap.push (noneIn w) } := by
  have many : arr.size = zs.length := by
    have q := IntsAre.length zz
    rw [Array.length_toList] at q
    exact q
  have S0 : (s.heap.push (noneIn w)).get? s.heap.objs.size = some (noneIn w) := Heap.get?_push_size _ rfl
  refine codeAny_call_builtin F.called_set.init.plain F.entry_set_init (check_set_init_1 (s := { s with heap := s.heap.push (noneIn w) }) ⟨_, S0, rfl⟩ ?_)
  have il : (s.heap.push (noneIn w)).IsList l arr := isl.push _
  have ll : l < s.heap.objs.size := by obtain ⟨o, ho, _⟩ := isl; exact Heap.lt_size ho
  obtain ⟨⟨c0, d0, x0, sl0⟩, ho, hc, n0, hd⟩ := id il
  simp only at hc hd
  subst hc hd
  have g1 := F.sub_list_set
  have g2 := F.sub_list_frozenset
  have g3 : (Value.type "list" == Value.type "dict") = false := by decide
  unfold Builtin.«set.__init__» noKeywords Builtin.Frozenset.updateFrom
  generalize hPI : pyIter = PI
  wp_walk
  subst hPI
  refine wpAny_pyIter_list il (wpAny_bind (wpAny_runValue ?_))
  have z1 : (s.heap.push (noneIn w)).objs.size = s.heap.objs.size + 1 := Heap.size_push ..
  have cold3 : A.in1.in1.handled = none := by simp [cold]
  have apart : l ≠ (s.heap.push (noneIn w)).objs.size := by rw [z1]; exact Nat.ne_of_lt (Nat.lt_succ_of_lt ll)
  have apart2 : s.heap.objs.size ∉ [(s.heap.push (noneIn w)).objs.size, l] := by
    rw [z1]
    intro q
    rcases List.mem_cons.1 q with q | q
    · exact absurd q (Nat.ne_of_lt (Nat.lt_succ_self _))
    · exact absurd (List.mem_singleton.1 q) (Nat.ne_of_gt ll)
  have vals : ∀ (i : Nat) (v : Value), arr[i]? = some v → ∃ k t, zs[i]? = some k ∧ v = .int k t := fun i v hv => by
    have lt : i < zs.length := by rw [← many]; exact (Array.getElem?_eq_some_iff.mp hv).1
    obtain ⟨t, e⟩ := zz.int_at i v (by rw [Array.getElem?_toList]; exact hv)
    exact ⟨zs[i], t, List.getElem?_eq_getElem lt, by rw [e, List.getD_eq_getElem?_getD, List.getElem?_eq_getElem lt] <;> rfl⟩
  have start : ((s.heap.push (noneIn w)).push { cls := .type "list_iterator", data := .fields #[.ref l, .int 0 0] }).get? s.heap.objs.size = some (noneIn w) := Heap.get?_push_of_some _ S0
  refine set_update_ints ((Walks.list cold3 _ l apart arr).toS) s.heap.objs.size apart2 zs many few vals (arr.size - 0) 0 { s with heap := (s.heap.push (noneIn w)).push { cls := .type "list_iterator", data := .fields #[.ref l, .int 0 0] } } (by omega) (Nat.zero_le _) ⟨⟨_, Heap.get?_push_size _ rfl, rfl, rfl⟩, il.push _⟩ ?h0 ?hf
  · exact ⟨0, Nat.le_refl 0, setR_new_at start⟩
  intro s2 c mv lc hr
  obtain ⟨hp2, gg, dd, tt, oo⟩ := s2
  obtain rfl : gg = s.gens := mv.gens
  obtain rfl : dd = s.drawn := mv.drawn
  obtain rfl : oo = s.os := mv.os
  rw [many] at lc
  refine wpAny_pure (wpAny_pure ⟨rfl, hp2, tt, c, rfl, hr, lc, fun b o e => ?_⟩)
  have lb : b < s.heap.objs.size := Heap.lt_size e
  refine mv.heap b o (fun q => ?_) (Heap.get?_push_of_some _ (Heap.get?_push_of_some _ e))
  rcases List.mem_cons.1 q with q | q
  · exact absurd q (Nat.ne_of_lt lb)
  · have := List.mem_singleton.1 q; rw [z1] at this; exact absurd this (Nat.ne_of_lt (Nat.lt_succ_of_lt lb))
theorem set_of_list {l : Addr} {arr : Array Value} (zs : List Int) {G : Value → Shared → Prop} (cold : A.handled = none) (isl : s.heap.IsList l arr) (zz : IntsAre arr.toList zs) (few : zs.length + 1 < scanBound)
    (fin : ∀ s2, SetMade w s zs s2 → G (.ref s.heap.objs.size) s2) : wpAny (model P w) A (call (.type "set") [.ref l]) G E s := by
  obtain ⟨c0, t0, m0⟩ := F.called_set.mro
  have a1 := F.called_set.made; have a2 := F.called_set.sub; have a3 := F.called_set.notType; have a4 := F.called_set.canCreate
  have a5 := F.typeCall_set_1 (.ref l)
  refine wpAny_call (codeAny_of_tree (show wpAny _ _ (callAny (.type "set") _) _ _ _ from wpAny_pure ⟨Code.quiet_builtin _ (by decide +kernel), codeAny_builtin F.entry_type_call ?_⟩))
  rw [Around.under_plain (weight_type_call_type "set" [.ref l] []) rfl]
  repeat (any_goals (first | assumption | wp_step))
  refine codeAny_mono (code_set_led1 (.ref l) (E := E) (Q₁ := fun u s1 => u = .ref s.heap.objs.size ∧ s1 = { s with heap := s.heap.push (noneIn w) }) ⟨rfl, rfl⟩) fun r s1 hr => ?_
  match r, hr with
  | .error e, hr => exact hr
  | .ok .next, hr => exact hr.elim
  | .ok .brk, hr => exact hr.elim
  | .ok .cont, hr => exact hr.elim
  | .ok (.ret u), hr =>
    obtain ⟨rfl, rfl⟩ := hr
    have T : Shared.TypeIs { s with heap := s.heap.push (noneIn w) } (.ref s.heap.objs.size) "set" := ⟨_, Heap.get?_push_size _ rfl, rfl⟩
    have a6 := F.called_set.init.lookup; have a7 := F.called_set.init.bind (.ref s.heap.objs.size)
    repeat (any_goals (first | assumption | wp_step))
    refine codeAny_mono (set_init_list zs (A := _) (E := E) (by simp [cold]) isl zz few) fun r2 s2 hr2 => ?_
    match r2, hr2 with
    | .error e, hr2 => exact hr2
    | .ok .next, hr2 => exact hr2.elim
    | .ok .brk, hr2 => exact hr2.elim
    | .ok .cont, hr2 => exact hr2.elim
    | .ok (.ret u), hr2 =>
      obtain ⟨rfl, hm⟩ := hr2
      repeat (any_goals (first | assumption | wp_step))
      exact fin _ hm
end
theorem nodup_le : ∀ {l m : List Int}, l.Nodup → (∀ x ∈ l, x ∈ m) → l.length ≤ m.length
  | [], _, _, _ => Nat.zero_le _
  | x :: l, m, nd, h => by
    have hx := h x List.mem_cons_self
    obtain ⟨n1, n2⟩ := List.nodup_cons.mp nd
    have := nodup_le (m := m.erase x) n2 fun y hy => (List.mem_erase_of_ne (fun (e : y = x) => n1 (by rw [← e]; exact hy))).mpr (h y (List.mem_cons_of_mem _ hy))
    rw [List.length_erase_of_mem hx] at this
    have := List.length_pos_of_mem hx
    rw [List.length_cons]
    omega
theorem SetR.few {w : World} {h : Heap} {a : Addr} {S : Int → Bool} {n : Nat} (R : SetR w h a S n) {m : List Int} (hm : ∀ k, S k = true → k ∈ m) : n ≤ m.length := by
  obtain ⟨o, es, ep, t, ho, hex, hd, g, nd, hs, hb, hf, hn, hr, hl⟩ := R
  have := nodup_le nd (m := m) fun x hx => hm x ((hs x).mpr hx)
  rw [List.length_map, Array.length_toList, hn] at this
  exact this
def tSortSet (K : Fg) (ta : TE) : TE := fun σ H Q => ta σ H fun x H1 => ∃ (l : Addr) (zs : List Int), x = .ref l ∧ (SqL K H1 l (zs.map V.int) ∨ SqT K H1 l (zs.map V.int)) ∧ (zs.length ≤ 1000 ∧ ∃ bd : List Int, bd.length < 64 ∧ ∀ z ∈ zs, z ∈ bd) ∧
  ∀ (ns : List Int) (p : Addr), ns.Pairwise (· < ·) → (∀ k : Int, k ∈ ns ↔ k ∈ zs) → H1 p = none → Q (.ref p) (upd H1 p (.lst (ns.map V.int)))
theorem pe_sortSet {X : Cx} {a : Expr} {ta : TE} {p p2 q pos : Pos} (hg : Gl X "sorted") (hm : X.mg "sorted" = none) (hg2 : Gl X "set") (hm2 : X.mg "set" = none) (ha : PE X a ta) (hc : X.calm = true := by rfl)
    (na : starEach [a] X.env = (false, eval a X.env) :: starEach [] X.env := by rfl) : PE X (.Call (.Name "sorted" p) [.Call (.Name "set" p2) [a] [] q] [] pos) (tSortSet X.K ta) := by
  refine ⟨fun pins s σ H Q I h => Call_ (ld_blt I hg hm boot_sorted (callWith_builtin1 (args_cons (Call_ (ld_blt I hg2 hm2 boot_set ?_)) rfl) rfl rfl))⟩
  refine callWith_type1 (args_cons (thn (ha.run pins s σ H _ I h) fun v s1 ⟨x, H1, I1, r1, l, zs, ex, hq, ⟨h1000, bd, h64, hbd⟩, k⟩ => args_nil ?_) na) na rfl
  subst ex
  cases r1
  have last : ∀ s2, SetMade X.w s1 zs s2 → wpAny (model X.prog X.w) X.A (spliced (backTo pos (starEach [] X.env))) (fun vs s3 => wpAny (model X.prog X.w) X.A (call (.builtin "sorted") (Value.ref s1.heap.objs.size :: vs)) (EP X pins σ Q) X.xe s3) X.xe s2 := by
    rintro s2 ⟨hp, tk, c, es, R0, hcz, kp⟩
    have I2 : Inv X pins σ H1 s2 := by rw [es]; exact I1.kept (t' := tk) kp
    have R : SetR X.w s2.heap s1.heap.objs.size (fun j => decide (j ∈ zs)) c := by rw [es]; exact R0
    refine args_nil (sorted_set (s := s2) R (I2.ok.hd hc) (Nat.lt_of_le_of_lt (SetR.few R fun k hk => hbd k (by simpa using hk)) h64) fun s4 r out c2 ns kk gg oo fresh at4 are asc mem len => ?_)
    have room : (ns.map V.int).length ≤ sizeLine := by rw [List.length_map, len, sizeLine_eq]; omega
    have none4 : H1 r = none := I2.hok.fresh fresh
    have J : Inv X pins σ (upd H1 r (.lst (ns.map V.int))) { s2 with heap := s4.heap, gens := s4.gens, drawn := s4.drawn, toks := s4.toks } :=
      I2.call (ch := []) (Un.laid kk fresh none4) (I2.hok.laid kk fresh ⟨room, out.toList, c2, vals_of_ints are, at4⟩) (by rw [gg]; exact I2.bare) (fun _ z => nomatch z)
    have same : s4 = { s2 with heap := s4.heap, gens := s4.gens, drawn := s4.drawn, toks := s4.toks } := by
      cases s4; cases s2; cases oo; rfl
    rw [same]
    exact ⟨.ref r, _, J, rfl, k ns r asc (fun z => (mem z).trans decide_eq_true_iff) none4⟩
  have small : zs.length + 1 < scanBound := by unfold scanBound; omega
  rcases hq with hq | hq
  · obtain ⟨its, r, pl, hz⟩ := I1.list hq
    exact set_of_list zs (I1.ok.hd hc) pl.isList (by simpa using r.ints) small last
  · obtain ⟨its, r, pl, hz⟩ := I1.tuple hq
    exact call_set_tupI zs (I1.ok.hd hc) pl (by simpa using r.ints) small fun hp tk c R hcz kp => last _ ⟨hp, tk, c, rfl, R, hcz, kp⟩
def dSortSet (φ : DE) : DE := fun Ψ δ μ Φ => φ Ψ δ μ fun x μ1 => ∃ zs : List Int, Items μ1 x (zs.map .int) ∧ (zs.length ≤ 1000 ∧ ∃ bd : List Int, bd.length < 64 ∧ ∀ z ∈ zs, z ∈ bd) ∧ ∀ ns : List Int, ns.Pairwise (· < ·) → (∀ k : Int, k ∈ ns ↔ k ∈ zs) → Φ (.lst (ns.map .int)) μ1
theorem reps_of_ints {K : Fg} {μ : Sto} {H : Hp} : ∀ ns : List Int, Reps K μ H (ns.map V.int) (ns.map D.int)
  | [] => .nil
  | n :: ns => .int n (reps_of_ints ns)
theorem sSortSet {K : Fg} {B : Bx K} {ta : TE} {φ : DE} (a : SE B ta φ) : SE B (tSortSet K ta) (dSortSet φ) := fun σ H δ μ Φ Q S q k =>
  a σ H δ μ _ _ S q fun v H1 x μ1 S1 e1 r1 q1 => by
    obtain ⟨zs, hi, hz, q2⟩ := q1
    obtain ⟨l, us, rfl, h1, h2⟩ := hi.ok S1.sto r1
    have e := reps_int_inv h2
    subst e
    exact ⟨l, zs, rfl, h1, hz, fun ns p asc mem hp => k _ _ _ μ1 (S1.step (.new hp) (S1.sto.new hp)) (e1.trans (.new hp)) (rep_lst S1.sto hp (reps_of_ints ns)) (q2 ns asc mem)⟩
end DW
set_option Elab.async false
set_option linter.all false
set_option maxRecDepth 100000
set_option maxHeartbeats 4000000
namespace DW
open PySem PySem.Spec PyProof.Rows L2
section
variable {K : Fg} {B : Bx K} {ta tb : TE} {φ φ' φa φb : DE} {tas : TA} {ψ : DA}
def cMaxL : DC := fun xs μ Φ => ∃ x ns, xs = [x] ∧ Items μ x (ns.map .int) ∧ isTup x = false ∧ ns ≠ [] ∧ ∀ m, m ∈ ns → (∀ y, y ∈ ns → y ≤ m) → Φ (.int m) μ
def cMinL : DC := fun xs μ Φ => ∃ x ns, xs = [x] ∧ Items μ x (ns.map .int) ∧ isTup x = false ∧ ns ≠ [] ∧ ∀ m, m ∈ ns → (∀ y, y ∈ ns → m ≤ y) → Φ (.int m) μ
def oRepL : DO := fun x y μ Φ => ∃ ds k, x = .lst ds ∧ y = .int k ∧ k ≤ 100000 ∧ -100000 ≤ k ∧ ds.length * k.toNat ≤ 100000 ∧ Φ (.lst (List.replicate k.toNat ds).flatten) μ
theorem Reps.rep {μ : Sto} {H : Hp} {vs : List V} {ds : List D} (h : Reps K μ H vs ds) : ∀ k : Nat, Reps K μ H (List.replicate k vs).flatten (List.replicate k ds).flatten
  | 0 => .nil
  | k + 1 => by rw [List.replicate_succ, List.replicate_succ, List.flatten_cons, List.flatten_cons]; exact h.append (h.rep k)
def dLstR1 (φ : DE) : DE := fun Ψ δ μ Φ => φ Ψ δ μ fun x μ1 => ∃ j, x = .int j ∧ 0 ≤ j ∧ j ≤ 100000 ∧ Φ (.lst (rngD 0 j.toNat)) μ1
def iZipL (φ φ' : DE) : DI := fun Ψ δ μ Φ => φ Ψ δ μ fun x μ1 => φ' Ψ δ μ1 fun y μ2 => ∃ xs ys, x = .lst xs ∧ y = .lst ys ∧ Φ ((xs.zip ys).map fun p => .pr [p.1, p.2]) μ2
def iEnL (φ : DE) : DI := fun Ψ δ μ Φ => φ Ψ δ μ fun x μ1 => ∃ ds, x = .lst ds ∧ Φ ((List.range ds.length).map fun (i : Nat) => .pr [.int (i : Int), ds.getD i .non]) μ1
/-- xs.index(y), flat -/
def dIdx (φa φb : DE) : DE := fun Ψ δ μ Φ => φa Ψ δ μ fun x μ1 => ∃ ds, x = .lst ds ∧ φb Ψ δ μ1 fun y μ2 => flatD y = true ∧ ds.all flatD = true ∧ ∃ (j : Nat) (z : D), ds[j]? = some z ∧ eqF z y = true ∧ (∀ (m : Nat) (z' : D), m < j → ds[m]? = some z' → eqF z' y = false) ∧ Φ (.int j) μ2
/-- o.pop(i), o a handle -/
def dPopAt (φa φb : DE) : DE := fun Ψ δ μ Φ => φa Ψ δ μ fun x μ1 => ∃ a ds, x = .hd (.ref a) ∧ μ1 a = some (.lst ds) ∧ φb Ψ δ μ1 fun y μ2 => ∃ es, μ2 a = some (.lst es) ∧ es.length ≤ 100000 ∧ ∃ (i : Nat) (d : D), y = .int i ∧ es[i]? = some d ∧ Φ d (sset μ2 a (.lst (es.eraseIdx i)))
theorem Reps.eraseIdx {μ : Sto} {H : Hp} {vs : List V} {ds : List D} (h : Reps K μ H vs ds) (i : Nat) : Reps K μ H (vs.eraseIdx i) (ds.eraseIdx i) := by
  rw [List.eraseIdx_eq_take_drop_succ, List.eraseIdx_eq_take_drop_succ]
  exact (h.take _).append (h.drop _)
end
section
variable {K : Fg} {B : Bx K} {ta tb : TE} {φ φ' φa φb : DE} {tas : TA} {ψ : DA}
theorem TupAt.bare {μ : Sto} {H : Hp} {a : Addr} {us : List V} (h : TupAt K μ H a us) : (∃ (o : Obj) (us : List V), H a = some (.frz o (.tup us)) ∧ o.dict = none ∧ o.cls = .type "tuple") ∨ ∃ o, K.lookup a = some o ∧ o.cls = .type "tuple" ∧ o.dict = none :=
  h.elim (fun ⟨o, h1, h2, h3, _⟩ => .inl ⟨o, us, h1, h2, h3⟩) fun ⟨o, _, _, h1, h2, h3, _⟩ => .inr ⟨o, h1, h2, h3⟩
def dCntT (φa φb : DE) : DE := fun Ψ δ μ Φ => φa Ψ δ μ fun x μ1 => ∃ ns : List Int, x = .tup (ns.map .int) ∧ φb Ψ δ μ1 fun y μ2 => ∃ k : Int, y = .int k ∧ Φ (.int (ns.count k : Nat)) μ2
def dIdxT (φa φb : DE) : DE := fun Ψ δ μ Φ => φa Ψ δ μ fun x μ1 => ∃ ns : List Int, x = .tup (ns.map .int) ∧ φb Ψ δ μ1 fun y μ2 => ∃ (k : Int) (j : Nat), y = .int k ∧ ns[j]? = some k ∧ (∀ m, m < j → ns[m]? ≠ some k) ∧ Φ (.int j) μ2
end
end DW
set_option Elab.async false
set_option linter.all false
set_option maxRecDepth 100000
set_option maxHeartbeats 4000000
namespace DW
open PySem PySem.Spec PyProof.Rows L2
section
variable {M : Model} {A : Around} {E : Value → Shared → Prop} {s : Shared}
theorem callWith_tyKw {pos : Pos} {T : String} {x : Sem Value} {rest : List (Bool × Sem Value)} {kws : List (Option Str × Sem Value)} {Q : Value → Shared → Prop} (plain : ((false, x) :: rest).any (·.1) = false) (named : kws.any (·.1.isNone) = false) (all : kws.all (·.1.isSome) = true)
    (h : wpAny M A (spliced ((false, x) :: rest)) (fun vs s1 => wpAny M A (evalAll (kws.map (·.2))) (fun ks s2 => wpAny M A (call (.type T) vs ((kws.filterMap (·.1)).zip ks)) Q E s2) E s1) E s) :
    wpAny M A (callWith pos (.type T) [] ((false, x) :: rest) kws) Q E s := by
  have h2 : wpAny M A (evalArgs (.type T) true ((false, x) :: rest) kws) (fun a s1 => wpAny M A (call (.type T) ([] ++ a.pos) a.kw) Q E s1) E s := evalArgs_kwB all h
  unfold callWith
  refine wpAny_bind (wpAny_holding (wpAny_mono h2 (fun a s1 h1 => wpAny_bind (wpAny_standAt ?_)) fun _ _ z => z))
  simp only [plain, named, Bool.or_false]
  exact wpAny_bind (wpAny_pure (wpAny_bind (wpAny_mono h1 (fun r s2 hr => wpAny_bind (wpAny_holding (wpAny_point (wpAny_pure hr)))) fun _ _ z => z)))
end
section
variable {K : Fg} {B : Bx K} {ta tb : TE} {φa φb : DE} {w : World} {d : Addr} {tbl : List (Str × D)}
/-- d[z] -/
def oIxD (d : Addr) (tbl : List (Str × D)) : DO := fun x y μ Φ => x = .hd (.ref d) ∧ ∃ z v, y = .str z ∧ tbl.lookup z = some v ∧ Φ v μ
def oInD (d : Addr) (tbl : List (Str × D)) (neg : Bool) : DO := fun x y μ Φ => y = .hd (.ref d) ∧ ∃ z, x = .str z ∧ Φ (.bl (if neg then !(tbl.lookup z).isSome else (tbl.lookup z).isSome)) μ
end
section
variable {K : Fg} {B : Bx K} {tas : TA} {ψ : DA}
def dCallF (i : Nat) (F : Addr → Con → Prop) (ψ : DA) : DE := fun Ψ δ μ Φ => ∃ f c, F f c ∧ δ[i]? = some (some (.hd (.ref f))) ∧ ψ Ψ δ μ fun ds μ1 => c ds μ1 Φ fun y μ2 => Ψ y δ μ2
end
end DW
set_option Elab.async false
set_option linter.all false
set_option maxRecDepth 100000
set_option maxHeartbeats 4000000
namespace DW
open PySem PySem.Spec PyProof.Rows L2
section
variable {K : Fg} {B : Bx K} {ta : TE} {tas : TA} {φ φ' φa φb φv : DE} {ψ : DA} {W : WX} {C : Addr} {NS : List Str} {m : Str} {c : Con}
theorem sMakeSW (hW : B.W = W) (a : SA B tas ψ) : SE B (tMakeS C (spOf K c) (WE W) tas) (dMakeS C c ψ) := by
  subst hW
  exact sMakeS a
theorem sMethXW (hm : m ∉ NS) (hW : B.W = W) (a : SE B ta φ) (b : SA B tas ψ) : SE B (tMethX C m (spOf K c) (WE W) ta tas) (dMethX C NS c φ ψ) := by
  subst hW
  exact sMethX hm a b
end
/-- a statement of a class's suite -/
def clsS : Stmt → Nat → Stmt
  | .ClassDef _ _ _ b _ _ _ _ _ _ _, j => b.getD j (.Pass ⟨0, 0, 0, 0⟩)
  | s, _ => s
section
variable {K : Fg} {φ φ' φa φb φv : DE} {ψ : DA} {Ψ : XP} {δ : DEnv} {μ : Sto} {Φ : DK} {Δ : DEnds} {C d : Addr} {NS : List Str} {i j : Nat} {c : Con} {f z : Str} {F : Addr → Con → Prop} {ds es : List D} {k : Int} {tbl : List (Str × D)} {n : Bool} {x : D}
theorem u_fld : dFld C NS i φ Ψ δ μ Φ = φ Ψ δ μ fun x μ1 => ∃ ds d, x = .obj C NS ds ∧ ds[i]? = some d ∧ Φ d μ1 := rfl
theorem w_fld {P : D → Prop} : (∃ es d, D.obj C NS ds = .obj C NS es ∧ es[i]? = some d ∧ P d) = ∃ d, ds[i]? = some d ∧ P d := propext ⟨fun ⟨es, d, e, h, q⟩ => by cases e; exact ⟨d, h, q⟩, fun ⟨d, h, q⟩ => ⟨_, d, rfl, h, q⟩⟩
theorem w_someE {y : D} {P : D → Prop} : (∃ d, some y = some d ∧ P d) = P y := propext ⟨fun ⟨_, e, q⟩ => by cases e; exact q, fun q => ⟨_, rfl, q⟩⟩
theorem u_setF : dSetF C f φv φa Ψ Δ δ μ = φv Ψ δ μ fun y μ1 => φa Ψ δ μ1 fun x μ2 => ∃ a ns ds, x = .hd (.ref a) ∧ μ2 a = some (.ins C ns ds) ∧ f ∉ ns ∧ ns.length < 1000 ∧ Δ.nx δ (sset μ2 a (.ins C (ns ++ [f]) (ds ++ [y]))) := rfl
theorem u_methX : dMethX C NS c φ ψ Ψ δ μ Φ = φ Ψ δ μ fun x μ1 => ∃ es, x = .obj C NS es ∧ ψ Ψ δ μ1 fun ds μ2 => c (x :: ds) μ2 Φ fun y μ3 => Ψ y δ μ3 := rfl
theorem w_objE {P : List D → Prop} : (∃ es, D.obj C NS ds = .obj C NS es ∧ P es) = P ds := propext ⟨fun ⟨_, e, q⟩ => by cases e; exact q, fun q => ⟨_, rfl, q⟩⟩
theorem u_makeS : dMakeS C c ψ Ψ δ μ Φ = ψ Ψ δ μ fun ds μ1 => ∀ x, μ1 x = none → c (.hd (.ref x) :: ds) (sset μ1 x (.ins C [] [])) (fun d μ2 => d = .non ∧ ∃ ns es, μ2 x = some (.ins C ns es) ∧ Φ (.obj C ns es) (sdel μ2 x)) (fun y μ2 => Ψ y δ μ2) := rfl
theorem u_sortSet : dSortSet φ Ψ δ μ Φ = φ Ψ δ μ fun x μ1 => ∃ zs : List Int, Items μ1 x (zs.map .int) ∧ (zs.length ≤ 1000 ∧ ∃ bd : List Int, bd.length < 64 ∧ ∀ z ∈ zs, z ∈ bd) ∧ ∀ ns : List Int, ns.Pairwise (· < ·) → (∀ k : Int, k ∈ ns ↔ k ∈ zs) → Φ (.lst (ns.map .int)) μ1 := rfl
theorem u_lstR1 : dLstR1 φ Ψ δ μ Φ = φ Ψ δ μ fun x μ1 => ∃ j, x = .int j ∧ 0 ≤ j ∧ j ≤ 100000 ∧ Φ (.lst (rngD 0 j.toNat)) μ1 := rfl
theorem u_iZipL {Φ : List D → Sto → Prop} : iZipL φ φ' Ψ δ μ Φ = φ Ψ δ μ fun x μ1 => φ' Ψ δ μ1 fun y μ2 => ∃ xs ys, x = .lst xs ∧ y = .lst ys ∧ Φ ((xs.zip ys).map fun p => D.pr [p.1, p.2]) μ2 := rfl
theorem u_iEnL {Φ : List D → Sto → Prop} : iEnL φ Ψ δ μ Φ = φ Ψ δ μ fun x μ1 => ∃ ds, x = .lst ds ∧ Φ ((List.range ds.length).map fun (i : Nat) => D.pr [.int (i : Int), ds.getD i .non]) μ1 := rfl
theorem u_idx : dIdx φa φb Ψ δ μ Φ = φa Ψ δ μ fun x μ1 => ∃ ds, x = .lst ds ∧ φb Ψ δ μ1 fun y μ2 => flatD y = true ∧ ds.all flatD = true ∧ ∃ (j : Nat) (z : D), ds[j]? = some z ∧ eqF z y = true ∧ (∀ (m : Nat) (z' : D), m < j → ds[m]? = some z' → eqF z' y = false) ∧ Φ (.int j) μ2 := rfl
theorem u_popAt : dPopAt φa φb Ψ δ μ Φ = φa Ψ δ μ fun x μ1 => ∃ a ds, x = .hd (.ref a) ∧ μ1 a = some (.lst ds) ∧ φb Ψ δ μ1 fun y μ2 => ∃ es, μ2 a = some (.lst es) ∧ es.length ≤ 100000 ∧ ∃ (i : Nat) (d : D), y = .int i ∧ es[i]? = some d ∧ Φ d (sset μ2 a (.lst (es.eraseIdx i))) := rfl
theorem u_cntT : dCntT φa φb Ψ δ μ Φ = φa Ψ δ μ fun x μ1 => ∃ ns : List Int, x = .tup (ns.map .int) ∧ φb Ψ δ μ1 fun y μ2 => ∃ k : Int, y = .int k ∧ Φ (.int (ns.count k : Nat)) μ2 := rfl
theorem u_idxT : dIdxT φa φb Ψ δ μ Φ = φa Ψ δ μ fun x μ1 => ∃ ns : List Int, x = .tup (ns.map .int) ∧ φb Ψ δ μ1 fun y μ2 => ∃ (k : Int) (j : Nat), y = .int k ∧ ns[j]? = some k ∧ (∀ m, m < j → ns[m]? ≠ some k) ∧ Φ (.int j) μ2 := rfl
theorem u_callF : dCallF i F ψ Ψ δ μ Φ = ∃ f c, F f c ∧ δ[i]? = some (some (.hd (.ref f))) ∧ ψ Ψ δ μ fun ds μ1 => c ds μ1 Φ fun y μ2 => Ψ y δ μ2 := rfl
theorem w_maxL : cMaxL [x] μ Φ = ∃ ns, Items μ x (ns.map .int) ∧ isTup x = false ∧ ns ≠ [] ∧ ∀ m, m ∈ ns → (∀ y, y ∈ ns → y ≤ m) → Φ (.int m) μ := propext ⟨fun ⟨_, ns, e, q⟩ => by cases e; exact ⟨ns, q⟩, fun ⟨ns, q⟩ => ⟨_, ns, rfl, q⟩⟩
theorem w_minL : cMinL [x] μ Φ = ∃ ns, Items μ x (ns.map .int) ∧ isTup x = false ∧ ns ≠ [] ∧ ∀ m, m ∈ ns → (∀ y, y ∈ ns → m ≤ y) → Φ (.int m) μ := propext ⟨fun ⟨_, ns, e, q⟩ => by cases e; exact ⟨ns, q⟩, fun ⟨ns, q⟩ => ⟨_, ns, rfl, q⟩⟩
theorem w_ixDc : oIxD d tbl (.hd (.ref d)) (.str z) μ Φ = ∃ v, tbl.lookup z = some v ∧ Φ v μ := propext ⟨fun ⟨_, _, v, e, h, q⟩ => by cases e; exact ⟨v, h, q⟩, fun ⟨v, h, q⟩ => ⟨rfl, _, v, rfl, h, q⟩⟩
theorem w_inDc : oInD d tbl n (.str z) (.hd (.ref d)) μ Φ = Φ (.bl (if n then !(tbl.lookup z).isSome else (tbl.lookup z).isSome)) μ := propext ⟨fun ⟨_, _, e, q⟩ => by cases e; exact q, fun q => ⟨rfl, _, rfl, q⟩⟩
theorem w_repL : oRepL (.lst ds) (.int k) μ Φ = (k ≤ 100000 ∧ -100000 ≤ k ∧ ds.length * k.toNat ≤ 100000 ∧ Φ (.lst (List.replicate k.toNat ds).flatten) μ) := propext ⟨fun ⟨_, _, e1, e2, q⟩ => by cases e1; cases e2; exact q, fun q => ⟨_, _, rfl, rfl, q⟩⟩
theorem w_listLs {P : List D → List D → Prop} : (∃ xs ys, D.lst ds = .lst xs ∧ D.lst es = .lst ys ∧ P xs ys) = P ds es := propext ⟨fun ⟨_, _, e1, e2, q⟩ => by cases e1; cases e2; exact q, fun q => ⟨_, _, rfl, rfl, q⟩⟩
end
end DW
set_option Elab.async false
set_option linter.all false
set_option maxRecDepth 100000
namespace DW
open PySem PySem.Spec PyProof.Rows L2
/-- list(range(n)), a list that will change -/
def dLstR1O (φ : DE) : DE := fun Ψ δ μ Φ => φ Ψ δ μ fun x μ1 => ∃ j, x = .int j ∧ 0 ≤ j ∧ j ≤ 100000 ∧ ∀ p, μ1 p = none → Φ (.hd (.ref p)) (sset μ1 p (.lst (rngD 0 j.toNat)))
theorem u_lstR1O {φ : DE} {Ψ : XP} {δ : DEnv} {μ : Sto} {Φ : DK} : dLstR1O φ Ψ δ μ Φ = φ Ψ δ μ fun x μ1 => ∃ j, x = .int j ∧ 0 ≤ j ∧ j ≤ 100000 ∧ ∀ p, μ1 p = none → Φ (.hd (.ref p)) (sset μ1 p (.lst (rngD 0 j.toNat))) := rfl
end DW
set_option Elab.async false
set_option linter.all false
set_option maxRecDepth 100000
namespace DW
open PySem PySem.Spec PyProof.Rows L2
/-- xs.count(k), xs a list of ints -/
def dCntL (φa φb : DE) : DE := fun Ψ δ μ Φ => φa Ψ δ μ fun x μ1 => ∃ ns : List Int, x = .lst (ns.map .int) ∧ φb Ψ δ μ1 fun y μ2 => ∃ k : Int, y = .int k ∧ Φ (.int (ns.count k : Nat)) μ2
theorem u_cntL {φa φb : DE} {Ψ : XP} {δ : DEnv} {μ : Sto} {Φ : DK} : dCntL φa φb Ψ δ μ Φ = φa Ψ δ μ fun x μ1 => ∃ ns : List Int, x = .lst (ns.map .int) ∧ φb Ψ δ μ1 fun y μ2 => ∃ k : Int, y = .int k ∧ Φ (.int (ns.count k : Nat)) μ2 := rfl
end DW
set_option Elab.async false
set_option linter.all false
set_option maxRecDepth 100000
namespace LW
open PySem PySem.Spec L2 DW
inductive Am where
  | any | best (r : List Int) | second (r : List Int) | most | fewest | fixed | like (i : Nat) | unlike (i : Nat) | among (l : List Int) | only (l : List Int) | table (rows : List (List Int))
  | either (a b : Am) | both (a b : Am) | els (a b : Am) | not (a : Am) | first (a : Am) | recode (m : List Int) (a : Am) | reorder (p : List Int) (a : Am)
namespace Am
def iT (l : List Int) : D := .tup (l.map .int)
def d : Am → D
  | any => .tup [.str "any"]
  | best r => .tup [.str "best", iT r]
  | second r => .tup [.str "second", iT r]
  | most => .tup [.str "most"]
  | fewest => .tup [.str "fewest"]
  | fixed => .tup [.str "fixed"]
  | like i => .tup [.str "like", .int i]
  | unlike i => .tup [.str "unlike", .int i]
  | among l => .tup [.str "among", iT l]
  | only l => .tup [.str "only", iT l]
  | table rows => .tup [.str "table", .tup (rows.map iT)]
  | either a b => .tup [.str "either", a.d, b.d]
  | both a b => .tup [.str "both", a.d, b.d]
  | els a b => .tup [.str "else", a.d, b.d]
  | not a => .tup [.str "not", a.d]
  | first a => .tup [.str "first", a.d]
  | recode m a => .tup [.str "recode", iT m, a.d]
  | reorder p a => .tup [.str "reorder", iT p, a.d]
def dep : Am → Nat
  | either a b => max a.dep b.dep + 1
  | both a b => max a.dep b.dep + 1
  | els a b => max a.dep b.dep + 1
  | not a => a.dep + 1
  | first a => a.dep + 1
  | recode _ a => a.dep + 1
  | reorder _ a => a.dep + 1
  | _ => 1
end Am
/-- ascending numbers from lo on, below hi -/
def Asc (hi : Int) : Int → List Int → Prop
  | _, [] => True
  | lo, x :: r => lo ≤ x ∧ x < hi ∧ Asc hi (x + 1) r
structure CtxOk (n k : Nat) (c : List Int) : Prop where
  len : c.length = n
  lo : ∀ r ∈ c, 0 ≤ r
  hi : ∀ r ∈ c, r < k
  n1 : 1 ≤ n
  n64 : n ≤ 64
  k1 : 1 ≤ k
  k4 : k ≤ 4
def NumOk (len lim : Nat) (r : List Int) : Prop := r.length = len ∧ ∀ x ∈ r, 0 ≤ x ∧ x < (lim : Int)
def AmOk (n k : Nat) : Am → Prop
  | .any => True
  | .best r => NumOk k 10 r
  | .second r => NumOk k 10 r
  | .most => True
  | .fewest => True
  | .fixed => True
  | .like i => i < n
  | .unlike i => i < n
  | .among l => Asc k 0 l
  | .only l => Asc n 0 l
  | .table rows => n ≤ 8 ∧ k ^ n ≤ 256 ∧ rows.length = k ^ n ∧ ∀ l ∈ rows, Asc n 0 l
  | .either a b => AmOk n k a ∧ AmOk n k b
  | .both a b => AmOk n k a ∧ AmOk n k b
  | .els a b => AmOk n k a ∧ AmOk n k b
  | .not a => AmOk n k a
  | .first a => AmOk n k a
  | .recode m a => NumOk k k m ∧ AmOk n k a
  | .reorder p a => NumOk n n p ∧ p.Nodup ∧ AmOk n k a
def at' (l : List Int) (i : Int) : Int := l.getD i.toNat 0
/-- the number of a context -/
def ctxIx (k : Nat) (c : List Int) : Int := c.foldl (fun s r => s * k + r) 0
def someI (n : Nat) (p : Nat → Bool) : Bool := (List.range n).any p
def isG (k : Nat) : Am → List Int → Nat → Bool
  | .any, _, _ => true
  | .best r, c, x => c.all fun s => decide (at' r s ≤ at' r (c.getD x 0))
  | .second r, c, x => let m := at' r (c.getD x 0); c.all (fun s => m == at' r s) || (let ab := (c.map (at' r)).filter (fun s => decide (m < s)); decide (0 < ab.length) && ab.all (· == ab.getD 0 0))
  | .most, c, x => c.all fun s => decide (c.count s ≤ c.count (c.getD x 0))
  | .fewest, c, x => c.all fun s => decide (c.count (c.getD x 0) ≤ c.count s)
  | .fixed, c, x => c.getD x 0 == (x : Int)
  | .like i, c, x => c.getD x 0 == c.getD i 0
  | .unlike i, c, x => c.getD x 0 != c.getD i 0
  | .among l, c, x => l.contains (c.getD x 0)
  | .only l, _, x => l.contains (x : Int)
  | .table rows, c, x => (rows.getD (ctxIx k c).toNat []).contains (x : Int)
  | .either a b, c, x => isG k a c x || isG k b c x
  | .both a b, c, x => isG k a c x && isG k b c x
  | .els a b, c, x => if someI c.length (isG k a c) then isG k a c x else isG k b c x
  | .not a, c, x => !isG k a c x
  | .first a, c, x => isG k a c x && !someI x (isG k a c)
  | .recode m a, c, x => isG k a (c.map (at' m)) x
  | .reorder p a, c, x => isG k a ((List.range c.length).map fun (y : Nat) => c.getD (p.idxOf (y : Int)) (0 : Int)) (at' p x).toNat
def flagL (k : Nat) (a : Am) (c : List Int) : List D := (List.range c.length).map fun x => .bl (isG k a c x)
def FlC (P : Am → Prop) : Con := fun ds μ Φ _ => ∃ (n k : Nat) (a : Am) (c : List Int), P a ∧ AmOk n k a ∧ CtxOk n k c ∧ ds = [a.d, .tup (c.map .int), .int k] ∧ Φ (.lst (flagL k a c)) μ
section
variable {Ψ : XP} {Φ : DK} {n : Nat} {φ : DE} {δw : DEnv} {μ1 : Sto}
/-- over numbers, by the place -/
theorem lcI {ws : List Int} (v : Nat → D) (hz : ws.length ≤ 100000)
    (hs : ∀ (i : Nat) (z : Int) (μ2 : Sto) (X : DK), ws[i]? = some z → Sub μ1 μ2 → X (v i) μ2 → φ Ψ (δw.set n (some (.int z))) μ2 X)
    (hd : Φ (.lst ((List.range ws.length).map v)) μ1) : LcG (eName n) dYes φ δw Ψ (ws.map .int) μ1 Φ := by
  have hl : (ws.map D.int).length = ws.length := List.length_map ..
  refine lcG_mapN v (by rw [hl]; exact hz) (fun i d μ2 X hi hsub hx => ?_) (by rw [hl]; exact hd)
  obtain ⟨z, e, rfl⟩ := mapI_get hi
  exact hs i z μ2 X e hsub hx
/-- over numbers, by the number -/
theorem lcZ {ws : List Int} (f : Int → D) (hz : ws.length ≤ 100000)
    (hs : ∀ (z : Int) (μ2 : Sto) (X : DK), z ∈ ws → Sub μ1 μ2 → X (f z) μ2 → φ Ψ (δw.set n (some (.int z))) μ2 X)
    (hd : Φ (.lst (ws.map f)) μ1) : LcG (eName n) dYes φ δw Ψ (ws.map .int) μ1 Φ := by
  refine lcI (fun i => f (ws.getD i 0)) hz (fun i z μ2 X hi hsub hx => ?_) ?_
  · rw [List.getD_eq_getElem?_getD, hi] at hx
    exact hs z μ2 X (List.mem_of_getElem? hi) hsub hx
  · have : (List.range ws.length).map (fun i => f (ws.getD i 0)) = ws.map f := by
      apply List.ext_getElem
      · simp
      · intro i h1 h2
        simp at h1
        simp [List.getD_eq_getElem?_getD, List.getElem?_eq_getElem h1]
    rw [this]; exact hd
/-- over a range -/
theorem lcR {m : Nat} (v : Nat → D) (hz : m ≤ 100000)
    (hs : ∀ (i : Nat) (μ2 : Sto) (X : DK), i < m → Sub μ1 μ2 → X (v i) μ2 → φ Ψ (δw.set n (some (.int (i : Int)))) μ2 X)
    (hd : Φ (.lst ((List.range m).map v)) μ1) : LcG (eName n) dYes φ δw Ψ (rngD 0 m) μ1 Φ := by
  refine lcG_mapN v (by rw [rngD_len]; exact hz) (fun i d μ2 X hi hsub hx => ?_) (by rw [rngD_len]; exact hd)
  obtain ⟨hj, rfl⟩ := rngD_get hi
  have := hs i μ2 X hj hsub hx
  rw [Int.zero_add]
  exact this
theorem inD_I (z : Int) : ∀ l : List Int, inD (.int z) (l.map .int) = l.contains z
  | [] => rfl
  | x :: l => by
    have ih := inD_I z l
    unfold inD at ih ⊢
    rw [List.map_cons, List.any_cons, ih, List.contains_cons]
    show (x == z || l.contains z) = _
    by_cases hh : x = z
    · rw [hh]
    · rw [beq_eq_false_iff_ne.mpr hh, beq_eq_false_iff_ne.mpr (Ne.symm hh)]
theorem flat_I (l : List Int) : (l.map D.int).all flatD = true := by rw [List.all_map]; exact List.all_eq_true.mpr fun _ _ => rfl
end
theorem FlC.len {P : Am → Prop} {ds μ Φ Ψ} (h : FlC P ds μ Φ Ψ) : ds.length = 3 := by obtain ⟨_, _, _, _, _, _, _, rfl, _⟩ := h; rfl
end LW
set_option Elab.async false
set_option linter.all false
set_option maxRecDepth 100000
namespace DW
open PySem PySem.Spec PyProof.Rows L2
end DW
set_option Elab.async false
set_option linter.all false
set_option maxRecDepth 100000
namespace DW
open PySem PySem.Spec PyProof.Rows L2
section
variable {K : Fg} {B : Bx K}
def dLc2 (ι : DI) (γ : DG) (θ : DT) (ι1 : DI) (γ1 : DG) (θ1 : DT) (φ : DE) (vs vs1 : List Nat) : DE := fun Ψ δ μ Φ => ι Ψ δ μ fun xs μ1 => ∀ p, μ1 p = none → ∃ W : Nat → Sto → Prop, W 0 (sset μ1 p (.lst [])) ∧
  (∀ i d μ2, xs[i]? = some d → W i μ2 → γ d (dwipe δ vs) μ2 fun δ3 μ3 => θ Ψ δ3 μ3 fun b μ4 =>
    (b = true → ι1 Ψ δ3 μ4 fun xs1 μ5 => ∃ W1 : Nat → Sto → Prop, W1 0 μ5 ∧
      (∀ j d1 μ6, xs1[j]? = some d1 → W1 j μ6 → γ1 d1 (dwipe δ3 vs1) μ6 fun δ7 μ7 => θ1 Ψ δ7 μ7 fun b1 μ8 =>
        (b1 = true → φ Ψ δ7 μ8 fun y μ9 => ∃ acc, μ9 p = some (.lst acc) ∧ acc.length ≤ 100000 ∧ W1 (j + 1) (sset μ9 p (.lst (acc ++ [y])))) ∧ (b1 = false → W1 (j + 1) μ8)) ∧
      ∀ μ6, W1 xs1.length μ6 → W (i + 1) μ6) ∧ (b = false → W (i + 1) μ4)) ∧
  ∀ μ2, W xs.length μ2 → ∃ acc, μ2 p = some (.lst acc) ∧ Φ (.lst acc) (sdel μ2 p)
theorem sLc2 {wi wi1 : TI} {g g1 : TG} {tt tt1 : TT} {te : TE} {vs vs1 : List Nat} {ι ι1 : DI} {γ γ1 : DG} {θ θ1 : DT} {φ : DE} (a : SI B wi ι) (w : GW vs g) (w1 : GW vs1 g1) (b : ∀ H1 μ1 e, SG (B.re H1 μ1 e) g γ) (c : ∀ H1 μ1 e, ST (B.re H1 μ1 e) tt θ)
    (a1 : ∀ H1 μ1 e, SI (B.re H1 μ1 e) wi1 ι1) (b1 : ∀ H1 μ1 e, SG (B.re H1 μ1 e) g1 γ1) (c1 : ∀ H1 μ1 e, ST (B.re H1 μ1 e) tt1 θ1) (d : ∀ H1 μ1 e, SE (B.re H1 μ1 e) te φ) :
    SE B (tLc2 wi g tt wi1 g1 tt1 te vs vs1) (dLc2 ι γ θ ι1 γ1 θ1 φ vs vs1) := fun σ H δ μ Φ Q S q k =>
  a σ H δ μ _ _ S q fun xs J H1 μ1 S1 e1 it q1 => fun p hp => by
    have hμp : μ1 p = none := S1.sto.fresh hp
    obtain ⟨W, w0, ws, wd⟩ := q1 p hμp
    refine ⟨fun i m H' => m = xs.length - i ∧ i ≤ xs.length ∧ ∃ μ', Evo μ1 H1 μ' H' ∧ StoOk K μ' H' ∧ W i μ', ⟨xs.length, by simp, Nat.zero_le _, _, .newC S1.sto hp, sto_own S1.sto hp .nil, w0⟩, ?_⟩
    rintro i m H' ⟨rfl, hi, μ', e', s', wi'⟩
    by_cases hlt : i < xs.length
    · obtain ⟨hgo, hy⟩ := (it i H' μ' s' e').1 hlt
      refine .inr ⟨hgo, fun H2 => ∃ μ2, Evo μ1 H1 μ2 H2 ∧ StoOk K μ2 H2 ∧ W (i + 1) μ2, fun H2 ⟨μ2, e2, s2, w2⟩ => ⟨xs.length - (i + 1), by omega, rfl, by omega, μ2, e2, s2, w2⟩, fun x H2 y => ?_⟩
      obtain ⟨dd, hd, s2, e2, r2⟩ := hy x H2 y
      have S2 : (B.re H1 μ1 S1.evo).S (L2.wipe σ vs) H2 (dwipe δ vs) μ' := ⟨e'.trans e2, s2, ((S1.env.mono e').mono e2).wipe vs⟩
      refine w x (L2.wipe σ vs) (L2.wipe σ vs) H2 _ wipe_wipe ?_
      refine b H1 μ1 S1.evo x dd (L2.wipe σ vs) H2 (dwipe δ vs) μ' _ _ S2 r2 (ws i dd μ' hd wi') fun σ3 H3 δ3 μ3 S3 e3 q3 => ?_
      refine c H1 μ1 S1.evo σ3 H3 δ3 μ3 _ _ S3 q3 fun b4 H4 μ4 S4 e4 q4 => ?_
      cases b4 with
      | true =>
        rw [if_pos rfl]
        refine a1 H1 μ1 S1.evo σ3 H4 δ3 μ4 _ _ S4 (q4.1 rfl) fun xs1 J1 H5 μ5 S5 e5 it1 q5 => ?_
        obtain ⟨W1, w10, ws1, wd1⟩ := q5
        refine ⟨fun j m H' => m = xs1.length - j ∧ j ≤ xs1.length ∧ ∃ μ', Evo μ5 H5 μ' H' ∧ StoOk K μ' H' ∧ W1 j μ', ⟨xs1.length, by simp, Nat.zero_le _, μ5, .refl, S5.sto, w10⟩, ?_⟩
        rintro j m H6 ⟨rfl, hj, μ6, e6, s6, w16⟩
        by_cases hlt1 : j < xs1.length
        · obtain ⟨hgo1, hy1⟩ := (it1 j H6 μ6 s6 e6).1 hlt1
          refine .inr ⟨hgo1, fun H7 => ∃ μ7, Evo μ5 H5 μ7 H7 ∧ StoOk K μ7 H7 ∧ W1 (j + 1) μ7, fun H7 ⟨μ7, e7, s7, w7⟩ => ⟨xs1.length - (j + 1), by omega, rfl, by omega, μ7, e7, s7, w7⟩, fun x1 H7 y1 => ?_⟩
          obtain ⟨d1, hd1, s7, e7, r7⟩ := hy1 x1 H7 y1
          have S7 : (B.re H1 μ1 S1.evo).S (L2.wipe σ3 vs1) H7 (dwipe δ3 vs1) μ6 := ⟨(S5.evo.trans e6).trans e7, s7, ((S5.env.mono e6).mono e7).wipe vs1⟩
          refine w1 x1 (L2.wipe σ3 vs1) (L2.wipe σ3 vs1) H7 _ wipe_wipe ?_
          refine b1 H1 μ1 S1.evo x1 d1 (L2.wipe σ3 vs1) H7 (dwipe δ3 vs1) μ6 _ _ S7 r7 (ws1 j d1 μ6 hd1 w16) fun σ8 H8 δ8 μ8 S8 e8 q8 => ?_
          have E8 : Evo μ5 H5 μ8 H8 := (e6.trans e7).trans e8
          refine c1 H1 μ1 S1.evo σ8 H8 δ8 μ8 _ _ S8 q8 fun b9 H9 μ9 S9 e9 q9 => ?_
          have E9 : Evo μ5 H5 μ9 H9 := E8.trans e9
          cases b9 with
          | true =>
            rw [if_pos rfl]
            refine d H1 μ1 S1.evo σ8 H9 δ8 μ9 _ _ S9 (q9.1 rfl) fun v10 H10 y10 μ10 S10 e10 r10 q10 => ?_
            obtain ⟨acc, hacc, hz, w11⟩ := q10
            obtain ⟨us, h10, hr10⟩ := S10.sto _ _ hacc
            have e11 : Evo μ10 H10 (sset μ10 p (.lst (acc ++ [y10]))) (upd H10 p (.lst (us ++ [v10]))) := own_evo hacc
            obtain ⟨e12, s12⟩ := own_upd S10.sto hacc ((hr10.append r10).mono e11)
            exact ⟨us, h10, Nat.lt_of_le_of_lt (by rw [hr10.length]; exact hz) (by decide), _, (E9.trans e10).trans e12, s12, w11⟩
          | false =>
            rw [if_neg Bool.false_ne_true]
            exact ⟨μ9, E9, S9.sto, q9.2 rfl⟩
        · have e : j = xs1.length := by omega
          subst e
          exact .inl ⟨(it1 _ H6 μ6 s6 e6).2 (Nat.le_refl _), μ6, S5.evo.trans e6, s6, wd1 μ6 w16⟩
      | false =>
        rw [if_neg Bool.false_ne_true]
        exact ⟨μ4, S4.evo, S4.sto, q4.2 rfl⟩
    · have e : i = xs.length := by omega
      subst e
      obtain ⟨acc, hacc, q2⟩ := wd μ' wi'
      obtain ⟨us, h5, hr5⟩ := s' _ _ hacc
      refine .inl ⟨(it _ H' μ' s' e').2 (Nat.le_refl _), ?_⟩
      have e8 : Evo μ1 H1 (sdel μ' p) H' := e'.trans sdel_sub.evo
      exact k (.ref p) H' (.lst acc) (sdel μ' p) (S1.step e8 (sdel_sub.sto s')) (e1.trans e8) (.lst ⟨h5, .of sdel_same⟩ (hr5.mono sdel_sub.evo) .nil) q2
end
def LcG2 (γ : DG) (θ : DT) (ι1 : DI) (γ1 : DG) (θ1 : DT) (φ : DE) (δw : DEnv) (vs1 : List Nat) (Ψ : XP) (xs : List D) (μ1 : Sto) (Φ : DK) : Prop := ∀ p, μ1 p = none → ∃ W : Nat → Sto → Prop, W 0 (sset μ1 p (.lst [])) ∧
  (∀ i d μ2, xs[i]? = some d → W i μ2 → γ d δw μ2 fun δ3 μ3 => θ Ψ δ3 μ3 fun b μ4 =>
    (b = true → ι1 Ψ δ3 μ4 fun xs1 μ5 => ∃ W1 : Nat → Sto → Prop, W1 0 μ5 ∧
      (∀ j d1 μ6, xs1[j]? = some d1 → W1 j μ6 → γ1 d1 (dwipe δ3 vs1) μ6 fun δ7 μ7 => θ1 Ψ δ7 μ7 fun b1 μ8 =>
        (b1 = true → φ Ψ δ7 μ8 fun y μ9 => ∃ acc, μ9 p = some (.lst acc) ∧ acc.length ≤ 100000 ∧ W1 (j + 1) (sset μ9 p (.lst (acc ++ [y])))) ∧ (b1 = false → W1 (j + 1) μ8)) ∧
      ∀ μ6, W1 xs1.length μ6 → W (i + 1) μ6) ∧ (b = false → W (i + 1) μ4)) ∧
  ∀ μ2, W xs.length μ2 → ∃ acc, μ2 p = some (.lst acc) ∧ Φ (.lst acc) (sdel μ2 p)
section
variable {Ψ : XP} {Φ : DK} {δ : DEnv} {μ : Sto}
theorem u_lc2 {ι : DI} {γ : DG} {θ : DT} {ι1 : DI} {γ1 : DG} {θ1 : DT} {φ : DE} {vs vs1 : List Nat} : dLc2 ι γ θ ι1 γ1 θ1 φ vs vs1 Ψ δ μ Φ = ι Ψ δ μ fun xs μ1 => LcG2 γ θ ι1 γ1 θ1 φ (dwipe δ vs) vs1 Ψ xs μ1 Φ := rfl
/-- plain names, no tests, nothing changes -/
theorem lcG2_pure {n n1 : Nat} {ι1 : DI} {φ : DE} {δw : DEnv} {μ1 : Sto} {xs : List D} (cols : Nat → List D) (v : Nat → Nat → D) (hz : ∀ i, i ≤ xs.length → ((List.range i).flatMap fun i => (List.range (cols i).length).map (v i)).length ≤ 50000)
    (hc : ∀ i, (cols i).length ≤ 50000)
    (hi : ∀ (i : Nat) (d : D) (μ2 : Sto) (X : List D → Sto → Prop), xs[i]? = some d → Sub μ1 μ2 → X (cols i) μ2 → ι1 Ψ (δw.set n (some d)) μ2 X)
    (hs : ∀ (i : Nat) (d : D) (j : Nat) (d1 : D) (μ2 : Sto) (X : DK), xs[i]? = some d → (cols i)[j]? = some d1 → Sub μ1 μ2 → X (v i j) μ2 → φ Ψ (((δw.set n (some d)).set n1 none).set n1 (some d1)) μ2 X)
    (hd : Φ (.lst ((List.range xs.length).flatMap fun i => (List.range (cols i).length).map (v i))) μ1) : LcG2 (eName n) dYes ι1 (eName n1) dYes φ δw [n1] Ψ xs μ1 Φ := fun p hp => by
  refine ⟨fun i μ' => μ' = sset μ1 p (.lst ((List.range i).flatMap fun i => (List.range (cols i).length).map (v i))), rfl, fun i d μ2 hi2 e => ?_, fun μ2 e => ?_⟩
  · subst e
    refine ⟨fun _ => hi i d _ _ hi2 (.set Sub.refl hp) ⟨fun j μ' => j ≤ (cols i).length ∧ μ' = sset μ1 p (.lst (((List.range i).flatMap fun i => (List.range (cols i).length).map (v i)) ++ (List.range j).map (v i))), ⟨Nat.zero_le _, by rw [List.range_zero, List.map_nil, List.append_nil]⟩, fun j d1 μ6 hj hw => ?_, fun μ6 hw => ?_⟩, fun z => by cases z⟩
    · obtain ⟨hjl, rfl⟩ := hw
      have hj2 := (List.getElem?_eq_some_iff.mp hj).1
      refine ⟨fun _ => hs i d j d1 _ _ hi2 hj (.set Sub.refl hp) ⟨_, sset_same, ?_, ?_⟩, fun z => by cases z⟩
      · have h1 := hz i (Nat.le_of_lt (List.getElem?_eq_some_iff.mp hi2).1)
        have h2 := hc i
        rw [List.length_append, List.length_map, List.length_range]
        omega
      · refine ⟨hj2, ?_⟩
        rw [sset_sset, List.range_succ, List.map_append, List.append_assoc]
        rfl
    · obtain ⟨_, rfl⟩ := hw
      rw [List.range_succ, List.flatMap_append]
      simp
  · subst e
    refine ⟨_, sset_same, ?_⟩
    rw [sdel_sset hp]
    exact hd
end
end DW
set_option Elab.async false
set_option linter.all false
set_option maxRecDepth 100000
set_option maxHeartbeats 4000000
namespace DW
open PySem PySem.Spec PyProof.Rows L2
def wrap : Bool → List D → D
  | true => .tup
  | false => .lst
def iZM (b1 b2 : Bool) (φ φ' : DE) : DI := fun Ψ δ μ Φ => φ Ψ δ μ fun x μ1 => φ' Ψ δ μ1 fun y μ2 => ∃ xs ys, x = wrap b1 xs ∧ y = wrap b2 ys ∧ Φ ((xs.zip ys).map fun p => .pr [p.1, p.2]) μ2
theorem u_iZM {b1 b2 : Bool} {φ φ' : DE} {Ψ : XP} {δ : DEnv} {μ : Sto} {Φ : List D → Sto → Prop} : iZM b1 b2 φ φ' Ψ δ μ Φ = φ Ψ δ μ fun x μ1 => φ' Ψ δ μ1 fun y μ2 => ∃ xs ys, x = wrap b1 xs ∧ y = wrap b2 ys ∧ Φ ((xs.zip ys).map fun p => .pr [p.1, p.2]) μ2 := rfl
theorem w_zipLT {l t : List D} {P : List D → List D → Prop} : (∃ xs ys, D.lst l = wrap false xs ∧ D.tup t = wrap true ys ∧ P xs ys) = P l t := propext ⟨fun ⟨_, _, e1, e2, q⟩ => by cases e1; cases e2; exact q, fun q => ⟨_, _, rfl, rfl, q⟩⟩
theorem w_zipTL {l t : List D} {P : List D → List D → Prop} : (∃ xs ys, D.tup l = wrap true xs ∧ D.lst t = wrap false ys ∧ P xs ys) = P l t := propext ⟨fun ⟨_, _, e1, e2, q⟩ => by cases e1; cases e2; exact q, fun q => ⟨_, _, rfl, rfl, q⟩⟩
end DW
set_option Elab.async false
set_option linter.all false
set_option maxRecDepth 100000
set_option maxHeartbeats 4000000
namespace DW
open PySem PySem.Spec PyProof.Rows L2
section
variable {K : Fg} {B : Bx K} {ta : TE} {φ : DE} {Ψ : XP} {δ : DEnv} {μ : Sto} {Φ : DK}
def dTupR1 (φ : DE) : DE := fun Ψ δ μ Φ => φ Ψ δ μ fun x μ1 => ∃ j, x = .int j ∧ 0 ≤ j ∧ j ≤ 100000 ∧ Φ (.tup (rngD 0 j.toNat)) μ1
theorem u_tupR1 : dTupR1 φ Ψ δ μ Φ = φ Ψ δ μ fun x μ1 => ∃ j, x = .int j ∧ 0 ≤ j ∧ j ≤ 100000 ∧ Φ (.tup (rngD 0 j.toNat)) μ1 := rfl
end
end DW
set_option Elab.async false
set_option linter.all false
set_option maxRecDepth 100000
set_option maxHeartbeats 4000000
namespace DW
open PySem PySem.Spec PyProof.Rows L2
mutual
def toPy : D → PyData
  | .bl b => .bool b
  | .int i => .int i
  | .str s => .str s
  | .tup ds => .tuple (toPys ds)
  | .lst ds => .list (toPys ds)
  | _ => .none
def toPys : List D → List PyData
  | [] => []
  | d :: ds => toPy d :: toPys ds
end
mutual
/-- what can be compared -/
def eqOk : D → Bool
  | .non => true
  | .bl _ => true
  | .int _ => true
  | .str s => PyData.strOk s
  | .tup ds => eqOks ds
  | .lst ds => eqOks ds
  | _ => false
def eqOks : List D → Bool
  | [] => true
  | d :: ds => eqOk d && eqOks ds
end
mutual
def dpt : D → Nat
  | .tup ds => dpts ds + 1
  | .lst ds => dpts ds + 1
  | _ => 0
def dpts : List D → Nat
  | [] => 0
  | d :: ds => max (dpt d) (dpts ds)
end
mutual
theorem eqOk_lay : ∀ d : D, eqOk d = true → (toPy d).canLay0 = true
  | .non, _ => rfl
  | .bl _, _ => rfl
  | .int _, _ => rfl
  | .str s, h => by simpa [eqOk, toPy, PyData.canLay0] using h
  | .tup ds, h => by simp only [toPy, PyData.canLay0]; exact eqOks_lay ds (by simpa [eqOk] using h)
  | .lst ds, h => by simp only [toPy, PyData.canLay0]; exact eqOks_lay ds (by simpa [eqOk] using h)
  | .pr _, h => by simp [eqOk] at h
  | .obj _ _ _, h => by simp [eqOk] at h
  | .hd _, h => by simp [eqOk] at h
  | .scr _, h => by simp [eqOk] at h
theorem eqOks_lay : ∀ ds : List D, eqOks ds = true → PyData.canLayAll0 (toPys ds) = true
  | [], _ => rfl
  | d :: ds, h => by
    simp only [eqOks, Bool.and_eq_true] at h
    simp only [toPys, PyData.canLayAll0, eqOk_lay d h.1, eqOks_lay ds h.2, Bool.and_self]
end
mutual
theorem dpt_py : ∀ d : D, (toPy d).depth ≤ dpt d + 1
  | .non => by simp [toPy, PyData.depth]
  | .bl _ => by simp [toPy, PyData.depth]
  | .int _ => by simp [toPy, PyData.depth]
  | .str s => by simp [toPy, PyData.depth]
  | .tup ds => by simp only [toPy, PyData.depth, dpt]; have := dpts_py ds; omega
  | .lst ds => by simp only [toPy, PyData.depth, dpt]; have := dpts_py ds; omega
  | .pr _ => by simp [toPy, PyData.depth]
  | .obj _ _ _ => by simp [toPy, PyData.depth]
  | .hd _ => by simp [toPy, PyData.depth]
  | .scr _ => by simp [toPy, PyData.depth]
theorem dpts_py : ∀ ds : List D, PyData.depthAll (toPys ds) ≤ dpts ds + 1
  | [] => by simp [toPys, PyData.depthAll]
  | d :: ds => by
    simp only [toPys, PyData.depthAll, dpts]
    have h1 := dpt_py d
    have h2 := dpts_py ds
    omega
end
theorem shaped_of {d : D} (h : eqOk d = true) (hd : dpt d ≤ 60) : SeqAt.shaped (toPy d) = true := by
  unfold SeqAt.shaped
  rw [eqOk_lay d h, Bool.true_and]
  exact decide_eq_true (by have := dpt_py d; omega)
theorem dp_all {K : Fg} {μ : Sto} {H : Hp} {vs : List V} {ds : List D} (r : Reps K μ H vs ds) : eqOks ds = true → DpAll K H vs (toPys ds) := by
  induction r with
  | nil => intro _; exact .nil
  | non _ ih => intro h; simp only [eqOks, eqOk, Bool.true_and] at h; exact .cons .non (ih h)
  | bl b _ ih => intro h; simp only [eqOks, eqOk, Bool.true_and] at h; exact .cons (.bl b) (ih h)
  | int b _ ih => intro h; simp only [eqOks, eqOk, Bool.true_and] at h; exact .cons (.int b) (ih h)
  | str b _ ih => intro h; simp only [eqOks, Bool.and_eq_true] at h; exact .cons (.str b) (ih h.2)
  | hd v _ ih => intro h; simp [eqOks, eqOk] at h
  | tup h1 _ _ i1 i2 => intro h; simp only [eqOks, eqOk, Bool.and_eq_true] at h; exact .cons (.tup h1.sq (i1 h.1)) (i2 h.2)
  | pr _ _ _ _ _ => intro h; simp [eqOks, eqOk] at h
  | scr _ _ _ => intro h; simp [eqOks, eqOk] at h
  | lst h1 _ _ i1 i2 => intro h; simp only [eqOks, eqOk, Bool.and_eq_true] at h; exact .cons (.lst h1.sq (i1 h.1)) (i2 h.2)
  | obj _ _ _ _ _ _ _ => intro h; simp [eqOks, eqOk] at h
theorem dp_one {K : Fg} {μ : Sto} {H : Hp} {v : V} {d : D} (r : Rep K μ H v d) (h : eqOk d = true) : Dp K H v (toPy d) := by
  have q := dp_all r (by simp only [eqOks, h, Bool.and_self])
  cases q with
  | cons a b => exact a
def eqD (a b : D) : Bool := PyData.eqv (toPy a) (toPy b)
def EqSide (d : D) : Prop := eqOk d = true ∧ dpt d ≤ 60
def oEqD : DO := fun x y μ Φ => EqSide x ∧ EqSide y ∧ Φ (.bl (eqD x y)) μ
def oNeD : DO := fun x y μ Φ => EqSide x ∧ EqSide y ∧ Φ (.bl (!eqD x y)) μ
theorem roEqD {K : Fg} : RO K (rEqD K) oEqD := fun H μ v w x y Φ Q s r1 r2 q k => by
  obtain ⟨h1, h2, q⟩ := q
  exact ⟨_, _, dp_one r1 h1.1, dp_one r2 h2.1, shaped_of h1.1 h1.2, shaped_of h2.1 h2.2, k _ H _ μ .refl s (.bl _ .nil) q⟩
theorem roNeD {K : Fg} : RO K (rNeD K) oNeD := fun H μ v w x y Φ Q s r1 r2 q k => by
  obtain ⟨h1, h2, q⟩ := q
  exact ⟨_, _, dp_one r1 h1.1, dp_one r2 h2.1, shaped_of h1.1 h1.2, shaped_of h2.1 h2.2, k _ H _ μ .refl s (.bl _ .nil) q⟩
theorem eqD_refl {d : D} (h : eqOk d = true) : eqD d d = true := SeqAt.eqv_refl _ (eqOk_lay d h)
theorem eqOks_all : ∀ {ds : List D}, (∀ d ∈ ds, eqOk d = true) → eqOks ds = true
  | [], _ => rfl
  | d :: ds, h => by
    simp only [eqOks, Bool.and_eq_true]
    exact ⟨h d List.mem_cons_self, eqOks_all fun x hx => h x (List.mem_cons_of_mem _ hx)⟩
theorem dpts_all {m : Nat} : ∀ {ds : List D}, (∀ d ∈ ds, dpt d ≤ m) → dpts ds ≤ m
  | [], _ => Nat.zero_le _
  | d :: ds, h => by
    simp only [dpts]
    have h1 := h d List.mem_cons_self
    have h2 := dpts_all fun x hx => h x (List.mem_cons_of_mem _ hx)
    omega
theorem side_ints (l : List Int) : EqSide (.tup (l.map .int)) := ⟨by
  simp only [eqOk]
  exact eqOks_all fun d hd => by obtain ⟨z, _, rfl⟩ := List.mem_map.mp hd; rfl, by
  simp only [dpt]
  have := dpts_all (m := 0) (ds := l.map D.int) fun d hd => by obtain ⟨z, _, rfl⟩ := List.mem_map.mp hd; exact Nat.le_refl _
  omega⟩
theorem side_intsL (l : List Int) : EqSide (.lst (l.map .int)) := ⟨by
  simp only [eqOk]
  exact eqOks_all fun d hd => by obtain ⟨z, _, rfl⟩ := List.mem_map.mp hd; rfl, by
  simp only [dpt]
  have := dpts_all (m := 0) (ds := l.map D.int) fun d hd => by obtain ⟨z, _, rfl⟩ := List.mem_map.mp hd; exact Nat.le_refl _
  omega⟩
theorem dpt_ints (l : List Int) : dpt (.tup (l.map .int)) ≤ 1 := by
  simp only [dpt]
  have := dpts_all (m := 0) (ds := l.map D.int) fun d hd => by obtain ⟨z, _, rfl⟩ := List.mem_map.mp hd; exact Nat.le_refl _
  omega
end DW
set_option Elab.async false
set_option linter.all false
set_option maxRecDepth 100000
set_option maxHeartbeats 4000000
namespace DW
open PySem PySem.Spec PyProof.Rows L2
section
variable {K : Fg} {B : Bx K} {ta : TE} {φ : DE} {tas : TA} {ψ : DA} {Ψ : XP} {δ : DEnv} {μ : Sto} {Φ : DK}
def dMethXN (C : Addr) (NS : List Str) (c : Con) (φ : DE) (ψ : DA) : DE := fun Ψ δ μ Φ => φ Ψ δ μ fun x μ1 => ∃ es, x = .obj C NS es ∧ ψ Ψ δ μ1 fun ds μ2 => c (x :: ds) μ2 Φ fun _ _ => False
def dMakeSN (C : Addr) (c : Con) (ψ : DA) : DE := fun Ψ δ μ Φ => ψ Ψ δ μ fun ds μ1 => ∀ x, μ1 x = none → c (.hd (.ref x) :: ds) (sset μ1 x (.ins C [] [])) (fun d μ2 => d = .non ∧ ∃ ns es, μ2 x = some (.ins C ns es) ∧ Φ (.obj C ns es) (sdel μ2 x)) (fun _ _ => False)
theorem u_methXN {C : Addr} {NS : List Str} {c : Con} : dMethXN C NS c φ ψ Ψ δ μ Φ = φ Ψ δ μ fun x μ1 => ∃ es, x = .obj C NS es ∧ ψ Ψ δ μ1 fun ds μ2 => c (x :: ds) μ2 Φ fun _ _ => False := rfl
theorem u_makeSN {C : Addr} {c : Con} : dMakeSN C c ψ Ψ δ μ Φ = ψ Ψ δ μ fun ds μ1 => ∀ x, μ1 x = none → c (.hd (.ref x) :: ds) (sset μ1 x (.ins C [] [])) (fun d μ2 => d = .non ∧ ∃ ns es, μ2 x = some (.ins C ns es) ∧ Φ (.obj C ns es) (sdel μ2 x)) (fun _ _ => False) := rfl
end
theorem w_neB {b c : Bool} {μ : Sto} {Φ : DK} : oNe (.bl b) (.bl c) μ Φ = Φ (.bl (!decide (b = c))) μ := w_someb
end DW
set_option Elab.async false
set_option linter.all false
set_option maxRecDepth 100000
set_option maxHeartbeats 4000000
namespace DW
open PySem PySem.Spec PyProof.Rows L2
section
variable {K : Fg} {B : Bx K} {ta tb : TE} {φ φ2 : DE} {Ψ : XP} {δ : DEnv} {μ : Sto} {Φ : DK} {W : WX}
def dBinX (C : Addr) (NS : List Str) (c : Con) (φ φ2 : DE) : DE := fun Ψ δ μ Φ => φ Ψ δ μ fun x μ1 => φ2 Ψ δ μ1 fun y μ2 => ∃ es fs, x = .obj C NS es ∧ y = .obj C NS fs ∧ c [x, y] μ2 (fun d μ3 => (∃ C' NS' es', d = .obj C' NS' es') ∧ Φ d μ3) fun z μ3 => Ψ z δ μ3
def dInvX (C : Addr) (NS : List Str) (c : Con) (φ : DE) : DE := fun Ψ δ μ Φ => φ Ψ δ μ fun x μ1 => ∃ es, x = .obj C NS es ∧ c [x] μ1 Φ fun z μ3 => Ψ z δ μ3
theorem u_binX {C : Addr} {NS : List Str} {c : Con} : dBinX C NS c φ φ2 Ψ δ μ Φ = φ Ψ δ μ fun x μ1 => φ2 Ψ δ μ1 fun y μ2 => ∃ es fs, x = .obj C NS es ∧ y = .obj C NS fs ∧ c [x, y] μ2 (fun d μ3 => (∃ C' NS' es', d = .obj C' NS' es') ∧ Φ d μ3) fun z μ3 => Ψ z δ μ3 := rfl
theorem u_invX {C : Addr} {NS : List Str} {c : Con} : dInvX C NS c φ Ψ δ μ Φ = φ Ψ δ μ fun x μ1 => ∃ es, x = .obj C NS es ∧ c [x] μ1 Φ fun z μ3 => Ψ z δ μ3 := rfl
end
end DW
set_option Elab.async false
set_option linter.all false
set_option maxRecDepth 100000
set_option Elab.async false
set_option linter.all false
set_option maxRecDepth 100000
set_option maxHeartbeats 4000000
namespace DW
open PySem PySem.Spec PyProof.Rows L2
section
variable {X : Cx} {CX : CXT} {k : Nat} {f C : Addr} {fd : FuncData} {ps : List Str} {sp : Sp} {E : L2.St → XK} {ta tb : TE} {ea eb : Expr} {pos : Pos}
theorem run_fnS1 {pins : List (Addr × Obj)} {σ : L2.St} {H : Hp} {s : Shared} {Q : VK} {us : List Value} {vs : List V} (F : FnOk X.prog X.w X.K X.mg X.base CX k f fd ps sp) (hr : Room (k + 1) X.A) (hb : Binds X.K fd ps []) (hx : PassesAt CX X σ (E σ))
    (I : Inv X pins σ H s) (r : Vals vs us) (h : sp vs H Q (E σ)) : wpAny (model X.prog X.w) X.A.in1 (call (.ref f) us) (EP X pins σ Q) X.xe s := by
  have hl : us.length = ps.length := by rw [← r.length]; exact F.len _ _ _ _ h
  have b := hb s us I.kIn (by rw [List.append_nil]; exact hl)
  rw [List.append_nil] at b
  have e0 : Env0 X.prog X.w X.K X.mg X.base X.A.in1 X.stack s H := by
    have e := I.env0
    exact ⟨e.frames, e.mod, e.bs, e.bsz, e.funs, e.frf, e.hok, e.bare⟩
  refine wpAny_call (codeAny_mono (F.run X.A.in1 X.stack s H ⟨us, []⟩ us vs Q (E σ) hr.in1 e0 b r h) fun r s' hq => ?_)
  cases r with
  | error e => exact hx pins H s e s' I hq
  | ok fl =>
    cases fl with
    | ret u => exact I.after hq
    | next => exact False.elim hq
    | brk => exact False.elim hq
    | cont => exact False.elim hq
def PlainOwn (b : Expr) : Prop := ∀ o i, subscripted b true o i = runValue (.builtin "lifetime.subscript" ⟨[o, i], []⟩)
def tGetX (C : Addr) (sp : Sp) (E : L2.St → XK) (ta tb : TE) : TE := fun σ H Q => ta σ H fun x H1 => tb σ H1 fun y H2 => ∃ a dx fs, x = .ref a ∧ H2 a = some (.ins C dx fs) ∧ sp [x, y] H2 Q (E σ)
theorem pe_getX (hm : Meth X.K C "__getitem__" f) (hfn : PySem.W.fnIn X.K f = true) (F : FnOk X.prog X.w X.K X.mg X.base CX k f fd ps sp) (hr : Room (k + 1) X.A) (hb : Binds X.K fd ps []) (hx : ∀ σ, PassesAt CX X σ (E σ)) (ha : PE X ea ta) (hbb : PE X eb tb) (hs : PlainOwn eb) :
    PE X (.Subscript ea eb pos) (tGetX C sp E ta tb) := by
  refine ⟨fun pins s σ H Q I h => ?_⟩
  refine Subscript_ (binT ha hbb I h fun v u s2 x y H2 I2 rx ry q => ?_)
  obtain ⟨a, dx, fs, rfl, h1, q⟩ := q
  obtain rfl : v = Value.ref a := rx
  obtain ⟨mA, J, _⟩ := ins_get I2.hok h1
  obtain ⟨od, J, _⟩ := J.look
  obtain ⟨m, hF⟩ := I2.fr
  exact PySem.W.sub_K hF I2.ok.mod.kin J hm.at_ hfn hm.fn (run_fnS1 (us := [.ref a, u]) (vs := [.ref a, y]) F hr hb (hx σ) I2 (.cons rfl (.cons ry .nil)) q) (hs _ _)
end
section
variable {K : Fg} {B : Bx K} {ta tb : TE} {φ φ2 : DE} {Ψ : XP} {δ : DEnv} {μ : Sto} {Φ : DK} {W : WX}
def dGetX (C : Addr) (NS : List Str) (c : Con) (φ φ2 : DE) : DE := fun Ψ δ μ Φ => φ Ψ δ μ fun x μ1 => φ2 Ψ δ μ1 fun y μ2 => ∃ es, x = .obj C NS es ∧ c [x, y] μ2 Φ fun z μ3 => Ψ z δ μ3
theorem sGetX {C : Addr} {NS : List Str} {c : Con} (hW : B.W = W) (a : SE B ta φ) (b : SE B tb φ2) : SE B (tGetX C (spOf K c) (WE W) ta tb) (dGetX C NS c φ φ2) := by
  subst hW
  exact fun σ H δ μ Φ Q S q k => a σ H δ μ _ _ S q fun v H1 x μ1 S1 e1 r1 q1 => b σ H1 δ μ1 _ _ S1 q1 fun u H2 y μ2 S2 e2 r2 q2 => by
    obtain ⟨es, rfl, q3⟩ := q2
    obtain ⟨p, dx, us, rfl, hH, hnm, hl, hr⟩ := Rep.obj_inv (r1.mono e2)
    exact ⟨p, dx, _, rfl, hH, ⟨μ2, _, Φ, fun y μ3 => B.Ψ y δ μ3, S2.sto, .cons (r1.mono e2) (.cons r2 .nil), q3, fun v H3 d μ3 e3 s3 r3 q4 => k v H3 d μ3 (S2.step e3 s3) ((e1.trans e2).trans e3) r3 q4, fun cls dd H3 y μ3 e3 s3 rx q4 => B.hW cls dd σ H3 y δ μ3 (S2.step e3 s3) rx q4⟩⟩
theorem u_getX {C : Addr} {NS : List Str} {c : Con} : dGetX C NS c φ φ2 Ψ δ μ Φ = φ Ψ δ μ fun x μ1 => φ2 Ψ δ μ1 fun y μ2 => ∃ es, x = .obj C NS es ∧ c [x, y] μ2 Φ fun z μ3 => Ψ z δ μ3 := rfl
end
end DW
set_option Elab.async false
set_option linter.all false
set_option maxRecDepth 100000
set_option maxHeartbeats 4000000
namespace DW
open PySem PySem.Spec PyProof.Rows PySem.Calls L2
section
variable {X : Cx} {CX : CXT} {k i : Nat} {f C : Addr} {fd : FuncData} {ps : List Str} {sp : Sp} {E : L2.St → XK} {t : TA} {e : Expr} {es : List Expr} {x : Str} {p pos : Pos}
/-- a call of an instance, its place known after the arguments -/
theorem callWith_ins {M : Model} {A : Around} {R : Value → Shared → Prop} {Er : Value → Shared → Prop} {s : Shared} {env : Env} {a C : Addr} {fst : List Value}
    (h : wpAny M A (spliced (backTo pos (starEach (e :: es) env))) (fun vs s₁ => (∃ ox od, ox.data = .plain ∧ PySem.W.InstAt s₁.heap a ox C od) ∧ wpAny M A (call (.ref a) (fst ++ vs)) R Er s₁) Er s)
    (he : starEach (e :: es) env = (false, eval e env) :: starEach es env) (hp : (backTo pos (starEach es env)).any (·.1) = false) :
    wpAny M A (callWith pos (.ref a) fst (backTo pos (starEach (e :: es) env)) []) R Er s := by
  rw [he] at h ⊢
  have hplain : ((backTo pos ((false, eval e env) :: starEach es env)).any (·.1) || ([] : List (Option Str × Sem Value)).any (·.1.isNone)) = false := by
    show ((false || (backTo pos (starEach es env)).any (·.1)) || false) = false
    rw [hp]; rfl
  generalize ha : (backTo pos ((false, eval e env) :: starEach es env)) = args at h hplain
  have h2 : wpAny M A (evalArgs (.ref a) true args []) (fun b s₁ => (∃ ox od, ox.data = .plain ∧ PySem.W.InstAt s₁.heap a ox C od) ∧ wpAny M A (call (.ref a) (fst ++ b.pos) b.kw) R Er s₁) Er s := by
    subst ha
    exact evalArgs_plain h
  unfold callWith
  refine wpAny_bind (wpAny_holding (wpAny_mono h2 (fun b s₁ h₁ => wpAny_bind (wpAny_standAt ?_)) fun _ _ y => y))
  obtain ⟨⟨ox, od, hpl, J⟩, h3⟩ := h₁
  have L := PySem.W.kco_keeper (M := M) J hpl
  simp only [hplain]
  refine wpAny_bind (L.here ?_)
  have tail : ∀ {u : Sem Value}, wpAny M A u R Er s₁ → wpAny M A (u >>= fun r => holding [r] point >>= fun _ => pure r) R Er s₁ :=
    fun hu => wpAny_bind (wpAny_mono hu (fun r s₂ hr => wpAny_bind (wpAny_holding (wpAny_point (wpAny_pure hr)))) fun _ _ y => y)
  exact tail (wpAny_operateT h3)
theorem run_ins {pins : List (Addr × Obj)} {σ : L2.St} {H : Hp} {s : Shared} {Q : VK} {us : List Value} {vs : List V} {a dx : Addr} {fs : List (Str × V)} (hm : Meth X.K C "__call__" f) (hfn : PySem.W.fnIn X.K f = true) (F : FnOk X.prog X.w X.K X.mg X.base CX k f fd ps sp) (hr : Room k X.A) (hb : Binds X.K fd ps []) (hx : PassesAt CX X σ (E σ))
    (I : Inv X pins σ H s) (h1 : H a = some (.ins C dx fs)) (r0 : Vals vs us) (h : sp (.ref a :: vs) H Q (E σ)) : wpAny (model X.prog X.w) X.A (call (.ref a) us) (EP X pins σ Q) X.xe s := by
  obtain ⟨mA, J, _⟩ := ins_get I.hok h1
  obtain ⟨od, J, _⟩ := J.look
  have r : Vals (V.ref a :: vs) (Value.ref a :: us) := .cons rfl r0
  have hl : (Value.ref a :: us).length = ps.length := by rw [← r.length]; exact F.len _ _ _ _ h
  have b := hb s (Value.ref a :: us) I.kIn (by rw [List.append_nil]; exact hl)
  rw [List.append_nil] at b
  refine wpAny_call (PySem.W.kco_code (a := ⟨us, []⟩) I.kIn J rfl hm.at_ hm.fn hfn (codeAny_mono (F.run X.A X.stack s H ⟨Value.ref a :: us, []⟩ (Value.ref a :: us) (V.ref a :: vs) Q (E σ) hr I.env0 b r h) fun r s' hq => ?_))
  cases r with
  | error e => exact hx pins H s e s' I hq
  | ok fl =>
    cases fl with
    | ret u => exact I.after hq
    | next => exact False.elim hq
    | brk => exact False.elim hq
    | cont => exact False.elim hq
def tCallX (C : Addr) (i : Nat) (sp : Sp) (E : L2.St → XK) (t : TA) : TE := fun σ H Q => ∃ a, σ[i]? = some (some (.ref a)) ∧ t σ H fun vs H1 => (∃ dx fs, H1 a = some (.ins C dx fs)) ∧ sp (.ref a :: vs) H1 Q (E σ)
theorem pe_callX (hm : Meth X.K C "__call__" f) (hfn : PySem.W.fnIn X.K f = true) (F : FnOk X.prog X.w X.K X.mg X.base CX k f fd ps sp) (hr : Room k X.A) (hb : Binds X.K fd ps []) (hx : ∀ σ, PassesAt CX X σ (E σ)) (hN : X.N[i]? = some x) (hv : Vis X.env.scope x) (ha : PA X (e :: es) t)
    (hd : (x == ("__debug__" : Str)) = false := by decide) (hcd : (x == ("__classdict__" : Str)) = false := by decide)
    (he : starEach (e :: es) X.env = (false, eval e X.env) :: starEach es X.env := by rfl) (hpl : (backTo pos (starEach es X.env)).any (·.1) = false := by rfl) : PE X (.Call (.Name x p) (e :: es) [] pos) (tCallX C i sp E t) := by
  refine ⟨fun pins s σ H Q I ⟨a, hs, h⟩ => ?_⟩
  refine wpAny_Call_Name_kw (thn ((pe_var (pos := p) (i := i) hN hv hd hcd).run pins s σ H (fun v H1 => v = .ref a ∧ H1 = H) I ⟨.ref a, hs, rfl, rfl⟩) fun u s1 ⟨v, H1, I1, r1, ev, eH⟩ => ?_)
  subst ev
  rw [eH] at I1
  cases r1
  refine callWith_ins (C := C) (fst := []) (thn (ha.run pos pins s1 σ H _ I1 h) fun us s2 ⟨vs, H2, I2, r, ⟨dx, fs, h1⟩, q⟩ => ⟨?_, run_ins hm hfn F hr hb (hx σ) I2 h1 r q⟩) he hpl
  obtain ⟨mA, J, _⟩ := ins_get I2.hok h1
  obtain ⟨od, J, _⟩ := J.look
  exact ⟨_, some od, rfl, J⟩
end
section
variable {K : Fg} {B : Bx K} {tas : TA} {ψ : DA} {Ψ : XP} {δ : DEnv} {μ : Sto} {Φ : DK} {W : WX}
def dCallX (C : Addr) (NS : List Str) (i : Nat) (c : Con) (ψ : DA) : DE := fun Ψ δ μ Φ => ∃ es, δ[i]? = some (some (.obj C NS es)) ∧ ψ Ψ δ μ fun ds μ1 => c (.obj C NS es :: ds) μ1 Φ fun y μ2 => Ψ y δ μ2
theorem sCallX {C : Addr} {NS : List Str} {i : Nat} {c : Con} (hW : B.W = W) (a : SA B tas ψ) : SE B (tCallX C i (spOf K c) (WE W) tas) (dCallX C NS i c ψ) := by
  subst hW
  exact fun σ H δ μ Φ Q S q k => by
    obtain ⟨es, hi, q⟩ := q
    obtain ⟨v, ev, r⟩ := S.env.at_ i _ hi
    obtain ⟨p, _, _, rfl, _⟩ := Rep.obj_inv r
    refine ⟨p, ev, a σ H δ μ _ _ S q fun vs H1 ds μ1 S1 e1 r1 q1 => ?_⟩
    obtain ⟨p', dx, us, ep, hH, _⟩ := Rep.obj_inv (r.mono e1)
    cases ep
    exact ⟨⟨dx, _, hH⟩, μ1, _, Φ, fun y μ2 => B.Ψ y δ μ2, S1.sto, .cons (r.mono e1) r1, q1, fun v H2 d μ2 e2 s2 r2 q2 => k v H2 d μ2 (S1.step e2 s2) (e1.trans e2) r2 q2, fun cls dd H2 y μ2 e2 s2 rx q2 => B.hW cls dd σ H2 y δ μ2 (S1.step e2 s2) rx q2⟩
theorem u_callX {C : Addr} {NS : List Str} {i : Nat} {c : Con} : dCallX C NS i c ψ Ψ δ μ Φ = ∃ es, δ[i]? = some (some (.obj C NS es)) ∧ ψ Ψ δ μ fun ds μ1 => c (.obj C NS es :: ds) μ1 Φ fun y μ2 => Ψ y δ μ2 := rfl
end
end DW
set_option Elab.async false
set_option linter.all false
set_option maxRecDepth 100000
set_option maxHeartbeats 4000000
namespace DW
open PySem PySem.Spec PyProof.Rows L2
section
variable {K : Fg} {B : Bx K} {ta tb : TE} {φ φ2 : DE} {Ψ : XP} {δ : DEnv} {μ : Sto} {Φ : DK} {W : WX}
def dBinXI (C : Addr) (NS : List Str) (c : Con) (φ φ2 : DE) : DE := fun Ψ δ μ Φ => φ Ψ δ μ fun x μ1 => φ2 Ψ δ μ1 fun y μ2 => ∃ es j, x = .obj C NS es ∧ y = .int j ∧ c [x, y] μ2 (fun d μ3 => (∃ C' NS' es', d = .obj C' NS' es') ∧ Φ d μ3) fun z μ3 => Ψ z δ μ3
theorem u_binXI {C : Addr} {NS : List Str} {c : Con} : dBinXI C NS c φ φ2 Ψ δ μ Φ = φ Ψ δ μ fun x μ1 => φ2 Ψ δ μ1 fun y μ2 => ∃ es j, x = .obj C NS es ∧ y = .int j ∧ c [x, y] μ2 (fun d μ3 => (∃ C' NS' es', d = .obj C' NS' es') ∧ Φ d μ3) fun z μ3 => Ψ z δ μ3 := rfl
def dRestF (i : Nat) : DE := fun _ δ μ Φ => ∃ a ds, δ[i]? = some (some (.hd (.ref a))) ∧ ((μ a = some (.lst ds) ∧ Φ (.lst ds) (sset μ a (.frz ds))) ∨ (μ a = some (.frz ds) ∧ Φ (.lst ds) μ))
theorem u_restF {i : Nat} : dRestF i Ψ δ μ Φ = ∃ a ds, δ[i]? = some (some (.hd (.ref a))) ∧ ((μ a = some (.lst ds) ∧ Φ (.lst ds) (sset μ a (.frz ds))) ∨ (μ a = some (.frz ds) ∧ Φ (.lst ds) μ)) := rfl
end
end DW
set_option Elab.async false
set_option linter.all false
set_option maxRecDepth 100000
set_option maxHeartbeats 4000000
namespace DW
open PySem PySem.Spec PyProof.Rows L2
end DW
set_option Elab.async false
set_option linter.all false
set_option maxRecDepth 100000
set_option maxHeartbeats 4000000
namespace DW
open PySem PySem.Spec PyProof.Rows L2
end DW
set_option Elab.async false
set_option linter.all false
set_option maxRecDepth 100000
namespace DW
open PySem PySem.Spec PyProof.Rows L2
section
variable {K : Fg} {B : Bx K}
def dStar (φ : DE) (ψ : DA) : DA := fun Ψ δ μ Φ => φ Ψ δ μ fun x μ1 => ∃ ds, x = .tup ds ∧ ψ Ψ δ μ1 fun xs μ2 => Φ (ds ++ xs) μ2
theorem u_star {φ : DE} {ψ : DA} {Ψ : XP} {δ : DEnv} {μ : Sto} {Φ : List D → Sto → Prop} : dStar φ ψ Ψ δ μ Φ = φ Ψ δ μ fun x μ1 => ∃ ds, x = .tup ds ∧ ψ Ψ δ μ1 fun xs μ2 => Φ (ds ++ xs) μ2 := rfl
def dRev2L (φ : DE) : DE := fun Ψ δ μ Φ => φ Ψ δ μ fun x μ1 => ∃ ds, Items μ1 x ds ∧ isTup x = false ∧ ds ≠ [] ∧ Φ (.lst ds.dropLast.reverse) μ1
theorem u_rev2L {φ : DE} {Ψ : XP} {δ : DEnv} {μ : Sto} {Φ : DK} : dRev2L φ Ψ δ μ Φ = φ Ψ δ μ fun x μ1 => ∃ ds, Items μ1 x ds ∧ isTup x = false ∧ ds ≠ [] ∧ Φ (.lst ds.dropLast.reverse) μ1 := rfl
end
section
variable {K : Fg} {B : Bx K}
def dCallR (n : Nat) (c : Con) (ψ : DA) : DE := fun Ψ δ μ Φ => ψ Ψ δ μ fun xs μ1 => n ≤ xs.length ∧ xs.length ≤ 100000 ∧ c (xs.take n ++ [.tup (xs.drop n)]) μ1 Φ fun x μ2 => Ψ x δ μ2
theorem u_callR {n : Nat} {c : Con} {ψ : DA} {Ψ : XP} {δ : DEnv} {μ : Sto} {Φ : DK} : dCallR n c ψ Ψ δ μ Φ = ψ Ψ δ μ fun xs μ1 => n ≤ xs.length ∧ xs.length ≤ 100000 ∧ c (xs.take n ++ [.tup (xs.drop n)]) μ1 Φ fun x μ2 => Ψ x δ μ2 := rfl
end
end DW
set_option Elab.async false
set_option linter.all false
set_option maxRecDepth 100000
namespace LW
open PySem PySem.Spec L2 DW
theorem seq_cut {ω ζ : DSt} {Ψ : XP} {Δ : DEnds} {δ : DEnv} {μ : Sto} (h : ∀ M, M = ζ Ψ Δ → ω Ψ { Δ with nx := M } δ μ) : dSeq ω ζ Ψ Δ δ μ := h _ rfl
structure Rw where
  h : List Int
  c : List Int
def NSA : List Str := ["head", "cycle"]
def rwO (C : Addr) (r : Rw) : D := .obj C NSA [.tup (r.h.map .int), .tup (r.c.map .int)]
def cyc (c : List Int) (i : Nat) : Int := c.getD (i % c.length) 0
/-- what stands at a place -/
def ent (r : Rw) (i : Nat) : Int := if i < r.h.length then r.h.getD i 0 else cyc r.c (i - r.h.length)
structure RwOk (r : Rw) : Prop where
  c0 : r.c ≠ []
  hl : r.h.length ≤ 1000
  cl : r.c.length ≤ 1000
  hp : ∀ x ∈ r.h, 0 ≤ x
  cp : ∀ x ∈ r.c, 0 ≤ x
theorem cyc_mod (c : List Int) (i : Nat) : cyc c (i % c.length) = cyc c i := by unfold cyc; rw [Nat.mod_mod]
theorem cyc_lt {c : List Int} {i : Nat} (h : i < c.length) : cyc c i = c[i] := by
  unfold cyc
  rw [Nat.mod_eq_of_lt h, List.getD_eq_getElem?_getD, List.getElem?_eq_getElem h]; rfl
theorem self_at {c : List Int} {i : Nat} (hi : i < c.length) : c[i]? = some (cyc c i) := by rw [List.getElem?_eq_getElem hi, cyc_lt hi]
end LW
set_option Elab.async false
set_option linter.all false
set_option maxRecDepth 100000
namespace LW
open PySem PySem.Spec L2 DW
inductive QT where
  | tell (o : Nat)
  | look (p : Nat) (ts : List QT)
abbrev NS_Row : List Str := NSA
def NS_Query : List Str := ["term", "widths", "outcomes"]
mutual
def qD : QT → D
  | .tell o => .tup [.str "tell", .int (o : Int)]
  | .look p ts => .tup (.str "look" :: .int (p : Int) :: qDs ts)
def qDs : List QT → List D
  | [] => []
  | t :: ts => qD t :: qDs ts
end
theorem qDs_map : ∀ ts : List QT, qDs ts = ts.map qD
  | [] => rfl
  | t :: ts => by rw [qDs, qDs_map ts]; rfl
theorem qDs_len (ts : List QT) : (qDs ts).length = ts.length := by rw [qDs_map, List.length_map]
/-- the width of a place -/
def wd (ws : List Int) (p : Nat) : Nat := (ws.getD (p % ws.length) 0).toNat
structure WsOk (ws : List Int) : Prop where
  l0 : 1 ≤ ws.length
  l1 : ws.length ≤ 6
  w : ∀ x ∈ ws, 1 ≤ x ∧ x ≤ 4
theorem WsOk.at_ {ws : List Int} (h : WsOk ws) (p : Nat) : ∃ x, ws[p % ws.length]? = some x ∧ x = (wd ws p : Int) ∧ 1 ≤ x ∧ x ≤ 4 := by
  have hp : p % ws.length < ws.length := Nat.mod_lt _ (by have := h.l0; omega)
  have hx := h.w _ (List.getElem_mem hp)
  refine ⟨ws[p % ws.length], List.getElem?_eq_getElem hp, ?_, hx⟩
  unfold wd
  rw [List.getD_eq_getElem?_getD, List.getElem?_eq_getElem hp]
  simp only [Option.getD_some]
  omega
theorem WsOk.wd1 {ws : List Int} (h : WsOk ws) (p : Nat) : 1 ≤ wd ws p ∧ wd ws p ≤ 4 := by
  obtain ⟨x, _, e, h1, h2⟩ := h.at_ p
  omega
mutual
def QOk (ws : List Int) (oc : Nat) : QT → Prop
  | .tell o => o < oc
  | .look p ts => p < 100 ∧ ts.length = wd ws p ∧ QOks ws oc ts
def QOks (ws : List Int) (oc : Nat) : List QT → Prop
  | [] => True
  | t :: ts => QOk ws oc t ∧ QOks ws oc ts
end
theorem qoks_iff {ws : List Int} {oc : Nat} : ∀ {ts : List QT}, QOks ws oc ts ↔ ∀ t ∈ ts, QOk ws oc t
  | [] => by simp [QOks]
  | t :: ts => by rw [QOks, qoks_iff (ts := ts)]; simp
/-- how many looks inside of one another -/
def qDep : QT → Nat
  | .tell _ => 0
  | .look _ ts => qDeps ts + 1
where qDeps : List QT → Nat
  | [] => 0
  | t :: ts => max (qDep t) (qDeps ts)
theorem qdeps_le {t : QT} : ∀ {ts : List QT}, t ∈ ts → qDep t ≤ qDep.qDeps ts
  | s :: ts, h => by
    rw [qDep.qDeps]
    rcases List.mem_cons.mp h with e | e
    · subst e; omega
    · have := qdeps_le e; omega
/-- the places, look by look -/
def qPl : QT → List Nat
  | .tell _ => []
  | .look p ts => p :: qPls ts
where qPls : List QT → List Nat
  | [] => []
  | t :: ts => qPl t ++ qPls ts
theorem qpls_flat : ∀ ts : List QT, qPl.qPls ts = ts.flatMap qPl
  | [] => rfl
  | t :: ts => by rw [qPl.qPls, qpls_flat ts, List.flatMap_cons]
theorem qpls_mem {ts : List QT} {q : Nat} : q ∈ qPl.qPls ts ↔ ∃ t ∈ ts, q ∈ qPl t := by rw [qpls_flat, List.mem_flatMap]
theorem qpls_len {t : QT} : ∀ {ts : List QT}, t ∈ ts → (qPl t).length ≤ (qPl.qPls ts).length
  | s :: ts, h => by
    rw [qPl.qPls, List.length_append]
    rcases List.mem_cons.mp h with e | e
    · subst e; omega
    · have := qpls_len e; omega
/-- a way of proving for all terms -/
theorem QT.ind {P : QT → Prop} (h1 : ∀ o, P (.tell o)) (h2 : ∀ p ts, (∀ t ∈ ts, P t) → P (.look p ts)) (t : QT) : P t :=
  QT.rec (motive_1 := P) (motive_2 := fun ts => ∀ t ∈ ts, P t) h1 h2 (by simp) (fun t ts a b => by simpa using ⟨a, b⟩) t
section
variable {ws : List Int} {oc m o : Nat}
mutual
def IsS (ws : List Int) (oc : Nat) : Nat → QT → Prop
  | _, .tell o => o < oc
  | lo, .look p ts => lo ≤ p ∧ p < 100 ∧ ts.length = wd ws p ∧ (¬ ∀ q ∈ ts, q = ts.headD (.tell 0)) ∧ IsSs ws oc (p + 1) ts
def IsSs (ws : List Int) (oc : Nat) : Nat → List QT → Prop
  | _, [] => True
  | lo, t :: ts => IsS ws oc lo t ∧ IsSs ws oc lo ts
end
theorem iss_iff {lo : Nat} : ∀ {ts : List QT}, IsSs ws oc lo ts ↔ ∀ t ∈ ts, IsS ws oc lo t
  | [] => by simp [IsSs]
  | t :: ts => by rw [IsSs, iss_iff (ts := ts)]; simp
theorem IsS.mono {lo lo' : Nat} (h : lo' ≤ lo) : ∀ {t : QT}, IsS ws oc lo t → IsS ws oc lo' t
  | .tell o, q => by rw [IsS] at q ⊢; exact q
  | .look p ts, q => by rw [IsS] at q ⊢; exact ⟨by omega, q.2⟩
theorem IsS.ok : ∀ (t : QT) {lo : Nat}, IsS ws oc lo t → QOk ws oc t := fun t => by
  induction t using QT.ind with
  | h1 x => intro lo h; rw [IsS] at h; exact h
  | h2 p ts ih =>
    intro lo h
    rw [IsS] at h
    obtain ⟨_, h1, h2, _, h3⟩ := h
    exact ⟨h1, h2, qoks_iff.mpr fun t ht => ih t ht (iss_iff.mp h3 t ht)⟩
theorem IsS.pl : ∀ (t : QT) {lo : Nat}, IsS ws oc lo t → ∀ q ∈ qPl t, lo ≤ q := fun t => by
  induction t using QT.ind with
  | h1 x => intro lo h q hq; simp [qPl] at hq
  | h2 p ts ih =>
    intro lo h q hq
    rw [IsS] at h
    obtain ⟨h0, h1, h2, _, h3⟩ := h
    rw [qPl] at hq
    rcases List.mem_cons.mp hq with e | e
    · subst e; exact h0
    · obtain ⟨t, ht, hq2⟩ := qpls_mem.mp e
      have := ih t ht (iss_iff.mp h3 t ht) q hq2
      omega
/-- the product of the widths of places -/
def wpr (ws : List Int) : List Nat → Nat
  | [] => 1
  | p :: ps => wd ws p * wpr ws ps
theorem wpr_pos (hw : WsOk ws) : ∀ ps, 1 ≤ wpr ws ps
  | [] => Nat.le_refl _
  | p :: ps => by rw [wpr]; exact Nat.mul_le_mul (hw.wd1 p).1 (wpr_pos hw ps)
theorem wpr_split (hw : WsOk ws) {p : Nat} : ∀ {ps : List Nat}, ps.Pairwise (· < ·) → p ∈ ps → ∃ b : List Nat, b.Pairwise (· < ·) ∧ (∀ q ∈ ps, p < q → q ∈ b) ∧ wd ws p * wpr ws b ≤ wpr ws ps ∧ b.length + 1 ≤ ps.length
  | x :: ps, hs, hp => by
    rw [List.pairwise_cons] at hs
    rcases List.mem_cons.mp hp with e | e
    · subst e
      refine ⟨ps, hs.2, fun q hq hl => ?_, by rw [wpr]; exact Nat.le_refl _, by rw [List.length_cons]; omega⟩
      rcases List.mem_cons.mp hq with e2 | e2
      · omega
      · exact e2
    · obtain ⟨b, h1, h2, h3, h4⟩ := wpr_split hw hs.2 e
      refine ⟨b, h1, fun q hq hl => ?_, ?_, by rw [List.length_cons]; omega⟩
      · rcases List.mem_cons.mp hq with e2 | e2
        · have := hs.1 p e; omega
        · exact h2 q e2 hl
      · rw [wpr]
        have := (hw.wd1 x).1
        exact Nat.le_trans h3 (Nat.le_mul_of_pos_left _ (by omega))
theorem qpls_bound {k : Nat} : ∀ ts : List QT, (∀ t ∈ ts, (qPl t).length + 1 ≤ k) → (qPl.qPls ts).length + ts.length ≤ ts.length * k
  | [], _ => by simp [qPl.qPls]
  | t :: ts, h => by
    rw [qPl.qPls, List.length_append, List.length_cons, Nat.add_mul, Nat.one_mul]
    have h1 := h t List.mem_cons_self
    have h2 := qpls_bound ts fun s hs => h s (List.mem_cons_of_mem _ hs)
    omega
theorem qdeps_bound {k : Nat} : ∀ ts : List QT, (∀ t ∈ ts, qDep t ≤ k) → qDep.qDeps ts ≤ k
  | [], _ => by rw [qDep.qDeps]; omega
  | t :: ts, h => by
    rw [qDep.qDeps]
    have h1 := h t List.mem_cons_self
    have h2 := qdeps_bound ts fun s hs => h s (List.mem_cons_of_mem _ hs)
    omega
end
theorem qpls_take : ∀ (ts : List QT) (k : Nat), (qPl.qPls (ts.take k)).length ≤ (qPl.qPls ts).length
  | [], k => by rw [List.take_nil]; exact Nat.le_refl _
  | t :: ts, 0 => by rw [List.take_zero]; exact Nat.zero_le _
  | t :: ts, k + 1 => by
    rw [List.take_succ_cons, qPl.qPls, qPl.qPls, List.length_append, List.length_append]
    have := qpls_take ts k
    omega
def nI (l : List Nat) : List D := l.map fun (n : Nat) => D.int (n : Int)
theorem nI_len (l : List Nat) : (nI l).length = l.length := by unfold nI; rw [List.length_map]
theorem nI_get {l : List Nat} {i : Nat} {d : D} (h : (nI l)[i]? = some d) : ∃ hi : i < l.length, d = .int ((l[i] : Nat) : Int) := by
  unfold nI at h
  rw [List.getElem?_map] at h
  have hi : i < l.length := by
    refine Classical.byContradiction fun z => ?_
    rw [List.getElem?_eq_none (by omega)] at h
    cases h
  rw [List.getElem?_eq_getElem hi] at h
  cases h
  exact ⟨hi, rfl⟩
theorem nI_ints (l : List Nat) : nI l = (l.map fun (n : Nat) => (n : Int)).map D.int := by unfold nI; rw [List.map_map]; rfl
theorem nI_range (l : List Nat) : ((List.range (nI l).length).map fun j => D.int ((l.getD j 0 : Nat) : Int)) = nI l := by
  refine List.ext_getElem (by rw [List.length_map, List.length_range]) fun i h1 h2 => ?_
  have hi : i < l.length := by rw [nI_len] at h2; exact h2
  have e : (nI l)[i]? = some (D.int ((l[i] : Nat) : Int)) := by unfold nI; rw [List.getElem?_map, List.getElem?_eq_getElem hi]; rfl
  rw [List.getElem_map, List.getElem_range, List.getD_eq_getElem?_getD, List.getElem?_eq_getElem hi]
  rw [List.getElem?_eq_getElem h2] at e
  exact (Option.some.inj e).symm
theorem nI_flat (ts : List QT) : ∀ k, k ≤ ts.length → ((List.range k).flatMap fun i => (List.range (nI (qPl (ts.getD i (.tell 0)))).length).map fun j => D.int (((qPl (ts.getD i (.tell 0))).getD j 0 : Nat) : Int)) = nI (qPl.qPls (ts.take k))
  | 0, _ => by rw [List.range_zero, List.take_zero]; rfl
  | k + 1, h => by
    rw [List.range_succ, List.flatMap_append, nI_flat ts k (by omega), List.take_succ, List.getElem?_eq_getElem (by omega), List.flatMap_cons, List.flatMap_nil, nI_range, qpls_flat, qpls_flat]
    unfold nI
    rw [Option.toList_some, List.flatMap_append, List.flatMap_cons, List.flatMap_nil, List.append_nil, List.append_nil, List.map_append, List.getD_eq_getElem?_getD, List.getElem?_eq_getElem (show k < ts.length by omega)]
    rfl
theorem qDs_get {ts : List QT} {i : Nat} {d : D} (h : (qDs ts)[i]? = some d) : ∃ hi : i < ts.length, d = qD ts[i] := by
  rw [qDs_map, List.getElem?_map] at h
  have hi : i < ts.length := by
    refine Classical.byContradiction fun z => ?_
    rw [List.getElem?_eq_none (by omega)] at h
    cases h
  rw [List.getElem?_eq_getElem hi] at h
  cases h
  exact ⟨hi, rfl⟩
section
variable {ws : List Int}
theorem wpr_mono (hw : WsOk ws) : ∀ {ns ps : List Nat}, ns.Pairwise (· < ·) → ps.Pairwise (· < ·) → (∀ q ∈ ns, q ∈ ps) → wpr ws ns ≤ wpr ws ps ∧ ns.length ≤ ps.length
  | [], ps, _, _, _ => ⟨wpr_pos hw ps, Nat.zero_le _⟩
  | n :: ns, ps, h1, h2, h3 => by
    rw [List.pairwise_cons] at h1
    obtain ⟨b, b1, b2, b3, b4⟩ := wpr_split hw h2 (h3 n List.mem_cons_self)
    obtain ⟨c1, c2⟩ := wpr_mono hw h1.2 b1 fun q hq => b2 q (h3 q (List.mem_cons_of_mem _ hq)) (h1.1 q hq)
    rw [wpr, List.length_cons]
    exact ⟨Nat.le_trans (Nat.mul_le_mul_left _ c1) b3, by omega⟩
theorem fold_wpr : ∀ (l : List Nat) (a : Int), (l.map fun (p : Nat) => (wd ws p : Int)).foldl (· * ·) a = a * (wpr ws l : Int)
  | [], a => by rw [wpr]; simp
  | p :: l, a => by
    rw [List.map_cons, List.foldl_cons, fold_wpr l, wpr, Int.natCast_mul, Int.mul_assoc]
theorem prod_wpr (l : List Nat) : prodI (l.map fun (p : Nat) => (wd ws p : Int)) = (wpr ws l : Int) := by
  unfold prodI
  rw [fold_wpr, Int.one_mul]
end
def qO (C : Addr) (t : QT) (ws : List Int) (oc : Nat) : D := .obj C NS_Query [qD t, .tup (ws.map .int), .int (oc : Int)]
/-- the row has options of all places -/
def RFit (ws : List Int) (r : Rw) : Prop := ∀ p, ent r p < (wd ws p : Int)
end LW
set_option Elab.async false
set_option linter.all false
set_option maxRecDepth 100000
namespace LW
open PySem PySem.Spec L2 DW
section
variable {ws : List Int} {oc : Nat}
theorem QOk.pl : ∀ t, QOk ws oc t → ∀ q ∈ qPl t, q < 100 := fun t => by
  induction t using QT.ind with
  | h1 o => intro _ q hq; simp [qPl] at hq
  | h2 p ts ih =>
    intro h q hq
    obtain ⟨hp, hl, hts⟩ := h
    rw [qoks_iff] at hts
    rw [qPl] at hq
    rcases List.mem_cons.mp hq with e | e
    · omega
    · obtain ⟨s, hs, hq2⟩ := qpls_mem.mp e
      exact ih s hs (hts s hs) q hq2
end
/-- the places, each once and ascending -/
def qMs (l : List Nat) : List Nat := (List.range 100).filter fun p => decide (p ∈ l)
theorem qMs_sorted (l : List Nat) : (qMs l).Pairwise (· < ·) := List.Pairwise.filter _ List.pairwise_lt_range
theorem qMs_mem {l : List Nat} (h : ∀ q ∈ l, q < 100) (q : Nat) : q ∈ qMs l ↔ q ∈ l := by
  unfold qMs
  rw [List.mem_filter, List.mem_range, decide_eq_true_eq]
  exact ⟨fun z => z.2, fun z => ⟨h q z, z⟩⟩
/-- the product of widths, in the order of a list -/
def wpl (ws : List Int) (ps : List Nat) : Nat := ps.foldl (fun a p => a * wd ws p) 1
theorem wpl_snoc (ws : List Int) (ps : List Nat) (p : Nat) : wpl ws (ps ++ [p]) = wpl ws ps * wd ws p := by
  unfold wpl
  rw [List.foldl_append, List.foldl_cons, List.foldl_nil]
theorem wpl_wpr0 (ws : List Int) : ∀ (ps : List Nat) (a : Nat), ps.foldl (fun a p => a * wd ws p) a = a * wpr ws ps
  | [], a => by rw [wpr, Nat.mul_one]; rfl
  | p :: ps, a => by rw [List.foldl_cons, wpl_wpr0 ws ps, wpr, Nat.mul_assoc]
theorem wpl_wpr (ws : List Int) (ps : List Nat) : wpl ws ps = wpr ws ps := by unfold wpl; rw [wpl_wpr0, Nat.one_mul]
theorem wpr_perm {ws : List Int} {a b : List Nat} (h : a.Perm b) : wpr ws a = wpr ws b := by
  induction h with
  | nil => rfl
  | cons x _ ih => rw [wpr, wpr, ih]
  | swap x y l => rw [wpr, wpr, wpr, wpr, Nat.mul_left_comm]
  | trans _ _ i1 i2 => rw [i1, i2]
theorem nodup_sub_len : ∀ (a b : List Nat), a.Nodup → (∀ x ∈ a, x ∈ b) → a.length ≤ b.length
  | [], b, _, _ => Nat.zero_le _
  | x :: a, b, nd, h => by
    rw [List.nodup_cons] at nd
    have hx := h x List.mem_cons_self
    have := nodup_sub_len a (b.erase x) nd.2 fun y hy => (List.mem_erase_of_ne (fun e : y = x => nd.1 (by rw [← e]; exact hy))).mpr (h y (List.mem_cons_of_mem _ hy))
    have h2 := List.length_erase_of_mem hx
    have h3 : 0 < b.length := List.length_pos_of_mem hx
    rw [List.length_cons]
    omega
theorem qMs_sub {l b : List Nat} (h : ∀ q ∈ l, q < 100) (hs : ∀ q ∈ l, q ∈ b) : (qMs l).length ≤ b.length :=
  nodup_sub_len _ _ ((qMs_sorted l).imp fun {a b} q => by omega) fun q hq => hs q ((qMs_mem h q).mp hq)
end LW
set_option Elab.async false
set_option linter.all false
set_option maxRecDepth 100000
namespace LW
open PySem PySem.Spec L2 DW PyProof.Rows
def isLet (c : Nat) : Bool := decide (97 ≤ c ∧ c ≤ 122)
def isDig (c : Nat) : Bool := decide (48 ≤ c ∧ c ≤ 57)
def runLen (p : Nat → Bool) : Nat → List Nat → Nat
  | 0, _ => 0
  | _ + 1, [] => 0
  | m + 1, c :: l => if p c then runLen p m l + 1 else 0
theorem runLen_le {p} : ∀ {m l}, runLen p m l ≤ m
  | 0, _ => Nat.le_refl _
  | _ + 1, [] => Nat.zero_le _
  | m + 1, c :: l => by unfold runLen; split; exact Nat.succ_le_succ runLen_le; exact Nat.zero_le _
theorem runLen_len {p} : ∀ {m l}, runLen p m l ≤ l.length
  | 0, _ => Nat.zero_le _
  | _ + 1, [] => Nat.zero_le _
  | m + 1, c :: l => by unfold runLen; split; exact Nat.succ_le_succ runLen_len; exact Nat.zero_le _
theorem runLen_all {p : Nat → Bool} : ∀ {m : Nat} {l : List Nat}, ∀ c ∈ l.take (runLen p m l), p c = true
  | 0, _ => by simp [runLen]
  | _ + 1, [] => by simp
  | m + 1, c :: l => by
    unfold runLen
    split
    · rename_i h
      intro x hx
      rw [List.take_succ_cons] at hx
      rcases List.mem_cons.1 hx with rfl | hx
      · exact h
      · exact runLen_all x hx
    · simp
theorem runLen_next {p} : ∀ {m l c l'}, runLen p m l < m → l.drop (runLen p m l) = c :: l' → p c = false
  | 0, _, _, _, h, _ => absurd h (Nat.lt_irrefl _)
  | _ + 1, [], _, _, _, h => by simp at h
  | m + 1, x :: l, c, l', h, e => by
    unfold runLen at h e
    split at h
    · rename_i hx
      rw [if_pos hx] at e
      rw [List.drop_succ_cons] at e
      exact runLen_next (by omega) e
    · rename_i hx
      rw [if_neg hx] at e
      simp only [List.drop_zero, List.cons.injEq] at e
      rw [← e.1]; simpa using hx
/-- the value of a run of digits -/
abbrev decv (l : List Nat) : Nat := NumText.digitsVal l
def S (l : List Nat) : Str := ⟨l.toArray⟩
mutual
inductive Rd : Nat → List Nat → D → List Nat → Prop
  | zero {d l} : Rd d (48 :: l) (.int 0) l
  | word {d l} (h : 0 < runLen isLet 12 l) : Rd d l (.str (S (l.take (runLen isLet 12 l)))) (l.drop (runLen isLet 12 l))
  | num {d l} (h0 : ∀ l', l ≠ 48 :: l') (h1 : runLen isLet 12 l = 0) (h : 0 < runLen isDig 9 l) : Rd d l (.int (decv (l.take (runLen isDig 9 l)))) (l.drop (runLen isDig 9 l))
  | nil {d l} (h : d ≤ 30) : Rd d (40 :: 41 :: l) (.tup []) l
  | tup {d l xs l'} (h : d ≤ 30) (h1 : ∀ l'', l ≠ 41 :: l'') (hi : Its d l xs (41 :: l')) : Rd d (40 :: l) (.tup xs) l'
inductive Its : Nat → List Nat → List D → List Nat → Prop
  | one {d l x l'} (h : Rd (d + 1) l x l') : Its d l [x] l'
  | snoc {d l xs l' x l''} (h : Its d l xs (32 :: l')) (h1 : Rd (d + 1) l' x l'') : Its d l (xs ++ [x]) l''
end
inductive Bad : Nat → List Nat → List Nat → Prop
  | here {d l} (h0 : ∀ l', l ≠ 48 :: l') (h1 : ∀ l', l = 40 :: l' → 30 < d) (h2 : runLen isLet 12 l = 0) (h3 : runLen isDig 9 l = 0) : Bad d l l
  | first {d l l'} (h : d ≤ 30) (h1 : ∀ l'', l ≠ 41 :: l'') (hb : Bad (d + 1) l l') : Bad d (40 :: l) l'
  | item {d l xs l1 l'} (h : d ≤ 30) (h1 : ∀ l'', l ≠ 41 :: l'') (hi : Its d l xs (32 :: l1)) (hb : Bad (d + 1) l1 l') : Bad d (40 :: l) l'
  | sep {d l xs l'} (h : d ≤ 30) (h1 : ∀ l'', l ≠ 41 :: l'') (hi : Its d l xs l') (h2 : ∀ l'', l' ≠ 41 :: l'') (h3 : ∀ l'', l' ≠ 32 :: l'') : Bad d (40 :: l) l'
inductive Kd | item | opn | word | num | zero | done
deriving DecidableEq
structure MS where
  k : Kd
  m : Nat
  d : Nat
def sepN (s : MS) (c : Nat) : Option MS := if 0 < s.d ∧ c = 32 then some ⟨.item, 0, s.d⟩ else if 0 < s.d ∧ c = 41 then some ⟨.done, 0, s.d - 1⟩ else none
def nx (s : MS) (c : Nat) : Option MS :=
  if s.k = .item ∨ s.k = .opn then
    if isLet c then some ⟨.word, 1, s.d⟩ else if c = 48 then some ⟨.zero, 1, s.d⟩ else if isDig c then some ⟨.num, 1, s.d⟩
    else if c = 40 ∧ s.d < 30 then some ⟨.opn, 0, s.d + 1⟩ else if c = 41 ∧ s.k = .opn then some ⟨.done, 0, s.d - 1⟩ else none
  else if s.k = .word ∧ isLet c ∧ s.m < 12 then some ⟨.word, s.m + 1, s.d⟩
  else if s.k = .num ∧ isDig c ∧ s.m < 9 then some ⟨.num, s.m + 1, s.d⟩
  else sepN s c
def run : MS → List Nat → MS ⊕ List Nat
  | s, [] => .inl s
  | s, c :: l => match nx s c with
    | none => .inr (c :: l)
    | some s' => run s' l
structure Settled (s : MS) (l : List Nat) : Prop where
  k : s.k ≠ .item ∧ s.k ≠ .opn
  n : ∀ c l', l = c :: l' → nx s c = sepN s c
theorem run_step {s s' c l} (h : nx s c = some s') : run s (c :: l) = run s' l := by rw [run, h]
theorem run_word {d} : ∀ {l m}, 1 ≤ m → m ≤ 12 → run ⟨.word, m, d⟩ l = run ⟨.word, m + runLen isLet (12 - m) l, d⟩ (l.drop (runLen isLet (12 - m) l)) := by
  intro l
  induction l with
  | nil => intro m _ _; cases h : 12 - m <;> simp [runLen, run]
  | cons c l ih =>
    intro m h1 h2
    rcases h : 12 - m with _ | k
    · simp [runLen]
    · unfold runLen
      split
      · rename_i hc
        rw [run_step (s' := ⟨.word, m + 1, d⟩) (by unfold nx; simp [hc]; omega), ih (by omega) (by omega)]
        have : 12 - (m + 1) = k := by omega
        rw [this, List.drop_succ_cons, Nat.add_assoc, Nat.add_comm 1]
      · simp
theorem run_num {d} : ∀ {l m}, 1 ≤ m → m ≤ 9 → run ⟨.num, m, d⟩ l = run ⟨.num, m + runLen isDig (9 - m) l, d⟩ (l.drop (runLen isDig (9 - m) l)) := by
  intro l
  induction l with
  | nil => intro m _ _; cases h : 9 - m <;> simp [runLen, run]
  | cons c l ih =>
    intro m h1 h2
    rcases h : 9 - m with _ | k
    · simp [runLen]
    · unfold runLen
      split
      · rename_i hc
        rw [run_step (s' := ⟨.num, m + 1, d⟩) (by unfold nx; simp [hc]; omega), ih (by omega) (by omega)]
        have : 9 - (m + 1) = k := by omega
        rw [this, List.drop_succ_cons, Nat.add_assoc, Nat.add_comm 1]
      · simp
theorem let_dig {c} (h : isLet c = true) : isDig c = false ∧ c ≠ 48 ∧ c ≠ 40 ∧ c ≠ 41 ∧ c ≠ 32 := by
  simp only [isLet, isDig, decide_eq_true_eq, decide_eq_false_iff_not] at *; omega
theorem run_word0 {k m d l} (hk : k = .item ∨ k = .opn) (h : 0 < runLen isLet 12 l) : ∃ s, run ⟨k, m, d⟩ l = run s (l.drop (runLen isLet 12 l)) ∧ Settled s (l.drop (runLen isLet 12 l)) ∧ s.d = d := by
  cases l with
  | nil => simp [runLen] at h
  | cons c l =>
    unfold runLen at h ⊢
    split at h
    · rename_i hc
      simp only [hc, if_true]
      rw [run_step (s' := ⟨.word, 1, d⟩) (by unfold nx; simp [hc, hk]), run_word (by omega) (by omega), List.drop_succ_cons]
      refine ⟨_, rfl, ⟨⟨nofun, nofun⟩, fun x l' e => ?_⟩, rfl⟩
      unfold nx
      simp only [reduceCtorEq, or_self, if_false, false_and, true_and]
      split
      · rename_i hx
        have h2 := runLen_next (p := isLet) (m := 11) (l := l) (by have := hx.2; simp only [show 12 - 1 = 11 from rfl] at this; omega) e
        rw [h2] at hx; exact absurd hx.1 (by decide)
      · rfl
    · exact absurd h (Nat.lt_irrefl _)
theorem run_num0 {k m d l} (hk : k = .item ∨ k = .opn) (h0 : ∀ l', l ≠ 48 :: l') (h1 : runLen isLet 12 l = 0) (h : 0 < runLen isDig 9 l) : ∃ s, run ⟨k, m, d⟩ l = run s (l.drop (runLen isDig 9 l)) ∧ Settled s (l.drop (runLen isDig 9 l)) ∧ s.d = d := by
  cases l with
  | nil => simp [runLen] at h
  | cons c l =>
    have hl : isLet c = false := by
      unfold runLen at h1; split at h1
      · omega
      · rename_i hx; simpa using hx
    have h48 : c ≠ 48 := fun e => h0 l (by rw [e])
    unfold runLen at h ⊢
    split at h
    · rename_i hc
      simp only [hc, if_true]
      rw [run_step (s' := ⟨.num, 1, d⟩) (by unfold nx; simp [hc, hk, hl, h48]), run_num (by omega) (by omega), List.drop_succ_cons]
      refine ⟨_, rfl, ⟨⟨nofun, nofun⟩, fun x l' e => ?_⟩, rfl⟩
      unfold nx
      simp only [reduceCtorEq, or_self, if_false, false_and, true_and]
      split
      · rename_i hx
        have h2 := runLen_next (p := isDig) (m := 8) (l := l) (by have := hx.2; simp only [show 9 - 1 = 8 from rfl] at this; omega) e
        rw [h2] at hx; exact absurd hx.1 (by decide)
      · rfl
    · exact absurd h (Nat.lt_irrefl _)
theorem run_done {s l'} (h : Settled s (41 :: l')) (h0 : 0 < s.d) : run s (41 :: l') = run ⟨.done, 0, s.d - 1⟩ l' :=
  run_step (by rw [h.n 41 l' rfl, sepN, if_neg (by omega), if_pos ⟨h0, rfl⟩])
theorem run_sep {s l'} (h : Settled s (32 :: l')) (h0 : 0 < s.d) : run s (32 :: l') = run ⟨.item, 0, s.d⟩ l' :=
  run_step (by rw [h.n 32 l' rfl, sepN, if_pos ⟨h0, rfl⟩])
theorem settled_done {m d l} : Settled ⟨.done, m, d⟩ l := ⟨⟨nofun, nofun⟩, fun c l' _ => by unfold nx; simp⟩
theorem settled_zero {m d l} : Settled ⟨.zero, m, d⟩ l := ⟨⟨nofun, nofun⟩, fun c l' _ => by unfold nx; simp⟩
theorem run_open {k m d l} (hk : k = .item ∨ k = .opn) (h : d < 30) : run ⟨k, m, d⟩ (40 :: l) = run ⟨.opn, 0, d + 1⟩ l :=
  run_step (by unfold nx; simp [hk, h, isLet, isDig])
mutual
theorem Rd.run : ∀ {e l t l'}, Rd e l t l' → ∀ {d}, e = d + 1 → ∀ {k m}, k = Kd.item ∨ k = Kd.opn → ∃ s, LW.run ⟨k, m, d⟩ l = LW.run s l' ∧ Settled s l' ∧ s.d = d
  | _, _, _, _, .zero, d, he, k, m, hk => ⟨⟨.zero, 1, d⟩, run_step (by unfold nx; simp [hk, isLet]), settled_zero, rfl⟩
  | _, _, _, _, .word h, d, he, k, m, hk => run_word0 hk h
  | _, _, _, _, .num h0 h1 h, d, he, k, m, hk => run_num0 hk h0 h1 h
  | _, _, _, _, .nil (l := l) h, d, he, k, m, hk => ⟨⟨.done, 0, d⟩, by rw [run_open hk (by omega)]; exact run_step (by unfold nx; simp [isLet, isDig]), settled_done, rfl⟩
  | _, _, _, _, .tup h h1 hi, d, he, k, m, hk => by
    obtain ⟨s, h2, h3, h4⟩ := hi.run (by omega) (k := .opn) (m := 0) (.inr rfl)
    exact ⟨⟨.done, 0, d⟩, by rw [run_open hk (by omega), ← he, h2, run_done h3 (by omega), h4, he]; rfl, settled_done, rfl⟩
theorem Its.run : ∀ {e l t l'}, Its e l t l' → 0 < e → ∀ {k m}, k = Kd.item ∨ k = Kd.opn → ∃ s, LW.run ⟨k, m, e⟩ l = LW.run s l' ∧ Settled s l' ∧ s.d = e
  | e, _, _, _, .one h, he, k, m, hk => h.run (d := e) rfl hk
  | e, _, _, _, .snoc h h1, he, k, m, hk => by
    obtain ⟨s, h2, h3, h4⟩ := h.run he hk
    obtain ⟨s', h5, h6, h7⟩ := h1.run (d := e) rfl (k := .item) (m := 0) (.inl rfl)
    exact ⟨s', by rw [h2, run_sep h3 (by omega), h4, h5], h6, h7⟩
end
/-- a bad text stops the machine there, or leaves it unfinished at the end -/
theorem Bad.run : ∀ {e l l'}, Bad e l l' → ∀ {d}, e = d + 1 → ∀ {k m}, (k = Kd.item ∨ k = Kd.opn ∧ ∀ l'', l ≠ 41 :: l'') →
    (l' ≠ [] ∧ LW.run ⟨k, m, d⟩ l = .inr l') ∨ (l' = [] ∧ ∃ s, LW.run ⟨k, m, d⟩ l = .inl s ∧ (0 < s.d ∨ s.k = .item ∨ s.k = .opn)) := by
  intro e l l' h
  induction h with
  | @here e l h0 h1 h2 h3 =>
    intro d he k m hk
    cases l with
    | nil => exact .inr ⟨rfl, _, rfl, .inr (hk.imp_right And.left)⟩
    | cons c l =>
      refine .inl ⟨nofun, ?_⟩
      have a : isLet c = false := by
        unfold runLen at h2; split at h2
        · omega
        · rename_i hx; simpa using hx
      have b : isDig c = false := by
        unfold runLen at h3; split at h3
        · omega
        · rename_i hx; simpa using hx
      have c1 : ¬(c = 40 ∧ d < 30) := fun q => by have := h1 l (by rw [q.1]); omega
      have c2 : c ≠ 48 := fun q => h0 l (by rw [q])
      have c3 : ¬(c = 41 ∧ k = .opn) := fun q => by
        rcases hk with hk | hk
        · rw [hk] at q; exact absurd q.2 nofun
        · exact hk.2 l (by rw [q.1])
      have : nx ⟨k, m, d⟩ c = none := by
        unfold nx
        simp only [hk.imp_right And.left, a, c2, b, if_true, if_false, Bool.false_eq_true]
        rw [if_neg c1, if_neg c3]
      rw [LW.run, this]
  | @first e l l' h h1 hb ih =>
    intro d he k m hk
    rw [run_open (hk.imp_right And.left) (by omega), ← he]
    exact ih (d := e) rfl (.inr ⟨rfl, h1⟩)
  | @item e l xs l1 l' h h1 hi hb ih =>
    intro d he k m hk
    obtain ⟨s, h2, h3, h4⟩ := hi.run (by omega) (k := .opn) (m := 0) (.inr rfl)
    rw [run_open (hk.imp_right And.left) (by omega), ← he, h2, run_sep h3 (by omega), h4]
    exact ih (d := e) rfl (.inl rfl)
  | @sep e l xs l' h h1 hi h2 h3 =>
    intro d he k m hk
    obtain ⟨s, h4, h5, h6⟩ := hi.run (by omega) (k := .opn) (m := 0) (.inr rfl)
    rw [run_open (hk.imp_right And.left) (by omega), ← he, h4]
    cases l' with
    | nil => exact .inr ⟨rfl, s, rfl, .inl (by omega)⟩
    | cons c l' =>
      refine .inl ⟨nofun, ?_⟩
      have e : nx s c = none := by rw [h5.n c l' rfl, sepN, if_neg (fun q => h3 l' (by rw [q.2])), if_neg (fun q => h2 l' (by rw [q.2]))]
      rw [LW.run, e]
end LW
set_option Elab.async false
set_option linter.all false
set_option maxRecDepth 100000
namespace LW
open PySem PySem.Spec L2 DW PyProof.Rows TL
mutual
def txt : D → List Nat
  | .str s => tl s
  | .int i => numL i.toNat
  | .tup l => 40 :: (txts l ++ [41])
  | _ => []
def txts : List D → List Nat
  | [] => []
  | x :: l => txt x ++ txtr l
def txtr : List D → List Nat
  | [] => []
  | x :: l => 32 :: (txt x ++ txtr l)
end
theorem txtr_app : ∀ {l m : List D}, txtr (l ++ m) = txtr l ++ txtr m
  | [], _ => by simp [txtr]
  | x :: l, m => by rw [List.cons_append, txtr, txtr, txtr_app]; simp
theorem txts_snoc {x : D} : ∀ {l : List D}, l ≠ [] → txts (l ++ [x]) = txts l ++ 32 :: txt x
  | [], h => absurd rfl h
  | y :: l, _ => by rw [List.cons_append, txts, txts, txtr_app]; simp [txtr]
/-- terms: k levels of tuples -/
inductive Tm : Nat → D → Prop
  | word {k} {s : Str} (h0 : 0 < (tl s).length) (h1 : (tl s).length ≤ 12) (h : ∀ c ∈ tl s, isLet c = true) : Tm k (.str s)
  | num {k} {i : Int} (h0 : 0 ≤ i) (h1 : i < 1000000000) : Tm k (.int i)
  | tup {k l} (h : ∀ x ∈ l, Tm k x) : Tm (k + 1) (.tup l)
theorem Tm.mono {j k d} (h : Tm j d) (e : j ≤ k) : Tm k d := by
  induction h generalizing k with
  | word h0 h1 h => exact .word h0 h1 h
  | num h0 h1 => exact .num h0 h1
  | @tup j l h ih =>
    obtain ⟨k, rfl⟩ : ∃ k', k = k' + 1 := ⟨k - 1, by omega⟩
    exact .tup fun x hx => ih x hx (by omega)
theorem digsM {l : List Nat} (h : ∀ c ∈ l, isDig c = true) : NumText.AllDigits l := fun c hc => by simpa [isDig] using h c hc
theorem val_snoc {l : List Nat} {c : Nat} : decv (l ++ [c]) = decv l * 10 + (c - 48) := by simp [NumText.digitsVal]
/-- a number without a leading zero, written again -/
theorem val_pos : ∀ {n : Nat} {l : List Nat}, l.length = n → NumText.AllDigits l → l ≠ [] → (∀ l', l ≠ 48 :: l') → 0 < decv l ∧ numL (decv l) = l := by
  intro n
  induction n with
  | zero => intro l hn _ h1 _; exact absurd (List.length_eq_zero_iff.1 hn) h1
  | succ n ih =>
    intro l hn hd h1 h48
    obtain ⟨l, c, rfl⟩ : ∃ l0 c, l = l0 ++ [c] := ⟨l.dropLast, l.getLast h1, (List.dropLast_concat_getLast h1).symm⟩
    have hc : 48 ≤ c ∧ c ≤ 57 := hd c (by simp)
    have hl : NumText.AllDigits l := fun x hx => hd x (by simp [hx])
    by_cases e : l = []
    · subst e
      have : c ≠ 48 := fun e => h48 [] (by rw [e]; rfl)
      have e : decv ([] ++ [c]) = c - 48 := by simp [NumText.digitsVal]
      rw [e, numL_lt (by omega)]
      exact ⟨by omega, by rw [show 48 + (c - 48) = c by omega]; rfl⟩
    · obtain ⟨h2, h3⟩ := ih (by simpa using hn) hl e (fun l' e' => h48 (l' ++ [c]) (by rw [e']; rfl))
      rw [val_snoc]
      refine ⟨by omega, ?_⟩
      rw [numL_step (by omega), show (decv l * 10 + (c - 48)) / 10 = decv l by omega, show 48 + (decv l * 10 + (c - 48)) % 10 = c by omega, h3]
theorem not48_take {l : List Nat} {n : Nat} (h : ∀ l', l ≠ 48 :: l') : ∀ l', l.take n ≠ 48 :: l' := fun l' e => by
  cases l with
  | nil => simp at e
  | cons c l => cases n with
    | zero => simp at e
    | succ n => rw [List.take_succ_cons] at e; exact h l (by rw [(List.cons.inj e).1])
theorem tl_S (l : List Nat) : tl (S l) = l := by simp [tl, S]
theorem S_tl (s : Str) : S (tl s) = s := by simp [tl, S]
mutual
/-- what was read, written -/
theorem Rd.txt : ∀ {d l t l'}, Rd d l t l' → l = LW.txt t ++ l'
  | _, _, _, _, .zero => by rw [LW.txt]; rfl
  | _, _, _, _, .word h => by rw [LW.txt, tl_S, List.take_append_drop]
  | _, _, _, _, .num (l := l) h0 h1 h => by
    rw [LW.txt, Int.toNat_natCast, (val_pos rfl (digsM runLen_all) (fun e => by have := congrArg List.length e; rw [List.length_take, Nat.min_eq_left runLen_len] at this; simp at this; omega) (not48_take h0)).2, List.take_append_drop]
  | _, _, _, _, .nil h => by rw [LW.txt, txts]; rfl
  | _, _, _, _, .tup h h1 hi => by rw [LW.txt, hi.txt.1]; simp
theorem Its.txt : ∀ {d l xs l'}, Its d l xs l' → l = txts xs ++ l' ∧ xs ≠ []
  | _, _, _, _, .one h => ⟨by rw [txts, txtr, List.append_nil]; exact h.txt, by simp⟩
  | _, _, _, _, .snoc h h1 => ⟨by
    rw [txts_snoc h.txt.2, List.append_assoc, List.cons_append, ← h1.txt]; exact h.txt.1, by simp⟩
end
/-- signs that end a word or a number -/
def Stop (r : List Nat) : Prop := ∀ c l, r = c :: l → c = 32 ∨ c = 41
theorem runLen_app {p : Nat → Bool} {r : List Nat} (hr : ∀ c l, r = c :: l → p c = false) : ∀ {s : List Nat} {m}, (∀ c ∈ s, p c = true) → s.length ≤ m → runLen p m (s ++ r) = s.length
  | [], 0, _, _ => rfl
  | [], m + 1, _, _ => by
    cases r with
    | nil => rfl
    | cons c l => rw [List.nil_append, runLen, hr c l rfl]; rfl
  | c :: s, 0, _, h => by simp at h
  | c :: s, m + 1, h, hl => by
    rw [List.cons_append, runLen, if_pos (h c (by simp)), runLen_app hr (fun x hx => h x (by simp [hx])) (by simpa using hl)]
    rfl
theorem stop_let {r} (h : Stop r) : ∀ c l, r = c :: l → isLet c = false := fun c l e => by rcases h c l e with rfl | rfl <;> rfl
theorem stop_dig {r} (h : Stop r) : ∀ c l, r = c :: l → isDig c = false := fun c l e => by rcases h c l e with rfl | rfl <;> rfl
theorem runLen_head {p : Nat → Bool} {c l m} (h : p c = false) : runLen p m (c :: l) = 0 := by
  cases m with
  | zero => rfl
  | succ m => rw [runLen, h]; rfl
/-- how a term's text begins -/
theorem txt_head {k t} (h : Tm k t) : ∃ c l, txt t = c :: l ∧ c ≠ 41 := by
  cases h with
  | @word _ s h0 h1 h =>
    rw [txt]
    cases e : tl s with
    | nil => rw [e] at h0; simp at h0
    | cons c l => exact ⟨c, l, rfl, (let_dig (h c (by rw [e]; simp))).2.2.2.1⟩
  | @num _ i h0 h1 =>
    rw [txt]
    cases e : numL i.toNat with
    | nil => exact absurd e (numL_ne _)
    | cons c l => exact ⟨c, l, rfl, fun e2 => by have := numL_digits i.toNat c (by rw [e]; simp); omega⟩
  | tup h => rw [txt]; exact ⟨_, _, rfl, by decide⟩
theorem num_len {i : Int} (h0 : 0 ≤ i) (h1 : i < 1000000000) : (numL i.toNat).length ≤ 9 := numL_len (by decide) (by omega)
theorem num48 : ∀ {n : Nat} {l}, numL n = 48 :: l → n = 0 ∧ l = [] := by
  intro n
  induction n using Nat.strongRecOn with
  | _ n ih =>
    intro l h
    by_cases h1 : n < 10
    · rw [numL_lt h1] at h
      have := (List.cons.inj h).1
      exact ⟨by omega, (List.cons.inj h).2.symm⟩
    · rw [numL_step (by omega)] at h
      cases e : numL (n / 10) with
      | nil => exact absurd e (numL_ne _)
      | cons c l' =>
        rw [e, List.cons_append] at h
        obtain ⟨h2, _⟩ := ih (n / 10) (by omega) (l := l') (by rw [e, (List.cons.inj h).1])
        omega
theorem dig_let {c} (h : isDig c = true) : isLet c = false := by
  simp only [isLet, isDig, decide_eq_true_eq, decide_eq_false_iff_not] at *; omega
/-- a word, read -/
theorem rd_word {d s r t l'} (h0 : 0 < (tl s).length) (h1 : (tl s).length ≤ 12) (h : ∀ c ∈ tl s, isLet c = true) (hr : Stop r) (q : Rd d (tl s ++ r) t l') : t = .str s ∧ l' = r := by
  have e := runLen_app (stop_let hr) h h1
  have hh : ∀ c l, tl s ++ r = c :: l → isLet c = true := fun c l ee => by
    cases es : tl s with
    | nil => rw [es] at h0; simp at h0
    | cons x y => rw [es, List.cons_append] at ee; exact h c (by rw [es, ← (List.cons.inj ee).1]; simp)
  generalize hL : tl s ++ r = L at q e hh
  cases q with
  | zero => exact absurd (hh 48 _ rfl) (by decide)
  | word h2 => rw [e, ← hL, List.take_left, List.drop_left, S_tl]; exact ⟨rfl, rfl⟩
  | num _ h2 => omega
  | nil => exact absurd (hh 40 _ rfl) (by decide)
  | tup => exact absurd (hh 40 _ rfl) (by decide)
theorem rd_num {d i r t l'} (h0 : 0 ≤ i) (h1 : i < 1000000000) (hr : Stop r) (q : Rd d (numL i.toNat ++ r) t l') : t = .int i ∧ l' = r := by
  have hd : ∀ c ∈ numL i.toNat, isDig c = true := fun c hc => by simpa [isDig] using numL_digits i.toNat c hc
  have e := runLen_app (stop_dig hr) hd (num_len h0 h1)
  have hh : ∀ c l, numL i.toNat ++ r = c :: l → isDig c = true ∧ (c = 48 → i = 0 ∧ l = r) := fun c l ee => by
    cases es : numL i.toNat with
    | nil => exact absurd es (numL_ne _)
    | cons x y =>
      rw [es, List.cons_append] at ee
      obtain ⟨rfl, rfl⟩ := List.cons.inj ee
      refine ⟨hd x (by rw [es]; simp), fun e2 => ?_⟩
      subst e2
      obtain ⟨h2, rfl⟩ := num48 es
      exact ⟨by omega, rfl⟩
  generalize hL : numL i.toNat ++ r = L at q e hh
  cases q with
  | zero => obtain ⟨rfl, h3⟩ := (hh 48 _ rfl).2 rfl; exact ⟨rfl, h3⟩
  | word h2 =>
    cases L with
    | nil => simp [runLen] at h2
    | cons c l => rw [runLen_head (dig_let (hh c l rfl).1)] at h2; omega
  | num _ _ h2 =>
    rw [e, ← hL, List.take_left, List.drop_left, show decv (numL i.toNat) = i.toNat from numL_val _, Int.toNat_of_nonneg h0]; exact ⟨rfl, rfl⟩
  | nil => exact absurd (hh 40 _ rfl).1 (by decide)
  | tup => exact absurd (hh 40 _ rfl).1 (by decide)
theorem stop_txtr {l : List D} {r} : Stop (txtr l ++ 41 :: r) := fun c m e => by
  cases l with
  | nil => rw [txtr, List.nil_append] at e; exact .inr (List.cons.inj e).1.symm
  | cons x l => rw [txtr, List.cons_append] at e; exact .inl (List.cons.inj e).1.symm
/-- items, read: a first part of what was written -/
theorem its_back {d k r} {xs : List D} (hx : ∀ x ∈ xs, Tm k x) (A : ∀ x ∈ xs, ∀ {r t l'}, Stop r → Rd (d + 1) (txt x ++ r) t l' → t = x ∧ l' = r) (hne : xs ≠ []) :
    ∀ {n l ys l'}, ys.length = n → l = txts xs ++ 41 :: r → Its d l ys l' → ∃ n, 0 < n ∧ n ≤ xs.length ∧ ys = xs.take n ∧ l' = txtr (xs.drop n) ++ 41 :: r := by
  intro n
  induction n with
  | zero =>
    intro l ys l' hn _ h
    have := h.txt.2
    exact absurd (List.length_eq_zero_iff.1 hn) this
  | succ n ih =>
    intro l ys l' hn e h
    subst e
    cases h with
    | one h =>
      cases xs with
      | nil => exact absurd rfl hne
      | cons x xs =>
        rw [txts, List.append_assoc] at h
        obtain ⟨rfl, rfl⟩ := A x (by simp) stop_txtr h
        exact ⟨1, by omega, by simp, by simp, by simp⟩
    | snoc h h1 =>
      obtain ⟨m, h2, h3, rfl, h5⟩ := ih (by simpa using hn) rfl h
      cases hd : xs.drop m with
      | nil => rw [hd, txtr] at h5; simp at h5
      | cons x rest =>
        rw [hd, txtr, List.cons_append, List.append_assoc] at h5
        rw [(List.cons.inj h5).2] at h1
        have hm : m < xs.length := by
          rcases Nat.lt_or_ge m xs.length with h6 | h6
          · exact h6
          · rw [List.drop_eq_nil_of_le h6] at hd; simp at hd
        have hx2 : xs[m] = x := by
          have := List.drop_eq_getElem_cons hm
          rw [hd] at this; exact (List.cons.inj this).1.symm
        obtain ⟨rfl, rfl⟩ := A x (by rw [← hx2]; exact List.getElem_mem hm) stop_txtr h1
        refine ⟨m + 1, by omega, hm, ?_, ?_⟩
        · rw [List.take_succ_eq_append_getElem hm, hx2]
        · have := List.drop_eq_getElem_cons hm
          rw [hd] at this
          rw [← (List.cons.inj this).2]
/-- a term's text, read -/
theorem rd_back {k t} (h : Tm k t) : ∀ {d r t' l'}, k + d ≤ 31 → Stop r → Rd d (txt t ++ r) t' l' → t' = t ∧ l' = r := by
  induction h with
  | @word k s h0 h1 h => intro d r t' l' _ hr q; rw [txt] at q; exact rd_word h0 h1 h hr q
  | @num k i h0 h1 => intro d r t' l' _ hr q; rw [txt] at q; exact rd_num h0 h1 hr q
  | @tup k xs h ih =>
    intro d r t' l' hk hr q
    rw [txt, List.cons_append, List.append_assoc] at q
    generalize hL : txts xs ++ ([41] ++ r) = L at q
    generalize hM : 40 :: L = M at q
    cases q with
    | zero => exact absurd (List.cons.inj hM).1 (by decide)
    | word h2 => rw [← hM, runLen_head (by decide)] at h2; omega
    | num _ _ h2 => rw [← hM, runLen_head (by decide)] at h2; omega
    | @nil _ l hd =>
      have e := (List.cons.inj hM).2
      rw [e] at hL
      cases xs with
      | nil => rw [txts] at hL; exact ⟨rfl, (List.cons.inj hL).2.symm⟩
      | cons x xs =>
        obtain ⟨c, m, h3, h4⟩ := txt_head (h x (by simp))
        rw [txts, h3] at hL
        exact absurd (List.cons.inj hL).1 h4
    | @tup _ l ys _ hd h1 hi =>
      have e := (List.cons.inj hM).2
      subst e
      have hne : xs ≠ [] := fun e => h1 r (by rw [← hL, e, txts]; rfl)
      obtain ⟨n, h2, h3, rfl, h5⟩ := its_back (r := r) h (fun x hx _ _ _ h6 h7 => ih x hx (by omega) h6 h7) hne rfl hL.symm hi
      cases hd2 : xs.drop n with
      | nil =>
        rw [hd2, txtr] at h5
        have : xs.length ≤ n := by simpa using hd2
        rw [List.take_of_length_le this]
        exact ⟨rfl, (List.cons.inj h5).2⟩
      | cons x m => rw [hd2, txtr] at h5; exact absurd (List.cons.inj h5).1 (by decide)
theorem bad_back {k t} (h : Tm k t) : ∀ {d r l'}, k + d ≤ 31 → Stop r → ¬Bad d (txt t ++ r) l' := by
  induction h with
  | @word k s h0 h1 h =>
    intro d r l' _ hr q
    rw [txt] at q
    have e := runLen_app (stop_let hr) h h1
    have hh : ∀ c l, tl s ++ r = c :: l → isLet c = true := fun c l ee => by
      cases es : tl s with
      | nil => rw [es] at h0; simp at h0
      | cons x y => rw [es, List.cons_append] at ee; exact h c (by rw [es, ← (List.cons.inj ee).1]; simp)
    generalize hL : tl s ++ r = L at q e hh
    cases q with
    | here _ _ h2 => omega
    | first => exact absurd (hh 40 _ rfl) (by decide)
    | item => exact absurd (hh 40 _ rfl) (by decide)
    | sep => exact absurd (hh 40 _ rfl) (by decide)
  | @num k i h0 h1 =>
    intro d r l' _ hr q
    rw [txt] at q
    have hd : ∀ c ∈ numL i.toNat, isDig c = true := fun c hc => by simpa [isDig] using numL_digits i.toNat c hc
    have e := runLen_app (stop_dig hr) hd (num_len h0 h1)
    have hp : 0 < (numL i.toNat).length := List.length_pos_iff.2 (numL_ne _)
    have hh : ∀ c l, numL i.toNat ++ r = c :: l → isDig c = true := fun c l ee => by
      cases es : numL i.toNat with
      | nil => exact absurd es (numL_ne _)
      | cons x y => rw [es, List.cons_append] at ee; exact hd c (by rw [es, ← (List.cons.inj ee).1]; simp)
    generalize hL : numL i.toNat ++ r = L at q e hh
    cases q with
    | here _ _ _ h2 => omega
    | first => exact absurd (hh 40 _ rfl) (by decide)
    | item => exact absurd (hh 40 _ rfl) (by decide)
    | sep => exact absurd (hh 40 _ rfl) (by decide)
  | @tup k xs h ih =>
    intro d r l' hk hr q
    rw [txt, List.cons_append, List.append_assoc] at q
    generalize hL : txts xs ++ ([41] ++ r) = L at q
    have hB : ∀ {L ys l'}, (∀ l'', L ≠ 41 :: l'') → txts xs ++ ([41] ++ r) = L → Its d L ys l' → ∃ n, 0 < n ∧ n ≤ xs.length ∧ ys = xs.take n ∧ l' = txtr (xs.drop n) ++ 41 :: r := fun h1 hL hi => by
      have hne : xs ≠ [] := fun e => h1 r (by rw [← hL, e, txts]; rfl)
      exact its_back (r := r) h (fun x hx _ _ _ h6 h7 => rd_back (h x hx) (by omega) h6 h7) hne rfl hL.symm hi
    cases q with
    | here _ h2 => have := h2 _ rfl; omega
    | first hd h1 hb =>
      cases xs with
      | nil => rw [txts] at hL; exact h1 _ hL.symm
      | cons x xs =>
        rw [txts, List.append_assoc] at hL
        rw [← hL] at hb
        exact ih x (by simp) (by omega) stop_txtr hb
    | item hd h1 hi hb =>
      obtain ⟨n, h2, h3, rfl, h5⟩ := hB h1 hL hi
      cases hd2 : xs.drop n with
      | nil => rw [hd2, txtr] at h5; exact absurd (List.cons.inj h5).1 (by decide)
      | cons x m =>
        rw [hd2, txtr, List.cons_append, List.append_assoc] at h5
        rw [(List.cons.inj h5).2] at hb
        exact ih x (List.mem_of_mem_drop (by rw [hd2]; simp)) (by omega) stop_txtr hb
    | sep hd h1 hi h6 h7 =>
      obtain ⟨n, h2, h3, rfl, h5⟩ := hB h1 hL hi
      cases hd2 : xs.drop n with
      | nil => rw [hd2, txtr] at h5; exact h6 _ h5
      | cons x m => rw [hd2, txtr, List.cons_append] at h5; exact h7 _ h5
theorem val_lt : ∀ {n : Nat} {l : List Nat}, l.length = n → NumText.AllDigits l → decv l < 10 ^ n := by
  intro n
  induction n with
  | zero => intro l hn _; rw [List.length_eq_zero_iff.1 hn]; decide
  | succ n ih =>
    intro l hn hd
    have h1 : l ≠ [] := fun e => by rw [e] at hn; simp at hn
    obtain ⟨l, c, rfl⟩ : ∃ l0 c, l = l0 ++ [c] := ⟨l.dropLast, l.getLast h1, (List.dropLast_concat_getLast h1).symm⟩
    have hc : 48 ≤ c ∧ c ≤ 57 := hd c (by simp)
    have := ih (l := l) (by simpa using hn) (fun x hx => hd x (by simp [hx]))
    rw [val_snoc, Nat.pow_succ]
    omega
mutual
/-- what was read is a term -/
theorem Rd.tm : ∀ {d l t l'}, Rd d l t l' → d ≤ 31 → Tm (31 - d) t
  | _, _, _, _, .zero, _ => .num (by decide) (by decide)
  | _, _, _, _, .word h, _ => .word (by rw [tl_S, List.length_take, Nat.min_eq_left runLen_len]; exact h) (by rw [tl_S, List.length_take]; exact Nat.le_trans (Nat.min_le_left ..) runLen_le) (by rw [tl_S]; exact runLen_all)
  | _, _, _, _, .num (l := l) h0 h1 h, _ => .num (by omega) (by
    have h2 := val_lt rfl (digsM (runLen_all (p := isDig) (m := 9) (l := l)))
    have h3 : (l.take (runLen isDig 9 l)).length ≤ 9 := by rw [List.length_take]; exact Nat.le_trans (Nat.min_le_left ..) runLen_le
    have h4 : 10 ^ (l.take (runLen isDig 9 l)).length ≤ 10 ^ 9 := Nat.pow_le_pow_right (by decide) h3
    omega)
  | d, _, _, _, .nil h, _ => by
    rw [show 31 - d = (30 - d) + 1 by omega]; exact .tup (by simp)
  | d, _, _, _, .tup h h1 hi, _ => by
    rw [show 31 - d = (30 - d) + 1 by omega]; exact .tup fun x hx => (hi.tm (by omega) x hx).mono (by omega)
theorem Its.tm : ∀ {d l xs l'}, Its d l xs l' → d ≤ 30 → ∀ x ∈ xs, Tm (30 - d) x
  | _, _, _, _, .one h, hd => fun x hx => by
    rw [List.mem_singleton.1 hx]; exact (h.tm (by omega)).mono (by omega)
  | _, _, _, _, .snoc h h1, hd => fun x hx => by
    rcases List.mem_append.1 hx with hx | hx
    · exact h.tm hd x hx
    · rw [List.mem_singleton.1 hx]; exact (h1.tm (by omega)).mono (by omega)
end
end LW
set_option Elab.async false
set_option linter.all false
set_option maxRecDepth 100000
namespace LW
open PySem PySem.Spec L2 DW PyProof.Rows TL
mutual
/-- the path of the first tuple that is more than k tuples deep -/
def fdp : Nat → D → Option (List Int)
  | 0, .tup _ => some []
  | k + 1, .tup l => fdpl k 0 l
  | _, _ => none
def fdpl : Nat → Int → List D → Option (List Int)
  | _, _, [] => none
  | k, i, x :: l => match fdp k x with
    | some p => some (i :: p)
    | none => fdpl k (i + 1) l
end
theorem fdpl_none {k : Nat} {l : List D} : ∀ {i : Int}, (∀ x ∈ l, fdp k x = none) → fdpl k i l = none := by
  induction l with
  | nil => intro i _; rw [fdpl]
  | cons x l ih => intro i h; rw [fdpl, h x (by simp)]; exact ih fun y hy => h y (by simp [hy])
theorem fdpl_at {k : Nat} {l : List D} : ∀ {i : Int} {j : Nat} {x p}, (∀ m y, m < j → l[m]? = some y → fdp k y = none) → l[j]? = some x → fdp k x = some p → fdpl k i l = some ((i + j) :: p) := by
  induction l with
  | nil => intro i j x p _ h _; simp at h
  | cons y l ih =>
    intro i j x p h hj hp
    cases j with
    | zero =>
      obtain rfl : y = x := by simpa using hj
      rw [fdpl, hp]; simp
    | succ j =>
      rw [fdpl, h 0 y (by omega) rfl]
      show fdpl k (i + 1) l = _
      rw [ih (i := i + 1) (j := j) (fun m z hm hz => h (m + 1) z (by omega) (by simpa using hz)) (by simpa using hj) hp]
      rw [show i + 1 + (j : Int) = i + ((j + 1 : Nat) : Int) by omega]
theorem tl_join_txts : ∀ (l : List D), joinL [32] (l.map txt) = txts l
  | [] => by rw [txts]; rfl
  | [x] => by rw [txts, txtr, List.append_nil]; rfl
  | x :: y :: r => by
    show txt x ++ ([32] ++ joinL [32] ((y :: r).map txt)) = _
    rw [tl_join_txts (y :: r), txts, txts, txtr]; rfl
theorem join_txts (l : List D) : Txt.join " " (l.map fun x => S (txt x)) = S (txts l) := by
  have h : tl (Txt.join " " (l.map fun x => S (txt x))) = txts l := by
    rw [join_eq, tl_join, List.map_map, ← tl_join_txts]
    rfl
  rw [← S_tl (Txt.join " " _), h]
theorem txt_pos {k t} (h : Tm k t) : 0 < (txt t).length := by
  obtain ⟨c, l, e, _⟩ := txt_head h; rw [e]; simp
theorem items_len {k} {l : List D} (h : ∀ x ∈ l, Tm k x) : l.length ≤ (txts l).length := by
  have : ∀ {l : List D}, l.length ≤ (txtr l).length := by
    intro l
    induction l with
    | nil => simp
    | cons x l ih => rw [txtr]; simp; omega
  cases l with
  | nil => simp
  | cons x l =>
    have h1 := txt_pos (h x (by simp))
    have h2 := this (l := l)
    rw [txts]; simp; omega
theorem join_size {k} {l : List D} (h : ∀ x ∈ l, Tm k x) : (l.map fun x => (txt x).length).sum + l.length ≤ (txts l).length + 1 := by
  have e : ∀ {l : List D}, (txtr l).length = (l.map fun x => (txt x).length).sum + l.length := by
    intro l
    induction l with
    | nil => rw [txtr]; rfl
    | cons x l ih => rw [txtr]; simp; omega
  cases l with
  | nil => simp
  | cons x l => rw [txts]; have := e (l := l); simp; omega
theorem item_le : ∀ {l : List D} {x}, x ∈ l → (txt x).length ≤ (txts l).length := by
  have e : ∀ {l : List D} {x}, x ∈ l → (txt x).length ≤ (txtr l).length := by
    intro l
    induction l with
    | nil => intro x h; simp at h
    | cons y l ih =>
      intro x h
      rw [txtr]
      rcases List.mem_cons.1 h with rfl | h
      · simp; omega
      · have := ih h; simp; omega
  intro l x h
  cases l with
  | nil => simp at h
  | cons y l =>
    rw [txts]
    rcases List.mem_cons.1 h with rfl | h
    · simp
    · have := e h; simp; omega
end LW
set_option Elab.async false
set_option linter.all false
set_option maxRecDepth 100000
namespace LW
open PySem PySem.Spec L2 DW PyProof.Rows TL
mutual
/-- what the law compares: plain data -/
def plainD : D → Bool
  | .int _ => true
  | .str _ => true
  | .tup ds => plainDs ds && decide (ds.length ≤ 100000)
  | _ => false
def plainDs : List D → Bool
  | [] => true
  | d :: ds => plainD d && plainDs ds
end
theorem plainDs_of {l : List D} (h : ∀ x ∈ l, plainD x = true) : plainDs l = true := by
  induction l with
  | nil => rfl
  | cons x l ih => rw [plainDs, h x (by simp), ih fun y hy => h y (by simp [hy])]; rfl
theorem plain_tm {k d} (h : Tm k d) : (txt d).length ≤ 100000 → plainD d = true := by
  induction h with
  | word h0 h1 h => intro _; rfl
  | num h0 h1 => intro _; rfl
  | @tup j l h ih =>
    intro hz
    rw [txt] at hz
    have hb : (txts l).length ≤ 100000 := by simp at hz; omega
    have h1 := items_len h
    rw [plainD, plainDs_of fun x hx => ih x hx (Nat.le_trans (item_le hx) hb), decide_eq_true (by omega)]; rfl
mutual
theorem fdp_len : ∀ {k : Nat} {d : D} {p}, fdp k d = some p → p.length ≤ k
  | 0, .tup l, p, h => by rw [fdp] at h; cases h; simp
  | k + 1, .tup l, p, h => by rw [fdp] at h; exact fdpl_len h
  | 0, .int _, _, h => by simp [fdp] at h
  | 0, .str _, _, h => by simp [fdp] at h
  | 0, .non, _, h => by simp [fdp] at h
  | 0, .bl _, _, h => by simp [fdp] at h
  | 0, .lst _, _, h => by simp [fdp] at h
  | 0, .obj _ _ _, _, h => by simp [fdp] at h
  | 0, .hd _, _, h => by simp [fdp] at h
  | 0, .scr _, _, h => by simp [fdp] at h
  | k + 1, .int _, _, h => by simp [fdp] at h
  | k + 1, .str _, _, h => by simp [fdp] at h
  | k + 1, .non, _, h => by simp [fdp] at h
  | k + 1, .bl _, _, h => by simp [fdp] at h
  | k + 1, .lst _, _, h => by simp [fdp] at h
  | k + 1, .obj _ _ _, _, h => by simp [fdp] at h
  | k + 1, .hd _, _, h => by simp [fdp] at h
  | k + 1, .scr _, _, h => by simp [fdp] at h
theorem fdpl_len : ∀ {k : Nat} {l : List D} {i : Int} {p}, fdpl k i l = some p → p.length ≤ k + 1
  | k, [], i, p, h => by rw [fdpl] at h; cases h
  | k, x :: l, i, p, h => by
    rw [fdpl] at h
    cases hx : fdp k x with
    | some q =>
      rw [hx] at h
      cases h
      have := fdp_len hx
      simp; omega
    | none => rw [hx] at h; exact fdpl_len h
end
mutual
theorem fdp_idx : ∀ {k : Nat} {d : D} {p}, plainD d = true → fdp k d = some p → ∀ i ∈ p, 0 ≤ i ∧ i < (100000 : Int)
  | 0, .tup l, p, _, h => by rw [fdp] at h; cases h; simp
  | k + 1, .tup l, p, hp, h => by
    rw [fdp] at h
    simp [plainD] at hp
    exact fdpl_idx (n := 0) hp.1 (by omega) h
  | 0, .int _, _, _, h => by simp [fdp] at h
  | 0, .str _, _, _, h => by simp [fdp] at h
  | 0, .non, _, _, h => by simp [fdp] at h
  | 0, .bl _, _, _, h => by simp [fdp] at h
  | 0, .lst _, _, _, h => by simp [fdp] at h
  | 0, .obj _ _ _, _, _, h => by simp [fdp] at h
  | 0, .hd _, _, _, h => by simp [fdp] at h
  | 0, .scr _, _, _, h => by simp [fdp] at h
  | k + 1, .int _, _, _, h => by simp [fdp] at h
  | k + 1, .str _, _, _, h => by simp [fdp] at h
  | k + 1, .non, _, _, h => by simp [fdp] at h
  | k + 1, .bl _, _, _, h => by simp [fdp] at h
  | k + 1, .lst _, _, _, h => by simp [fdp] at h
  | k + 1, .obj _ _ _, _, _, h => by simp [fdp] at h
  | k + 1, .hd _, _, _, h => by simp [fdp] at h
  | k + 1, .scr _, _, _, h => by simp [fdp] at h
theorem fdpl_idx : ∀ {k : Nat} {l : List D} {n : Nat} {p}, plainDs l = true → l.length + n ≤ 100000 → fdpl k n l = some p → ∀ i ∈ p, 0 ≤ i ∧ i < (100000 : Int)
  | k, [], n, p, _, _, h => by rw [fdpl] at h; cases h
  | k, x :: l, n, p, hp, hn, h => by
    rw [fdpl] at h
    simp [plainDs] at hp
    simp at hn
    cases hx : fdp k x with
    | some q =>
      rw [hx] at h
      cases h
      intro i hi
      rcases List.mem_cons.1 hi with rfl | hi
      · omega
      · exact fdp_idx hp.1 hx i hi
    | none =>
      rw [hx] at h
      have h : fdpl k ((n + 1 : Nat) : Int) l = some p := by rw [show ((n + 1 : Nat) : Int) = (n : Int) + 1 by omega]; exact h
      exact fdpl_idx (n := n + 1) hp.2 (by omega) h
end
theorem S_inj {l m : List Nat} : S l = S m ↔ l = m := ⟨fun h => by rw [← tl_S l, h, tl_S], fun h => by rw [h]⟩
theorem cutS_ab (t : Str) {a b : Nat} (h : a ≤ b) : cutS t (some (a : Int)) (some (b : Int)) = S (((tl t).drop a).take (b - a)) := by
  unfold cutS
  rw [HT.sIx_nat, HT.sIx_nat]
  show S _ = S _
  congr 1
  show List.take (min b (tl t).length - min a (tl t).length) (List.drop (min a (tl t).length) (tl t)) = _
  by_cases h1 : a ≤ (tl t).length
  · rw [Nat.min_eq_left h1]
    by_cases h2 : b ≤ (tl t).length
    · rw [Nat.min_eq_left h2]
    · rw [Nat.min_eq_right (a := b) (by omega), List.take_of_length_le (by rw [List.length_drop]; omega), List.take_of_length_le (by rw [List.length_drop]; omega)]
  · rw [Nat.min_eq_right (a := a) (by omega), List.drop_of_length_le (Nat.le_refl _), List.drop_of_length_le (i := a) (by omega)]; simp
theorem cutS_1 (t : Str) (a : Nat) : cutS t (some (a : Int)) (some ((a : Int) + 1)) = S (((tl t).drop a).take 1) := by
  have := cutS_ab t (a := a) (b := a + 1) (by omega)
  rw [show a + 1 - a = 1 by omega] at this
  exact this
theorem take1 {c : Nat} {L : List Nat} : S (L.take 1) = S [c] ↔ ∃ l', L = c :: l' := by
  rw [S_inj]
  cases L with
  | nil => simp
  | cons x l => simp
theorem o_open : Str.ofString "(" = S [40] := by decide +kernel
theorem o_close : Str.ofString ")" = S [41] := by decide +kernel
theorem o_zero : Str.ofString "0" = S [48] := by decide +kernel
theorem o_space : Str.ofString " " = S [32] := by decide +kernel
theorem in_let : (fun c => decide (c ∈ (Str.ofString "abcdefghijklmnopqrstuvwxyz").cps.toList)) = isLet := by
  have hL : (Str.ofString "abcdefghijklmnopqrstuvwxyz").cps.toList = [97, 98, 99, 100, 101, 102, 103, 104, 105, 106, 107, 108, 109, 110, 111, 112, 113, 114, 115, 116, 117, 118, 119, 120, 121, 122] := by decide +kernel
  funext c
  rw [hL, isLet]
  apply Bool.eq_iff_iff.2
  simp only [List.mem_cons, List.not_mem_nil, or_false, decide_eq_true_eq]
  omega
theorem in_dig : (fun c => decide (c ∈ (Str.ofString "0123456789").cps.toList)) = isDig := by
  have hL : (Str.ofString "0123456789").cps.toList = [48, 49, 50, 51, 52, 53, 54, 55, 56, 57] := by decide +kernel
  funext c
  rw [hL, isDig]
  apply Bool.eq_iff_iff.2
  simp only [List.mem_cons, List.not_mem_nil, or_false, decide_eq_true_eq]
  omega
theorem int_of_digits {l : List Nat} (h : ∀ c ∈ l, isDig c = true) (h1 : l ≠ []) (h2 : l.length ≤ 640) : intText? (S l) = some ((decv l : Nat) : Int) :=
  PySem.intText_digits (x := S l) (by intro c hc; exact digsM h c (by simpa [S] using hc)) (by simpa [S] using h1) (by show (S l).cps.size ≤ _; simp [S]; omega)
theorem S_len (l : List Nat) : (S l).length = l.length := by show (S l).cps.size = _; simp [S]
theorem log_small {i : Nat} (h : i ≤ 100000) : ((i : Int)).natAbs.log2 < 1920 := Nat.lt_of_lt_of_le (PySem.Flt.log2_lt_of (n := (i : Int).natAbs) (by decide : 0 < 100) (by omega)) (by decide)
theorem txts_le {B : Nat} {l : List D} (h : ∀ x ∈ l, (txt x).length ≤ B) : (txts l).length ≤ l.length * B + l.length := by
  have e : ∀ {l : List D}, (∀ x ∈ l, (txt x).length ≤ B) → (txtr l).length ≤ l.length * B + l.length := by
    intro l
    induction l with
    | nil => intro _; rw [txtr]; simp
    | cons x l ih =>
      intro h
      have h1 := h x (by simp)
      have h2 := ih fun y hy => h y (by simp [hy])
      rw [txtr]
      simp only [List.length_cons, List.length_append, Nat.succ_mul]; omega
  cases l with
  | nil => rw [txts]; simp
  | cons x l =>
    have h1 := h x (by simp)
    have h2 := e (l := l) fun y hy => h y (by simp [hy])
    rw [txts]
    simp only [List.length_cons, List.length_append, Nat.succ_mul]; omega
/-- where a text goes wrong -/
def BadT (l : List Nat) (b : Nat) : Prop := Bad 1 l (l.drop b) ∨ (b < l.length ∧ ∃ x, Rd 1 l x (l.drop b))
theorem back_rd {d x : D} (h : Tm 30 d) (q : Rd 1 (txt d) x []) : x = d := by
  have := rd_back h (d := 1) (r := []) (t' := x) (l' := []) (by omega) (fun c l e => by cases e) (by rw [List.append_nil]; exact q)
  exact this.1
theorem back_bad {d : D} {b : Nat} (h : Tm 30 d) (q : BadT (txt d) b) : False := by
  rcases q with q | ⟨hlt, x, q⟩
  · exact bad_back h (d := 1) (r := []) (by omega) (fun c l e => by cases e) (by rw [List.append_nil]; exact q)
  · have := rd_back h (d := 1) (r := []) (t' := x) (l' := (txt d).drop b) (by omega) (fun c l e => by cases e) (by rw [List.append_nil]; exact q)
    have := congrArg List.length this.2
    rw [List.length_drop, List.length_nil] at this; omega
end LW
set_option Elab.async false
set_option linter.all false
set_option maxRecDepth 100000
namespace LW
open PySem PySem.Spec L2 DW PyProof.Rows TL
/-- the text of a tuple: the machine is done at its end -/
structure Whole (T : List Nat) : Prop where
  ex : ∃ l, T = 40 :: l
  run : ∃ s, run ⟨.item, 0, 0⟩ T = .inl s ∧ s.k = .done ∧ s.d = 0
theorem Whole.len {T : List Nat} (h : Whole T) : 0 < T.length := by obtain ⟨⟨l, rfl⟩, _⟩ := h; simp
end LW
set_option Elab.async false
set_option linter.all false
set_option maxRecDepth 100000
set_option maxHeartbeats 4000000
namespace DW
open PySem PySem.Spec PyProof.Rows L2
section layer
variable {X : Cx} {CX : CXT} {k : Nat} {f C : Addr} {fd : FuncData} {ps : List Str} {sp : Sp} {E : L2.St → XK} {x m : Str} {p pos apos : Pos} {e o : Expr} {es : List Expr} {ta : TE} {t : TA} {dvs : List V} {dus : List Value}
theorem pe_methX0 {pl : Sem Bool} (he : PE X o ta) (c : Cls X.K C) (hm : Meth X.K C m f) (F : FnOk X.prog X.w X.K X.mg X.base CX k f fd ps sp) (hr : Room k X.A) (hb : Binds X.K fd ps []) (hx : ∀ σ, PassesAt CX X σ (E σ))
    (ht : eval (.Call (.Attribute o m apos) [] [] pos) X.env = (do
      let ov ← eval o X.env
      standAt apos.atName
      let (f, first) ← holding [ov] (getMethod ov m pl)
      callWith pos f first (backTo pos (starEach [] X.env)) (backToKw pos (keywordEach [] X.env))) := by rfl) :
    PE X (.Call (.Attribute o m apos) [] [] pos) (tMethX C m sp E ta tNil) := by
  refine ⟨fun pins s σ H Q I h => ?_⟩
  refine PySem.W.methodCall_KW (pl := pl) (thn (he.run pins s σ H _ I h) fun u s1 ⟨x, H1, I1, rx, a, dx, fs, ex, ea, l, q⟩ => ?_) ht
  subst ex
  obtain rfl : u = Value.ref a := rx
  refine getmeth_ok I1 ea c hm l ?_
  exact PySem.W.callWith_K0 (first := [.ref a]) I1.kIn hm.kp (run_fnS (us := [.ref a]) (vs := [.ref a]) F hr hb (hx σ) I1 (.cons rfl .nil) q)
end layer
section
variable {K : Fg} {B : Bx K} {ta tb tc : TE} {φ φ' φ'' : DE} {tas : TA} {ψ : DA} {W : WX} {Ψ : XP} {δ : DEnv} {μ : Sto} {Φ : DK}
def dMakeSD (C : Addr) (c : Con) (dds : List D) (ψ : DA) : DE := fun Ψ δ μ Φ => ψ Ψ δ μ fun ds μ1 => ∀ x, μ1 x = none → c (.hd (.ref x) :: (ds ++ dds)) (sset μ1 x (.ins C [] [])) (fun d μ2 => d = .non ∧ ∃ ns es, μ2 x = some (.ins C ns es) ∧ Φ (.obj C ns es) (sdel μ2 x)) (fun y μ2 => Ψ y δ μ2)
theorem u_makeSD {C : Addr} {c : Con} {dds : List D} : dMakeSD C c dds ψ Ψ δ μ Φ = ψ Ψ δ μ fun ds μ1 => ∀ x, μ1 x = none → c (.hd (.ref x) :: (ds ++ dds)) (sset μ1 x (.ins C [] [])) (fun d μ2 => d = .non ∧ ∃ ns es, μ2 x = some (.ins C ns es) ∧ Φ (.obj C ns es) (sdel μ2 x)) (fun y μ2 => Ψ y δ μ2) := rfl
def rngB (hi : Int) (n : Nat) : List D := (List.range n).map fun (i : Nat) => .int (hi - (i : Int))
theorem rngB_len {hi : Int} {n : Nat} : (rngB hi n).length = n := by unfold rngB; rw [List.length_map, List.length_range]
def iR3 (φ φ' φ'' : DE) : DI := fun Ψ δ μ Φ => φ Ψ δ μ fun x μ1 => φ' Ψ δ μ1 fun y μ2 => φ'' Ψ δ μ2 fun z μ3 => ∃ i j, x = .int i ∧ y = .int j ∧ z = .int (-1) ∧ (-4611686018427387904 ≤ i ∧ i < 4611686018427387904 ∧ -4611686018427387904 ≤ j ∧ j < 4611686018427387904) ∧ Φ (rngB i (i - j).toNat) μ3
theorem u_iR3 {Ls : List D → Sto → Prop} : iR3 φ φ' φ'' Ψ δ μ Ls = φ Ψ δ μ fun x μ1 => φ' Ψ δ μ1 fun y μ2 => φ'' Ψ δ μ2 fun z μ3 => ∃ i j, x = .int i ∧ y = .int j ∧ z = .int (-1) ∧ (-4611686018427387904 ≤ i ∧ i < 4611686018427387904 ∧ -4611686018427387904 ≤ j ∧ j < 4611686018427387904) ∧ Ls (rngB i (i - j).toNat) μ3 := rfl
end
/-- THE RULE for a def with defaults -/
theorem def_okD {CX : CXT} {P : Program} {w : World} {K : Fg} {mg : Str → Option Value} {base : Heap} {x qual : Str} {st : Stmt} {f : Addr} {fd : FuncData} {N ps : List Str} {dvs : List V} {kws : List (Str × V)} {k : Nat} {c : Con} (F : FunD K x qual (defArgs st) (defBody st) (defScope st) dvs kws f fd) (Sc : FnScope N ps (defScope st)) (φ : DSt)
    (hl : ∀ ds μ Φ Ψ, c ds μ Φ Ψ → ds.length = ps.length)
    (hb : ∀ (cdv : Value) (A : Around) (outer : List Env) (s : Shared) (H : Hp) (E : XK) (B : Bx K), B.W = (fun cls d _ H => E cls d H) → Room k (A.deeper (PyProof.Rows.envOfC qual (defScope st) s.heap.objs.size f cdv)) →
      ∃ t, PSs (cxOf CX P w K mg base N qual (defScope st) f cdv A outer s H E) (defBody st) t ∧ SS B t φ)
    (hv : ∀ ds μ Φ Ψ, c ds μ Φ Ψ → φ (goalX Ψ) (goalE Φ) (dstart N ds) μ) : FnOk P w K mg base CX (k + 1) f fd ps (spOf K c) := by
  refine F.ok Sc (fun vs H Q E h => ?_) (fun cdv A outer s H vs Q E hr h => ?_)
  · obtain ⟨μ, ds, Φ, Ψ, _, r, hc, _⟩ := h
    rw [r.length]
    exact hl ds μ Φ Ψ hc
  · obtain ⟨μ, ds, Φ, Ψ, s0, r, hc, hq, hx⟩ := h
    let B : Bx K := ⟨H, μ, fun cls d _ H => E cls d H, goalX Ψ, fun cls dd σ H' x δ μ' S rx ⟨μ2, hs, q⟩ => hx cls dd H' x μ2 (S.evo.trans hs.evo) (hs.sto S.sto) (rx.mono hs.evo) q⟩
    obtain ⟨t, ht, hs⟩ := hb cdv A outer s H E B rfl hr
    refine ⟨t, ht, hs { nx := fun _ H' => Q .non H', rt := Q } (goalE Φ) (L2.start N vs) H (dstart N ds) μ ⟨fun σ H' δ μ' S ⟨μ2, h2, q⟩ => ?_, fun v H' d μ' σ δ S rv ⟨μ2, h2, q⟩ => ?_, fun _ _ _ _ _ z => z, fun _ _ _ _ _ z => z⟩ ⟨.refl, s0, env_start r⟩ (hv ds μ Φ Ψ hc)⟩
    · exact hq .non H' .non μ2 (S.evo.trans h2.evo) (h2.sto S.sto) (.non .nil) q
    · exact hq v H' d μ2 (S.evo.trans h2.evo) (h2.sto S.sto) (rv.mono h2.evo) q
theorem binds_full {K : Fg} {fd : FuncData} {ps : List Str} (h : ∃ us, Vals [] us ∧ Binds K fd ps us) : Binds K fd ps [] := by
  obtain ⟨us, r, b⟩ := h
  cases r
  exact b
section
variable {K : Fg} {B : Bx K} {ta tb : TE} {φ φ2 : DE} {Ψ : XP} {δ : DEnv} {μ : Sto} {Φ : DK}
def dGetXN (C : Addr) (NS : List Str) (c : Con) (φ φ2 : DE) : DE := fun Ψ δ μ Φ => φ Ψ δ μ fun x μ1 => φ2 Ψ δ μ1 fun y μ2 => ∃ es, x = .obj C NS es ∧ c [x, y] μ2 Φ fun _ _ => False
theorem u_getXN {C : Addr} {NS : List Str} {c : Con} : dGetXN C NS c φ φ2 Ψ δ μ Φ = φ Ψ δ μ fun x μ1 => φ2 Ψ δ μ1 fun y μ2 => ∃ es, x = .obj C NS es ∧ c [x, y] μ2 Φ fun _ _ => False := rfl
end
section
variable {K : Fg} {B : Bx K} {tas : TA} {ψ : DA} {Ψ : XP} {Δ : DEnds} {δ : DEnv} {μ : Sto}
def dPar (i j : Nat) (ψ : DA) : DSt := fun Ψ Δ δ μ => ψ Ψ δ μ fun xs μ1 => ∃ v w, xs = [v, w] ∧ Δ.nx ((δ.set i (some v)).set j (some w)) μ1
theorem u_par {i j : Nat} : dPar i j ψ Ψ Δ δ μ = ψ Ψ δ μ fun xs μ1 => ∃ v w, xs = [v, w] ∧ Δ.nx ((δ.set i (some v)).set j (some w)) μ1 := rfl
end
def cIsiO (C : Addr) : DC := fun xs μ Φ => ∃ ns es, xs = [.obj C ns es, .hd (.ref C)] ∧ Φ (.bl true) μ
theorem w_isiO {C : Addr} {ns : List Str} {es : List D} {μ : Sto} {Φ : DK} : cIsiO C [.obj C ns es, .hd (.ref C)] μ Φ = Φ (.bl true) μ := propext ⟨fun ⟨_, _, e, q⟩ => q, fun q => ⟨ns, es, rfl, q⟩⟩
end DW
set_option Elab.async false
set_option linter.all false
set_option maxRecDepth 100000
set_option maxHeartbeats 4000000
namespace DW
open PySem PySem.Spec PyProof.Rows L2
section
variable {K : Fg} {B : Bx K} {ta : TE} {φ : DE} {Ψ : XP} {δ : DEnv} {μ : Sto} {Φ : DK}
def dCVal (n : Int) : DE := fun _ _ μ Φ => Φ (.int n) μ
theorem sCVal {C : Addr} {mc : Value} {f : Str} {n : Int} (r : ClX.CRead K C mc) (c : ∃ t, ClX.CVal K C mc f (.int n) (.int n t)) (_a : SE B (tC (.ref C)) (dC (.hd (.ref C)))) : SE B (ClX.tCVal K (tC (.ref C)) f) (dCVal n) := fun σ H δ μ Φ Q S q k => by
  obtain ⟨t, h⟩ := c
  exact ⟨C, mc, .int n, _, rfl, r, h, sInt σ H δ μ Φ Q S q k⟩
theorem u_cval {n : Int} : dCVal n Ψ δ μ Φ = Φ (.int n) μ := rfl
end
/-- enumerate(t, start=e2), e2 a constant by name -/
theorem pi_enumTg {X : Cx} {e e2 : Expr} {ta : TA} {p kp pos tpos : Pos} {kk : Nat} {n : Int} {elts : List Expr} (hg : Gl X "enumerate") (hm : X.mg "enumerate" = none) (he : PE X e2 (tC (.int n))) (ha : PA X [e] ta) (h0 : -(2 ^ 63) ≤ n) (h1 : n < 2 ^ 63)
    (hs : starEach [e] X.env = [(false, eval e X.env)] := by rfl) :
    PI X (.Tuple elts kk tpos) (.Call (.Name "enumerate" p) [e] [⟨some "start", e2, kp⟩] pos) (iEnumT X.K n ta) := by
  refine ⟨fun pins s σ H R I h => ?_⟩
  refine wpAny_Call_Name_kw (ld_blt I hg hm boot_enumerate ?_)
  have A := ha.run pos pins s σ H _ I h
  rw [hs] at A ⊢
  refine callWith_tyKw rfl rfl rfl (thn A fun us s1 ⟨vs, H1, I1, r1, q1⟩ => kws_cons ?_)
  obtain ⟨a, xs, rfl, hq, q⟩ := q1
  rw [Vals.ref1 r1]
  obtain ⟨its, rv, p', hz⟩ := I1.tuple hq
  refine thn (he.run pins s1 σ H1 (fun v H2 => v = .int n ∧ H2 = H1) I1 ⟨rfl, rfl⟩) fun u s2 ⟨v, H2, I2, r2, ev, eh⟩ => kws_nil ?_
  subst ev
  rw [eh] at I2
  obtain ⟨t, rfl⟩ := r2
  obtain ⟨its2, rv2, p2', hz2⟩ := I2.tuple hq
  exact enum_begins_start (begins_tuple a its2.toArray) p2' h0 h1 fun h' he ho hsz hk => wpAny_pyIter_enum he (pie_enumT I2 hq he ho hk q)
end DW
set_option Elab.async false
set_option linter.all false
set_option maxRecDepth 100000
set_option maxHeartbeats 4000000
namespace DW
open PySem PySem.Spec PyProof.Rows L2
section
variable {K : Fg} {B : Bx K} {te : TE} {φ : DE} {Ψ : XP} {δ : DEnv} {μ : Sto}
def cRng1 : DC := fun xs μ Φ => ∃ j, xs = [.int j] ∧ ∀ p, μ p = none → Φ (.hd (.ref p)) (sset μ p (.rng 0 j))
def iRngD (φ : DE) : DI := fun Ψ δ μ Φ => φ Ψ δ μ fun x μ1 => ∃ a lo hi, x = .hd (.ref a) ∧ μ1 a = some (.rng lo hi) ∧ (-4611686018427387904 ≤ lo ∧ lo < 4611686018427387904 ∧ -4611686018427387904 ≤ hi ∧ hi < 4611686018427387904) ∧ Φ (rngD lo (hi - lo).toNat) μ1
variable {Φ : DK} {R : List D → Sto → Prop}
theorem v_rng1 {x : D} : cRng1 [x] μ Φ = ∃ j, x = .int j ∧ ∀ p, μ p = none → Φ (.hd (.ref p)) (sset μ p (.rng 0 j)) := propext ⟨fun ⟨j, e, q⟩ => by cases e; exact ⟨j, rfl, q⟩, fun ⟨j, e, q⟩ => ⟨j, by rw [e], q⟩⟩
theorem u_rngV : iRngD φ Ψ δ μ R = φ Ψ δ μ fun x μ1 => ∃ a lo hi, x = .hd (.ref a) ∧ μ1 a = some (.rng lo hi) ∧ (-4611686018427387904 ≤ lo ∧ lo < 4611686018427387904 ∧ -4611686018427387904 ≤ hi ∧ hi < 4611686018427387904) ∧ R (rngD lo (hi - lo).toNat) μ1 := rfl
theorem w_rngE {a b : Int} {c d : Int} : (some (Cell.rng a b) = some (Cell.rng c d)) = (a = c ∧ b = d) := propext ⟨fun e => by cases e; exact ⟨rfl, rfl⟩, fun ⟨h, k⟩ => by rw [h, k]⟩
end
end DW
set_option Elab.async false
set_option linter.all false
set_option maxRecDepth 100000
set_option maxHeartbeats 4000000
namespace DW
open PySem PySem.Spec PyProof.Rows L2
structure SMet (K : PySem.W.Frag) (C : Addr) (mc : Value) (m : Str) (p g : Addr) : Prop where
  at_ : PySem.W.findCls K (.ref C) mc m = some (.get (.builtin "staticmethod.__get__") (.ref p) .none (.ref C))
  rc : ∃ rest, PySem.W.recIn K p "staticmethod" = some (.ref g :: rest)
  kp : PySem.W.keepIn K (.ref g) = true
  ty : PySem.W.typeIn K (.ref C) = some mc
section layer
variable {X : Cx} {CX : CXT} {k : Nat} {f C : Addr} {fd : FuncData} {ps : List Str} {sp : Sp} {E : L2.St → XK} {x m : Str} {p pos apos : Pos} {e o : Expr} {es : List Expr} {ta : TE} {t : TA}
theorem pe_smeth {pl : Sem Bool} {pa : Addr} {mc : Value} (he : PE X o (tC (.ref C))) (cr : ClX.CRead X.K C mc) (sm : SMet X.K C mc m pa f) (F : FnOk X.prog X.w X.K X.mg X.base CX k f fd ps sp) (hr : Room k X.A) (hb : Binds X.K fd ps []) (hx : ∀ σ, PassesAt CX X σ (E σ)) (ha : PA X (e :: es) t)
    (hst : starEach (e :: es) X.env = (false, eval e X.env) :: starEach es X.env := by rfl) (hpl : (backTo pos (starEach es X.env)).any (·.1) = false := by rfl)
    (ht : eval (.Call (.Attribute o m apos) (e :: es) [] pos) X.env = (do
      let ov ← eval o X.env
      standAt apos.atName
      let (f, first) ← holding [ov] (getMethod ov m pl)
      callWith pos f first (backTo pos (starEach (e :: es) X.env)) (backToKw pos (keywordEach [] X.env))) := by rfl) :
    PE X (.Call (.Attribute o m apos) (e :: es) [] pos) (tCallS sp E t) := by
  refine ⟨fun pins s σ H Q I h => ?_⟩
  refine PySem.W.methodCall_KW (pl := pl) (thn (he.run pins s σ H (fun v H1 => v = .ref C ∧ t σ H1 fun vs H2 => sp vs H2 Q (E σ)) I ⟨rfl, h⟩) fun u s1 ⟨x, H1, I1, rx, ex, q⟩ => ?_) ht
  subst ex
  obtain rfl : u = Value.ref C := rx
  obtain ⟨rest, hrc⟩ := sm.rc
  obtain ⟨mm, hfr⟩ := I1.fr
  refine PySem.W.method_cls I1.kIn cr.ga (PySem.W.cls_sm hfr I.ok.mod.kin sm.ty cr.rd sm.at_ hrc rfl ?_)
  have I1 := I1.tok (s1.toks + 1)
  refine PySem.W.callWith_K (first := []) (h₀ := X.base) I.ok.mod.kin sm.kp (thn (ha.run pos pins _ σ H1 _ I1 q) fun us s2 ⟨vs, H2, I2, r, q2⟩ => ⟨I2.kIn, ?_⟩) hst hpl
  exact run_fnS F hr hb (hx σ) I2 r q2
end layer
end DW
set_option Elab.async false
set_option linter.all false
set_option maxRecDepth 100000
set_option maxHeartbeats 4000000
namespace DW
open PySem PySem.Spec PyProof.Rows L2
section
variable {K : Fg} {B : Bx K} {te : TE} {φ : DE} {Ψ : XP} {δ : DEnv} {μ : Sto} {Φ : DK}
def dRestE (φ : DE) : DE := fun Ψ δ μ Φ => φ Ψ δ μ fun x μ1 => ∃ a ds, x = .hd (.ref a) ∧ μ1 a = some (.lst ds) ∧ Φ (.lst ds) (sset μ1 a (.frz ds))
theorem u_restE : dRestE φ Ψ δ μ Φ = φ Ψ δ μ fun x μ1 => ∃ a ds, x = .hd (.ref a) ∧ μ1 a = some (.lst ds) ∧ Φ (.lst ds) (sset μ1 a (.frz ds)) := rfl
end
end DW
set_option Elab.async false
set_option linter.all false
set_option maxRecDepth 100000
set_option maxHeartbeats 4000000
namespace DW
open PySem PySem.Spec PyProof.Rows L2
section
variable {K : Fg} {B : Bx K} {ta te : TE} {tas : TA} {Ψ : XP} {δ : DEnv} {μ : Sto} {Φ : DK}
theorem sset_sdel {μ : Sto} {p : Addr} {c : Cell} (h : μ p = some c) : sset (sdel μ p) p c = μ := by
  funext b
  by_cases e : b = p
  · rw [e, sset_same, h]
  · rw [sset_ne e]; unfold sdel; rw [if_neg e]
/-- what is wanted of a list that is one's own -/
def ownK (Φ : DK) : DK := fun d μ' => ∃ acc, d = .lst acc ∧ ∀ p, μ' p = none → Φ (.hd (.ref p)) (sset μ' p (.lst acc))
def dLcO (ι : DI) (γ : DG) (θ : DT) (φ : DE) (vs : List Nat) : DE := fun Ψ δ μ Φ => dLc ι γ θ φ vs Ψ δ μ (ownK Φ)
theorem sLcO {wi : TI} {g : TG} {tt : TT} {te : TE} {vs : List Nat} {ι : DI} {γ : DG} {θ : DT} {φ : DE} (a : SI B wi ι) (w : GW vs g) (b : ∀ H1 μ1 e, SG (B.re H1 μ1 e) g γ) (c : ∀ H1 μ1 e, ST (B.re H1 μ1 e) tt θ) (d : ∀ H1 μ1 e, SE (B.re H1 μ1 e) te φ) :
    SE B (tLc wi g tt te vs) (dLcO ι γ θ φ vs) := fun σ H δ μ Φ Q S q k =>
  a σ H δ μ _ _ S q fun xs J H1 μ1 S1 e1 it q1 => fun p hp => by
    have hμp : μ1 p = none := S1.sto.fresh hp
    obtain ⟨W, w0, ws, wd⟩ := q1 p hμp
    refine ⟨fun i m H' => m = xs.length - i ∧ i ≤ xs.length ∧ ∃ μ', Evo μ1 H1 μ' H' ∧ StoOk K μ' H' ∧ W i μ', ⟨xs.length, by simp, Nat.zero_le _, _, .newC S1.sto hp, sto_own S1.sto hp .nil, w0⟩, ?_⟩
    rintro i m H' ⟨rfl, hi, μ', e', s', wi'⟩
    by_cases hlt : i < xs.length
    · obtain ⟨hgo, hy⟩ := (it i H' μ' s' e').1 hlt
      refine .inr ⟨hgo, fun H2 => ∃ μ2, Evo μ1 H1 μ2 H2 ∧ StoOk K μ2 H2 ∧ W (i + 1) μ2, fun H2 ⟨μ2, e2, s2, w2⟩ => ⟨xs.length - (i + 1), by omega, rfl, by omega, μ2, e2, s2, w2⟩, fun x H2 y => ?_⟩
      obtain ⟨dd, hd, s2, e2, r2⟩ := hy x H2 y
      have S2 : (B.re H1 μ1 S1.evo).S (L2.wipe σ vs) H2 (dwipe δ vs) μ' := ⟨e'.trans e2, s2, ((S1.env.mono e').mono e2).wipe vs⟩
      refine w x (L2.wipe σ vs) (L2.wipe σ vs) H2 _ wipe_wipe ?_
      refine b H1 μ1 S1.evo x dd (L2.wipe σ vs) H2 (dwipe δ vs) μ' _ _ S2 r2 (ws i dd μ' hd wi') fun σ3 H3 δ3 μ3 S3 e3 q3 => ?_
      refine c H1 μ1 S1.evo σ3 H3 δ3 μ3 _ _ S3 q3 fun b4 H4 μ4 S4 e4 q4 => ?_
      cases b4 with
      | true =>
        rw [if_pos rfl]
        refine d H1 μ1 S1.evo σ3 H4 δ3 μ4 _ _ S4 (q4.1 rfl) fun v5 H5 y5 μ5 S5 e5 r5 q5 => ?_
        obtain ⟨acc, hacc, hz, w5⟩ := q5
        obtain ⟨us, h5, hr5⟩ := S5.sto _ _ hacc
        have e6 : Evo μ5 H5 (sset μ5 p (.lst (acc ++ [y5]))) (upd H5 p (.lst (us ++ [v5]))) := own_evo hacc
        obtain ⟨e7, s7⟩ := own_upd S5.sto hacc ((hr5.append r5).mono e6)
        exact ⟨us, h5, Nat.lt_of_le_of_lt (by rw [hr5.length]; exact hz) (by decide), _, S5.evo.trans e7, s7, w5⟩
      | false =>
        rw [if_neg Bool.false_ne_true]
        exact ⟨μ4, S4.evo, S4.sto, q4.2 rfl⟩
    · have e : i = xs.length := by omega
      subst e
      obtain ⟨acc, hacc, q2⟩ := wd μ' wi'
      obtain ⟨acc', ea, q2⟩ := q2
      cases ea
      refine .inl ⟨(it _ H' μ' s' e').2 (Nat.le_refl _), ?_⟩
      have q3 := q2 p sdel_same
      rw [sset_sdel hacc] at q3
      exact k (.ref p) H' (.hd (.ref p)) μ' (S1.step e' s') (e1.trans e') (.hd _ .nil) q3
theorem u_lcO {ι : DI} {γ : DG} {θ : DT} {φ : DE} {vs : List Nat} : dLcO ι γ θ φ vs Ψ δ μ Φ = ι Ψ δ μ fun xs μ1 => LcG γ θ φ (dwipe δ vs) Ψ xs μ1 (ownK Φ) := rfl
theorem own_k {xs : List D} (h : ∀ p, μ p = none → Φ (.hd (.ref p)) (sset μ p (.lst xs))) : ownK Φ (.lst xs) μ := ⟨xs, rfl, h⟩
end
end DW
set_option Elab.async false
set_option linter.all false
set_option maxRecDepth 100000
set_option maxHeartbeats 4000000
namespace DW
open PySem PySem.Spec PyProof.Rows L2
end DW
set_option Elab.async false
set_option linter.all false
set_option maxRecDepth 100000
set_option maxHeartbeats 4000000
namespace DW
open PySem PySem.Spec PyProof.Rows L2
section
variable {K : Fg} {B : Bx K} {ta : TE} {φ : DE} {Ψ : XP} {δ : DEnv} {μ : Sto} {Th : Bool → Sto → Prop}
def dTruT (φ : DE) : DT := fun Ψ δ μ Φ => φ Ψ δ μ fun x μ1 => ∃ ds, x = .tup ds ∧ Φ (!ds.isEmpty) μ1
theorem u_truT : dTruT φ Ψ δ μ Th = φ Ψ δ μ fun x μ1 => ∃ ds, x = .tup ds ∧ Th (!ds.isEmpty) μ1 := rfl
end
end DW
set_option Elab.async false
set_option linter.all false
set_option maxRecDepth 100000
set_option maxHeartbeats 4000000
namespace DW
open PySem PySem.Spec PyProof.Rows L2
def zip3D : List D → List D → List D → List D
  | x :: xs, y :: ys, z :: zs => .pr [x, y, z] :: zip3D xs ys zs
  | _, _, _ => []
def iZ3 (φ φ' φ'' : DE) : DI := fun Ψ δ μ Φ => φ Ψ δ μ fun x μ1 => φ' Ψ δ μ1 fun y μ2 => φ'' Ψ δ μ2 fun z μ3 => ∃ xs ys zs, x = .tup xs ∧ y = .tup ys ∧ z = .tup zs ∧ Φ (zip3D xs ys zs) μ3
theorem u_iZ3 {φ φ' φ'' : DE} {Ψ : XP} {δ : DEnv} {μ : Sto} {Φ : List D → Sto → Prop} : iZ3 φ φ' φ'' Ψ δ μ Φ = φ Ψ δ μ fun x μ1 => φ' Ψ δ μ1 fun y μ2 => φ'' Ψ δ μ2 fun z μ3 => ∃ xs ys zs, x = .tup xs ∧ y = .tup ys ∧ z = .tup zs ∧ Φ (zip3D xs ys zs) μ3 := rfl
theorem w_zip3E {a b c : List D} {P : List D → List D → List D → Prop} : (∃ xs ys zs, D.tup a = .tup xs ∧ D.tup b = .tup ys ∧ D.tup c = .tup zs ∧ P xs ys zs) = P a b c := propext ⟨fun ⟨_, _, _, e1, e2, e3, q⟩ => by cases e1; cases e2; cases e3; exact q, fun q => ⟨_, _, _, rfl, rfl, rfl, q⟩⟩
end DW
set_option Elab.async false
set_option linter.all false
set_option maxRecDepth 100000
set_option maxHeartbeats 4000000
namespace DW
open PySem PySem.Spec PyProof.Rows L2
section
variable {K : Fg} {B : Bx K}
/-- the classes of a display, all of them own -/
def kitA (K : Fg) : XD → List Addr → Option Bool
  | .mk C _, cs => PySem.W.kitAny K (.ref C) (cs.map Value.ref)
def dIsET (K : Fg) (a : Addr) (x : XD) (ψ : DA) : DE := fun Ψ δ μ Φ => ψ Ψ δ μ fun xs μ1 => ∃ (cs : List Addr) (b : Bool), xs = [.hd (.ref a), .tup (cs.map fun c => .hd (.ref c))] ∧ kitA K x cs = some b ∧ excE K x ∧ Φ (.bl b) μ1
end
section
variable {K : Fg} {Ψ : XP} {δ : DEnv} {μ : Sto} {Φ : DK}
theorem u_isET {a : Addr} {x : XD} {ψ : DA} : dIsET K a x ψ Ψ δ μ Φ = ψ Ψ δ μ fun xs μ1 => ∃ (cs : List Addr) (b : Bool), xs = [.hd (.ref a), .tup (cs.map fun c => .hd (.ref c))] ∧ kitA K x cs = some b ∧ excE K x ∧ Φ (.bl b) μ1 := rfl
theorem hds_inj {es cs : List Addr} (e : es.map (fun c => D.hd (.ref c)) = cs.map fun c => D.hd (.ref c)) : es = cs :=
  (List.map_inj_right (fun _ _ z => by cases z; rfl)).mp e
theorem w_isETg {a : Addr} {es : List Addr} {P : List Addr → Bool → Prop} : (∃ (cs : List Addr) (b : Bool), [D.hd (.ref a), D.tup (es.map fun c => .hd (.ref c))] = [.hd (.ref a), .tup (cs.map fun c => .hd (.ref c))] ∧ P cs b) = ∃ b, P es b := propext ⟨fun ⟨cs, b, e, q⟩ => by
  injection e with _ e
  injection e with e _
  injection e with e
  rw [hds_inj e]; exact ⟨b, q⟩, fun ⟨b, q⟩ => ⟨es, b, rfl, q⟩⟩
theorem w_isET2 {a c1 c2 : Addr} {P : List Addr → Bool → Prop} : (∃ (cs : List Addr) (b : Bool), [D.hd (.ref a), D.tup [.hd (.ref c1), .hd (.ref c2)]] = [.hd (.ref a), .tup (cs.map fun c => .hd (.ref c))] ∧ P cs b) = ∃ b, P [c1, c2] b := w_isETg (es := [c1, c2])
theorem w_isET3 {a c1 c2 c3 : Addr} {P : List Addr → Bool → Prop} : (∃ (cs : List Addr) (b : Bool), [D.hd (.ref a), D.tup [.hd (.ref c1), .hd (.ref c2), .hd (.ref c3)]] = [.hd (.ref a), .tup (cs.map fun c => .hd (.ref c))] ∧ P cs b) = ∃ b, P [c1, c2, c3] b := w_isETg (es := [c1, c2, c3])
theorem w_isET4 {a c1 c2 c3 c4 : Addr} {P : List Addr → Bool → Prop} : (∃ (cs : List Addr) (b : Bool), [D.hd (.ref a), D.tup [.hd (.ref c1), .hd (.ref c2), .hd (.ref c3), .hd (.ref c4)]] = [.hd (.ref a), .tup (cs.map fun c => .hd (.ref c))] ∧ P cs b) = ∃ b, P [c1, c2, c3, c4] b := w_isETg (es := [c1, c2, c3, c4])
end
end DW
set_option Elab.async false
set_option linter.all false
set_option maxRecDepth 100000
namespace DW
open PySem PySem.Spec PyProof.Rows L2
end DW
set_option Elab.async false
set_option linter.all false
set_option maxRecDepth 100000
set_option maxHeartbeats 2000000
namespace DW
open PySem PySem.Spec PyProof.Rows L2
abbrev Clause := Value × Nat × (Addr → Value → Option Addr → TS)
/-- what the clauses of a try want of an error, from the first on -/
def wCls (K : PySem.W.Frag) (W : WX) (D : Ends) : List Clause → WX
  | [] => W
  | q :: r => wAs K q.1 q.2.1 q.2.2 (wCls K W D r) D
inductive ClOk (X : Cx) : List ExceptHandler → List Clause → Prop
  | none : ClOk X [] []
  | one {cn en : Str} {kc : Value} {sl : Nat} {run : Addr → Value → Option Addr → TS} {st0 : Stmt} {sts : List Stmt} {po po2 : Pos} {hds : List ExceptHandler} {qs : List Clause}
      (nm : Names X cn kc) (at_ : X.N[sl]? = some en) (lc : X.env.kindOf en = some .local)
      (su : ∀ (x : Addr) (ob : Obj) (kx : Value) (dx : Option Addr) (pl : List (Addr × Obj)), L2N.Zn kx dx ob → (∃ fs, ob.data = .fields fs) → PSs (X.suite x ((x, ob) :: pl)) (st0 :: sts) (run x kx dx))
      (more : ClOk X hds qs) : ClOk X (.ExceptHandler (some (.Name cn po)) (some en) (st0 :: sts) po2 :: hds) ((kc, sl, run) :: qs)
/-- an error that a try has caught, before its clauses are asked -/
structure Caught (X : Cx) (pins : List (Addr × Obj)) (base : Heap) (x : Addr) (kx : Value) (dx : Option Addr) (σ1 : L2.St) (H1 : Hp) (sh : Shared) (up : Heap → Prop) : Prop where
  fly : HandSPX.FlyingZ base (X.env :: X.outer) x (L2N.Zn kx dx) sh.heap
  free : H1 x = none
  notL : x ≠ X.env.locals
  notF : x ∉ X.fs
  inv : ∀ h, HandSPX.FlyingZ base (X.env :: X.outer) x (L2N.Zn kx dx) h → up h → Inv X pins σ1 H1 { sh with heap := h }
  here : up sh.heap
  on : ∀ h h2, up h → h.UpToSlots h2 → up h2
  out : ∀ (W : WX) (h : Heap), W kx dx σ1 H1 → up h → HandSPX.HeldZ base (X.env :: X.outer) x (L2N.Zn kx dx) X.env.locals h → L2N.XE X W (.ref x) { sh with heap := h }
theorem run_clauses {X : Cx} {pins : List (Addr × Obj)} {base : Heap} {x : Addr} {kx : Value} {dx : Option Addr} {σ1 : L2.St} {H1 : Hp} {sh : Shared} {up : Heap → Prop} {D : Ends} {W : WX}
    (ok : X.Ok) (hN : X.N.Nodup) (hfr : X.env.frame = some X.env.locals) (tk : L2N.Takes X W) (C : Caught X pins base x kx dx σ1 H1 sh up) :
    ∀ {hds : List ExceptHandler} {qs : List Clause}, ClOk X hds qs → wCls X.K W D qs kx dx σ1 H1 → wpAny (model X.prog X.w) X.A (handleBy (.ref x) X.env hds) (SP X pins D) X.xe sh := by
  intro hds qs cl
  induction cl with
  | none =>
    intro want
    refine wpAny_handleBy_nil ?_
    obtain ⟨_, _, _, ob, fs, tb, _, _, hob, _, hfs, htb, _⟩ := C.fly
    unfold PySem.passOn
    refine wpAny_bind (wpAny_field hob hfs htb ?_)
    rw [if_neg (by simp)]
    have last : wpAny (model X.prog X.w) X.A (setFlight (.ref x) X.env.frame) (fun _ s9 => wpAny (model X.prog X.w) X.A (throw (.ref x) : Sem Flow) (SP X pins D) X.xe s9) X.xe sh := by
      rw [hfr]
      exact HandSPX.setFlight_upZ C.fly fun h9 held u9 => wpAny_throw (tk _ _ (C.out W h9 want (C.on _ _ C.here u9) held))
    first
      | exact wpAny_bind (wpAny_pure (wpAny_bind last))
      | exact wpAny_bind last
  | @one cn en kc sl run st0 sts po po2 hds2 qs2 nm at_ lc su more ih =>
    intro want
    obtain ⟨yes, hyes, w1, w0⟩ := want
    have I3 := C.inv sh.heap C.fly C.here
    obtain ⟨ob, fs, hob, hz, hfs⟩ := C.fly.there
    have S3 := I3.suite hob hfs C.free C.notL C.notF
    refine wpAny_handleBy_cons (codeAny_handlers_test ?_) (by intro z; cases z)
    have look : PySem.W.Looks (model X.prog X.w) sh.heap (typeOf (.ref x)) kx := fun _ _ _ _ kp z => wpAny_typeOf_ref (kp _ _ hob) (by rw [hz.1]; exact z)
    have exm := PySem.W.exm_one (M := model X.prog X.w) I3.kIn look hyes
    have named : ∀ {Q E : Value → Shared → Prop}, Q kc sh → wpAny (model X.prog X.w) (X.A.mark (some (.ref x))) (eval (.Name cn po) X.env) Q E sh := fun {Q E} z => by
      rcases nm with ⟨g1, g2, g3 | ⟨g3, g4, g5⟩⟩
      · exact ld_glob (X := X.suite x ((x, ob) :: (X.pn ++ pins))) S3 g1 g3 z g2
      · exact ld_blt (X := X.suite x ((x, ob) :: (X.pn ++ pins))) S3 g1 g3 g4 z g5 g2
    refine named (exm.here ?_)
    cases yes with
    | false => exact ih (w0 rfl)
    | true =>
      refine codeAny_handlers_suite_as ?_
      refine HandSPX.lands_againZ C.fly fun h4 fly4 u4 => ?_
      have I4 := C.inv h4 fly4 (C.on _ _ C.here u4)
      obtain ⟨ob4, fs4, hob4, hz4, hfs4⟩ := fly4.there
      have S4 := I4.suite hob4 hfs4 C.free C.notL C.notF
      refine store_ok (X := X.suite x ((x, ob4) :: (X.pn ++ pins))) (v := .ref x) S4 hN at_ (.inl lc) rfl (fun s5 S5 => ?_) (.inr lc)
      have behind : ∀ {s6 : Shared} {σ6 : L2.St} {H6 : Hp} {Q : Shared → Prop}, Inv (X.suite x ((x, ob4) :: (X.pn ++ pins))) [] σ6 H6 s6 → (∀ s7, Inv X pins (σ6.set sl none) H6 s7 → Q s7) →
          wpAny (model X.prog X.w) X.A (do bindName X.env en .none; unbindBehindTheSuite X.env en po2) (fun _ s7 => Q s7) X.xe s6 := fun S6 z => gone_ok (S6.unsuite ok) hN at_ lc z
      refine wpAny_mono ((su x ob4 kx dx (X.pn ++ pins) hz4 ⟨_, hfs4⟩).run [] s5 _ H1 _ S5 (w1 rfl x C.free)) (fun fl s6 got => ?_) fun _ _ z => z.elim
      cases fl with
      | ret u => obtain ⟨v6, σ6, H6, S6, r6, q6⟩ := got; exact behind S6 fun _ J => ⟨_, _, _, J, r6, q6⟩
      | next => obtain ⟨σ6, H6, S6, q6⟩ := got; exact behind S6 fun _ J => ⟨_, _, J, q6⟩
      | brk => obtain ⟨σ6, H6, S6, q6⟩ := got; exact behind S6 fun _ J => ⟨_, _, J, q6⟩
      | cont => obtain ⟨σ6, H6, S6, q6⟩ := got; exact behind S6 fun _ J => ⟨_, _, J, q6⟩
theorem ps_tryM {X : Cx} {body : List Stmt} {h0 : ExceptHandler} {hds : List ExceptHandler} {qs : List Clause} {pos : Pos} {tb : WX → TS} {W : WX} (hs : X.stack = X.env :: X.outer) (hfr : X.env.frame = some X.env.locals) (hN : X.N.Nodup) (tk : L2N.Takes X W)
    (hb : ∀ (W1 : WX) (pl : List (Addr × Obj)) (xe1 : Value → Shared → Prop), L2N.Takes (X.tr pl xe1) W1 → PassesOwn (model X.prog X.w) X.A X.env xe1 → PSs (X.tr pl xe1) body (tb W1))
    (cl : ClOk X (h0 :: hds) qs) : PS X (.Try body (h0 :: hds) [] [] pos) (fun D σ H => tb (wCls X.K W D qs) D σ H) := by
  constructor
  intro pins s σ H D I want
  have ok := I.ok
  have frs1 : X.A.frames = some (X.env :: X.outer) := by rw [ok.frames, hs]
  refine wpAny_Try_except ?_
  have B := hb (wCls X.K W D qs) (X.pn ++ pins) (fun er sA => wpAny (model X.prog X.w) X.A (noteFrame er X.env) (fun _ sB => wpAny (model X.prog X.w) X.A (setFlight er none) (fun _ sC =>
    wpAny (model X.prog X.w) X.A (handleBy er X.env (h0 :: hds)) (SP X pins D) X.xe sC) X.xe sB) X.xe sA)
  refine wpAny_mono ((B (fun u s1 caught => ?_) PassesOwn.looking).run [] s σ H D (I.toTry _) want) (fun fl s1 got => ?_) fun _ _ z => z
  · obtain ⟨x, base, sI, pins1, σ1, H1, kx, dx, rfl, I1, nb, u1, sky, na, os, ag, w1⟩ := caught
    have J1 : Inv X pins σ1 H1 sI := I1.ofTry ok
    have sky1 : L2.Sky base (X.env :: X.outer) x (L2N.Zn kx dx) X.env.locals s1.heap := by rw [← hs]; exact sky
    show wpAny (model X.prog X.w) X.A (noteFrame (.ref x) X.env) _ _ _
    refine L2N.Sky.land L2N.Zn.steady frs1 hfr sky1 fun h3 fl3 u3 => ?_
    obtain ⟨ob, fs, hob, _, hfs⟩ := fl3.there
    have notIn : x ∉ frs (X.env :: X.outer) := fun hm => by
      obtain ⟨_, ob2, e2, nof⟩ := fl3.2.2.1.mem hm
      rw [hob] at e2; cases e2
      exact nof _ hfs
    refine run_clauses (sh := { s1 with heap := h3 }) (up := fun h => sI.heap.UpToSlots h) ok hN hfr tk ⟨fl3, na, fun z => notIn (List.mem_filterMap.mpr ⟨X.env, List.mem_cons_self, by rw [hfr, z]⟩), fun hm => ?_, fun h fl u => J1.landed nb fl.1 u os ag, u1.trans u3, fun _ _ a b => a.trans b, fun W1 h want1 u held => ⟨x, base, sI, pins, σ1, H1, kx, dx, rfl, J1, nb, u, .inr (.inr (by rw [hs]; exact held)), na, os, ag, want1⟩⟩ cl w1
    obtain ⟨e, he, z⟩ := List.mem_filterMap.mp hm
    exact notIn (List.mem_filterMap.mpr ⟨e, List.mem_cons_of_mem _ he, z⟩)
  · cases fl with
    | ret u => obtain ⟨v, σ1, H1, I1, r, q⟩ := got; exact ⟨v, σ1, H1, I1.ofTry ok, r, q⟩
    | next => obtain ⟨σ1, H1, I1, q⟩ := got; exact wpAny_execs_nil ⟨σ1, H1, I1.ofTry ok, q⟩
    | brk => obtain ⟨σ1, H1, I1, q⟩ := got; exact ⟨σ1, H1, I1.ofTry ok, q⟩
    | cont => obtain ⟨σ1, H1, I1, q⟩ := got; exact ⟨σ1, H1, I1.ofTry ok, q⟩
end DW
set_option Elab.async false
set_option linter.all false
set_option maxRecDepth 100000
set_option maxHeartbeats 2000000
namespace DW
open PySem PySem.Spec PyProof.Rows L2
abbrev DClause := Value × Nat × (Addr → XD → DSt)
def dCls (K : Fg) (Ψ : XP) (Δ : DEnds) : List DClause → XP
  | [] => Ψ
  | q :: r => fun x δ' μ' => ∃ b, (match x with | .mk D _ => PySem.W.exmOne K (.ref D) q.1) = some b ∧
      (b = true → ∀ a, μ' a = none → q.2.2 a x Ψ ⟨fun δ2 μ2 => Δ.nx (δ2.set q.2.1 none) μ2, Δ.rt, fun δ2 μ2 => Δ.bk (δ2.set q.2.1 none) μ2, fun δ2 μ2 => Δ.ct (δ2.set q.2.1 none) μ2⟩ (δ'.set q.2.1 (some (.hd (.ref a)))) μ') ∧ (b = false → dCls K Ψ Δ r x δ' μ')
def dTryM (K : Fg) (l : List DClause) (ω : DSt) : DSt := fun Ψ Δ δ μ => ω (dCls K Ψ Δ l) Δ δ μ
section
variable {K : Fg} {B : Bx K}
inductive SCls (K : Fg) (W : WX) : List Clause → List DClause → Prop
  | none : SCls K W [] []
  | one {c : Value} {i : Nat} {ts : Addr → Value → Option Addr → TS} {ζ : Addr → XD → DSt} {qs : List Clause} {l : List DClause}
      (hs : ∀ (a : Addr) (cls : Value) (dd : Option Addr) (x : XD) (B' : Bx K), B'.W = W → RepX K B'.μ0 B'.H0 cls dd x → SS B' (ts a cls dd) (ζ a x)) (r : SCls K W qs l) : SCls K W ((c, i, ts) :: qs) ((c, i, ζ) :: l)
theorem cls_wish {D : Ends} {Δ : DEnds} (E : EO B D Δ) {qs : List Clause} {l : List DClause} (h : SCls K B.W qs l) :
    ∀ cls dd σ1 H1 x δ1 μ1, Sm K B.H0 B.μ0 σ1 H1 δ1 μ1 → RepX K μ1 H1 cls dd x → dCls K B.Ψ Δ l x δ1 μ1 → wCls K B.W D qs cls dd σ1 H1 := by
  induction h with
  | none => intro cls dd σ1 H1 x δ1 μ1 S1 rx q; exact B.hW _ _ σ1 H1 _ δ1 μ1 S1 rx q
  | @one c i ts ζ qs l hs r ih =>
    intro cls dd σ1 H1 x δ1 μ1 S1 rx q1
    obtain ⟨b, e1, hy, hn⟩ := q1
    have ec : ∃ C fs, x = .mk C fs ∧ cls = .ref C := by
      obtain ⟨C, fs⟩ := x
      cases fs with
      | none => exact ⟨C, _, rfl, rx.1⟩
      | some f => exact ⟨C, _, rfl, rx.1⟩
    obtain ⟨C, fs, rfl, rfl⟩ := ec
    refine ⟨b, e1, fun hb1 a ha => ?_, fun hb1 => ih _ _ σ1 H1 _ δ1 μ1 S1 rx (hn hb1)⟩
    have hfr := S1.sto.fresh ha
    refine hs a (.ref C) dd (.mk C fs) (B.re H1 μ1 S1.evo) rfl rx _ _ _ H1 _ μ1 ⟨fun σ2 H2 δ2 μ2 S2 q2 => ?_, fun v H2 d μ2 σ2 δ2 S2 r2 q2 => ?_, fun σ2 H2 δ2 μ2 S2 q2 => ?_, fun σ2 H2 δ2 μ2 S2 q2 => ?_⟩ ⟨.refl, S1.sto, S1.env.set (.hd _ .nil) i⟩ (hy hb1 a hfr)
    · exact E.nx _ H2 _ μ2 ⟨S1.evo.trans S2.evo, S2.sto, S2.env.unset i⟩ q2
    · exact E.rt v H2 d μ2 σ2 δ2 ⟨S1.evo.trans S2.evo, S2.sto, S2.env⟩ r2 q2
    · exact E.bk _ H2 _ μ2 ⟨S1.evo.trans S2.evo, S2.sto, S2.env.unset i⟩ q2
    · exact E.ct _ H2 _ μ2 ⟨S1.evo.trans S2.evo, S2.sto, S2.env.unset i⟩ q2
theorem sTryM {W : WX} {tb : WX → TS} {ω : DSt} {qs : List Clause} {l : List DClause} (hW : B.W = W) (hb : ∀ (W' : WX) (B' : Bx K), B'.W = W' → SS B' (tb W') ω) (hc : SCls K W qs l) :
    SS B (fun D σ H => tb (wCls K W D qs) D σ H) (dTryM K l ω) := fun D Δ σ H δ μ E S q => by
  subst hW
  exact hb _ ⟨B.H0, B.μ0, wCls K B.W D qs, _, fun cls dd σ1 H1 x δ1 μ1 S1 rx q1 => cls_wish E hc cls dd σ1 H1 x δ1 μ1 S1 rx q1⟩ rfl D Δ σ H δ μ ⟨E.nx, E.rt, E.bk, E.ct⟩ S q
end
theorem u_tryM {K : Fg} {l : List DClause} {ω : DSt} {Ψ : XP} {Δ : DEnds} {δ : DEnv} {μ : Sto} : dTryM K l ω Ψ Δ δ μ = ω (dCls K Ψ Δ l) Δ δ μ := rfl
theorem u_cls0 {K : Fg} {Ψ : XP} {Δ : DEnds} : dCls K Ψ Δ [] = Ψ := rfl
theorem u_cls1 {K : Fg} {Ψ : XP} {Δ : DEnds} {c : Value} {i : Nat} {ζ : Addr → XD → DSt} {l : List DClause} : dCls K Ψ Δ ((c, i, ζ) :: l) = fun x δ' μ' => ∃ b, (match x with | .mk D _ => PySem.W.exmOne K (.ref D) c) = some b ∧
      (b = true → ∀ a, μ' a = none → ζ a x Ψ ⟨fun δ2 μ2 => Δ.nx (δ2.set i none) μ2, Δ.rt, fun δ2 μ2 => Δ.bk (δ2.set i none) μ2, fun δ2 μ2 => Δ.ct (δ2.set i none) μ2⟩ (δ'.set i (some (.hd (.ref a)))) μ') ∧ (b = false → dCls K Ψ Δ l x δ' μ') := rfl
end DW
set_option Elab.async false
set_option linter.all false
set_option maxRecDepth 100000
namespace LW
open PySem PySem.Spec L2 DW
def pd : Option (List Int) → D
  | none => .non
  | some p => .tup (p.map .int)
end LW
set_option Elab.async false
set_option linter.all false
set_option maxRecDepth 100000
set_option maxHeartbeats 4000000
namespace LW
open PySem PySem.Spec L2 DW PyProof.Rows
def topS (i : Nat) : Stmt := PySem.Challenge.pw_choosersrow_k39_queries_and_looks.main.body.getD i (.Pass ⟨0, 0, 0, 0⟩)
local macro_rules | `(tactic| walk_at "wp") => `(tactic| try simp only [u_tryM, u_cls0, u_cls1, u_isET, w_isET2, w_isET3, w_isET4, u_truT, u_iZ3, w_zip3E, u_lcO, u_restE, v_rng1, u_rngV, w_rngE, u_cval, w_isiO, u_par, u_iR3, u_makeSD, u_getXN, rngB_len, u_star, u_rev2L, u_callR, u_binXI, u_callX, u_getX, u_restF, u_binX, u_invX, w_neB, u_methXN, u_makeSN, u_tupR1, u_lc2, u_iZM, w_zipLT, w_zipTL, u_cntL, u_lstR1O, u_fld, w_fld, w_someE, u_setF, u_methX, w_objE, u_makeS, u_sortSet, u_lstR1, u_iZipL, u_iEnL, u_idx, u_popAt, u_cntT, u_idxT, u_callF, w_maxL, w_minL, w_ixDc, w_inDc, w_repL, w_listLs, w_tplT, w_tplP, u_isE, w_isE, u_kitER, u_kitET, u_excE, u_xf, w_xf1, u_slS, u_raise1, u_iEn, w_listStr, w_lenStr, w_catStr, w_ixStr, w_inStr, w_strE, w_strI, w_strS, u_rest, cut_to, cut_from1, Int.zero_add, u_revT, w_repT, u_tupG, u_try, u_gPlain, u_gThen, u_gNil, u_yield, u_gWhile, u_while, u_isX, u_kitR, u_kitT, u_excOk, w_zipE, u_goalX, u_lc, rngD_len, Int.toNat_natCast, u_for, u_iT, u_iL, u_iR1, u_iR2, u_iZ, u_iS, w_lstE, dwipe, u_asg, u_asgS, u_ret, u_retN, u_if, u_next, u_break, u_cont, u_drop, u_raise, u_aug, u_var, u_c, u_op, u_un, u_test, u_and, u_or, u_not, u_yes, u_andV, u_orV, u_notV, u_ifE, u_chain, u_nil, u_cons, u_tup, u_lst, u_own, u_cb, u_call, u_callS, u_name, u_etup, u_enil, u_econs, u_sub, u_app, u_slT, u_slL, u_noPart, u_part, u_revL, ex_some, w_I0, w_I, w_uI, w_int, w_bl, w_isi, w_someb, w_eqI, w_neI, w_eqS, w_neS, w_lenT, w_lenL, w_lenS, w_tupL, w_tupT, w_ixT, w_ixL, w_ixS, w_catT, w_catL, w_all, w_any, w_min2, w_divmod, w_listS, w_listL, w_listT, w_isN, w_notN, w_tupE, w_intE, w_consE, w_hdE, w_cellS, w_set, at0, at1, at2, at3, i_tT, i_tI, i_tB, i_tS, i_nT, i_nI, i_nB, i_nS, i_iT, i_iI, i_iB, i_iS, i_bT, i_bI, i_bB, i_bS, i_sT, i_sI, i_sB, i_sS, v_itemsS, w_eqB, isNone, dstart, List.map, List.length, List.replicate, List.cons_append, List.nil_append, List.append_nil, List.getElem?_cons_zero, List.getElem?_cons_succ, List.set_cons_zero, List.set_cons_succ, ix40, ix42, ix43, true_implies, false_implies, and_true, true_and, Bool.not_true, Bool.not_false, decide_eq_true_eq, decide_eq_false_iff_not, List.length_map, Nat.reduceAdd, reduceCtorEq, v_ixH, v_items, v_itemsT, v_itemsL, v_len, v_tuple, v_list, v_listOwn, sset_same, sset_sset, Option.some.injEq, Cell.lst.injEq, Cell.frz.injEq, false_and, exists_false, or_false, false_or, exists_eq_left', ne_eq, not_false_eq_true, isTup, Bool.true_eq_false, Bool.false_eq_true])
local macro_rules | `(tactic| walk_at "wps") => `(tactic| try simp only [u_seq, u_tryM, u_cls0, u_cls1, u_isET, w_isET2, w_isET3, w_isET4, u_truT, u_iZ3, w_zip3E, u_lcO, u_restE, v_rng1, u_rngV, w_rngE, u_cval, w_isiO, u_par, u_iR3, u_makeSD, u_getXN, rngB_len, u_star, u_rev2L, u_callR, u_binXI, u_callX, u_getX, u_restF, u_binX, u_invX, w_neB, u_methXN, u_makeSN, u_tupR1, u_lc2, u_iZM, w_zipLT, w_zipTL, u_cntL, u_lstR1O, u_fld, w_fld, w_someE, u_setF, u_methX, w_objE, u_makeS, u_sortSet, u_lstR1, u_iZipL, u_iEnL, u_idx, u_popAt, u_cntT, u_idxT, u_callF, w_maxL, w_minL, w_ixDc, w_inDc, w_repL, w_listLs, w_tplT, w_tplP, u_isE, w_isE, u_kitER, u_kitET, u_excE, u_xf, w_xf1, u_slS, u_raise1, u_iEn, w_listStr, w_lenStr, w_catStr, w_ixStr, w_inStr, w_strE, w_strI, w_strS, u_rest, cut_to, cut_from1, Int.zero_add, u_revT, w_repT, u_tupG, u_try, u_gPlain, u_gThen, u_gNil, u_yield, u_gWhile, u_while, u_isX, u_kitR, u_kitT, u_excOk, w_zipE, u_goalX, u_lc, rngD_len, Int.toNat_natCast, u_for, u_iT, u_iL, u_iR1, u_iR2, u_iZ, u_iS, w_lstE, dwipe, u_asg, u_asgS, u_ret, u_retN, u_if, u_next, u_break, u_cont, u_drop, u_raise, u_aug, u_var, u_c, u_op, u_un, u_test, u_and, u_or, u_not, u_yes, u_andV, u_orV, u_notV, u_ifE, u_chain, u_nil, u_cons, u_tup, u_lst, u_own, u_cb, u_call, u_callS, u_name, u_etup, u_enil, u_econs, u_sub, u_app, u_slT, u_slL, u_noPart, u_part, u_revL, ex_some, w_I0, w_I, w_uI, w_int, w_bl, w_isi, w_someb, w_eqI, w_neI, w_eqS, w_neS, w_lenT, w_lenL, w_lenS, w_tupL, w_tupT, w_ixT, w_ixL, w_ixS, w_catT, w_catL, w_all, w_any, w_min2, w_divmod, w_listS, w_listL, w_listT, w_isN, w_notN, w_tupE, w_intE, w_consE, w_hdE, w_cellS, w_set, at0, at1, at2, at3, i_tT, i_tI, i_tB, i_tS, i_nT, i_nI, i_nB, i_nS, i_iT, i_iI, i_iB, i_iS, i_bT, i_bI, i_bB, i_bS, i_sT, i_sI, i_sB, i_sS, v_itemsS, w_eqB, isNone, dstart, List.map, List.length, List.replicate, List.cons_append, List.nil_append, List.append_nil, List.getElem?_cons_zero, List.getElem?_cons_succ, List.set_cons_zero, List.set_cons_succ, ix40, ix42, ix43, true_implies, false_implies, and_true, true_and, Bool.not_true, Bool.not_false, decide_eq_true_eq, decide_eq_false_iff_not, List.length_map, Nat.reduceAdd, reduceCtorEq, v_ixH, v_items, v_itemsT, v_itemsL, v_len, v_tuple, v_list, v_listOwn, sset_same, sset_sset, Option.some.injEq, Cell.lst.injEq, Cell.frz.injEq, false_and, exists_false, or_false, false_or, exists_eq_left', ne_eq, not_false_eq_true, isTup, Bool.true_eq_false, Bool.false_eq_true])
abbrev s_is_number : Stmt := topS 18
abbrev N_is_number : List Str := ["value"]
theorem sc_is_number : FnScope N_is_number ["value"] (defScope s_is_number) := ⟨rfl, rfl, rfl, by decide +kernel, rfl, by decide +kernel, by decide +kernel⟩
abbrev s_is_below : Stmt := topS 19
abbrev N_is_below : List Str := ["value", "limit"]
theorem sc_is_below : FnScope N_is_below ["value", "limit"] (defScope s_is_below) := ⟨rfl, rfl, rfl, by decide +kernel, rfl, by decide +kernel, by decide +kernel⟩
abbrev s_is_word : Stmt := topS 20
abbrev N_is_word : List Str := ["value", "letter"]
theorem sc_is_word : FnScope N_is_word ["value"] (defScope s_is_word) := ⟨rfl, rfl, rfl, by decide +kernel, rfl, by decide +kernel, by decide +kernel⟩
abbrev s_wrong_part : Stmt := topS 22
abbrev N_wrong_part : List Str := ["term", "depth", "index", "item", "path"]
theorem sc_wrong_part : FnScope N_wrong_part ["term", "depth"] (defScope s_wrong_part) := ⟨rfl, rfl, rfl, by decide +kernel, rfl, by decide +kernel, by decide +kernel⟩
abbrev s_text_of : Stmt := topS 23
abbrev N_text_of : List Str := ["term", "item"]
theorem sc_text_of : FnScope N_text_of ["term"] (defScope s_text_of) := ⟨rfl, rfl, rfl, by decide +kernel, rfl, by decide +kernel, by decide +kernel⟩
abbrev s_write_term : Stmt := topS 21
abbrev N_write_term : List Str := ["term", "path"]
theorem sc_write_term : FnScope N_write_term ["term"] (defScope s_write_term) := ⟨rfl, rfl, rfl, by decide +kernel, rfl, by decide +kernel, by decide +kernel⟩
abbrev s_run_end : Stmt := topS 26
abbrev N_run_end : List Str := ["text", "start", "signs", "most", "end"]
theorem sc_run_end : FnScope N_run_end ["text", "start", "signs", "most"] (defScope s_run_end) := ⟨rfl, rfl, rfl, by decide +kernel, rfl, by decide +kernel, by decide +kernel⟩
abbrev s_read_part : Stmt := topS 25
abbrev N_read_part : List Str := ["text", "start", "depth", "sign", "end"]
theorem sc_read_part : FnScope N_read_part ["text", "start", "depth"] (defScope s_read_part) := ⟨rfl, rfl, rfl, by decide +kernel, rfl, by decide +kernel, by decide +kernel⟩
abbrev s_read_tuple : Stmt := topS 27
abbrev N_read_tuple : List Str := ["text", "start", "depth", "items", "place", "item", "end"]
theorem sc_read_tuple : FnScope N_read_tuple ["text", "start", "depth"] (defScope s_read_tuple) := ⟨rfl, rfl, rfl, by decide +kernel, rfl, by decide +kernel, by decide +kernel⟩
abbrev s_read_term : Stmt := topS 24
abbrev N_read_term : List Str := ["text", "term", "end"]
theorem sc_read_term : FnScope N_read_term ["text"] (defScope s_read_term) := ⟨rfl, rfl, rfl, by decide +kernel, rfl, by decide +kernel, by decide +kernel⟩
abbrev s_read_headed : Stmt := topS 28
abbrev N_read_headed : List Str := ["text", "head", "many", "numbers", "term", "item"]
theorem sc_read_headed : FnScope N_read_headed ["text", "head", "many", "numbers"] (defScope s_read_headed) := ⟨rfl, rfl, rfl, by decide +kernel, rfl, by decide +kernel, by decide +kernel⟩
abbrev s_count_choices : Stmt := topS 30
abbrev N_count_choices : List Str := ["widths", "many", "width"]
theorem sc_count_choices : FnScope N_count_choices ["widths"] (defScope s_count_choices) := ⟨rfl, rfl, rfl, by decide +kernel, rfl, by decide +kernel, by decide +kernel⟩
abbrev s_has_outcomes : Stmt := topS 33
abbrev N_has_outcomes : List Str := ["outcomes"]
theorem sc_has_outcomes : FnScope N_has_outcomes ["outcomes"] (defScope s_has_outcomes) := ⟨rfl, rfl, rfl, by decide +kernel, rfl, by decide +kernel, by decide +kernel⟩
abbrev s_width_at : Stmt := topS 40
abbrev N_width_at : List Str := ["widths", "place"]
theorem sc_width_at : FnScope N_width_at ["widths", "place"] (defScope s_width_at) := ⟨rfl, rfl, rfl, by decide +kernel, rfl, by decide +kernel, by decide +kernel⟩
abbrev s_terms_behind : Stmt := topS 41
abbrev N_terms_behind : List Str := ["term"]
theorem sc_terms_behind : FnScope N_terms_behind ["term"] (defScope s_terms_behind) := ⟨rfl, rfl, rfl, by decide +kernel, rfl, by decide +kernel, by decide +kernel⟩
abbrev s_are_widths : Stmt := topS 42
abbrev N_are_widths : List Str := ["widths", "width"]
theorem sc_are_widths : FnScope N_are_widths ["widths"] (defScope s_are_widths) := ⟨rfl, rfl, rfl, by decide +kernel, rfl, by decide +kernel, by decide +kernel⟩
abbrev s_require_form : Stmt := topS 43
abbrev N_require_form : List Str := ["widths", "outcomes"]
theorem sc_require_form : FnScope N_require_form ["widths", "outcomes"] (defScope s_require_form) := ⟨rfl, rfl, rfl, by decide +kernel, rfl, by decide +kernel, by decide +kernel⟩
abbrev s_has_query_form : Stmt := topS 44
abbrev N_has_query_form : List Str := ["term", "widths", "level"]
theorem sc_has_query_form : FnScope N_has_query_form ["term", "widths", "level"] (defScope s_has_query_form) := ⟨rfl, rfl, rfl, by decide +kernel, rfl, by decide +kernel, by decide +kernel⟩
abbrev s_wrong_query : Stmt := topS 45
abbrev N_wrong_query : List Str := ["term", "widths", "outcomes", "level", "index", "below", "path"]
theorem sc_wrong_query : FnScope N_wrong_query ["term", "widths", "outcomes", "level"] (defScope s_wrong_query) := ⟨rfl, rfl, rfl, by decide +kernel, rfl, by decide +kernel, by decide +kernel⟩
abbrev s_places_of : Stmt := topS 46
abbrev N_places_of : List Str := ["term", "below", "place"]
theorem sc_places_of : FnScope N_places_of ["term"] (defScope s_places_of) := ⟨rfl, rfl, rfl, by decide +kernel, rfl, by decide +kernel, by decide +kernel⟩
abbrev s_require_few : Stmt := topS 47
abbrev N_require_few : List Str := ["places", "widths", "place"]
theorem sc_require_few : FnScope N_require_few ["places", "widths"] (defScope s_require_few) := ⟨rfl, rfl, rfl, by decide +kernel, rfl, by decide +kernel, by decide +kernel⟩
abbrev s_followed : Stmt := topS 48
abbrev N_followed : List Str := ["query", "row", "places", "term", "entry"]
theorem sc_followed : FnScope N_followed ["query", "row"] (defScope s_followed) := ⟨rfl, rfl, rfl, by decide +kernel, rfl, by decide +kernel, by decide +kernel⟩
abbrev s_looked_places : Stmt := topS 49
abbrev N_looked_places : List Str := ["query", "row"]
theorem sc_looked_places : FnScope N_looked_places ["query", "row"] (defScope s_looked_places) := ⟨rfl, rfl, rfl, by decide +kernel, rfl, by decide +kernel, by decide +kernel⟩
abbrev s_Query___init__ : Stmt := clsS (topS 55) 3
abbrev N_Query___init__ : List Str := ["self", "term", "widths", "outcomes", "path"]
theorem sc_Query___init__ : FnScope N_Query___init__ ["self", "term", "widths", "outcomes"] (defScope s_Query___init__) := ⟨rfl, rfl, rfl, by decide +kernel, rfl, by decide +kernel, by decide +kernel⟩
abbrev s_Query___call__ : Stmt := clsS (topS 55) 4
abbrev N_Query___call__ : List Str := ["self", "row"]
theorem sc_Query___call__ : FnScope N_Query___call__ ["self", "row"] (defScope s_Query___call__) := ⟨rfl, rfl, rfl, by decide +kernel, rfl, by decide +kernel, by decide +kernel⟩
abbrev s_Query_text : Stmt := clsS (topS 55) 9
abbrev N_Query_text : List Str := ["self"]
theorem sc_Query_text : FnScope N_Query_text ["self"] (defScope s_Query_text) := ⟨rfl, rfl, rfl, by decide +kernel, rfl, by decide +kernel, by decide +kernel⟩
abbrev s_Query_read : Stmt := clsS (topS 55) 10
abbrev N_Query_read : List Str := ["text", "term"]
theorem sc_Query_read : FnScope N_Query_read ["text"] (defScope s_Query_read) := ⟨rfl, rfl, rfl, by decide +kernel, rfl, by decide +kernel, by decide +kernel⟩
abbrev s_Row___init__ : Stmt := clsS (topS 57) 0
abbrev N_Row___init__ : List Str := ["self", "head", "cycle", "entry"]
theorem sc_Row___init__ : FnScope N_Row___init__ ["self", "head", "cycle"] (defScope s_Row___init__) := ⟨rfl, rfl, rfl, by decide +kernel, rfl, by decide +kernel, by decide +kernel⟩
abbrev s_Row___getitem__ : Stmt := clsS (topS 57) 1
abbrev N_Row___getitem__ : List Str := ["self", "at"]
theorem sc_Row___getitem__ : FnScope N_Row___getitem__ ["self", "at"] (defScope s_Row___getitem__) := ⟨rfl, rfl, rfl, by decide +kernel, rfl, by decide +kernel, by decide +kernel⟩
abbrev s__law_start : Stmt := topS 59
abbrev N__law_start : List Str := ["_law_script", "_law_seed", "_law_k"]
theorem sc__law_start : FnScope N__law_start ["_law_script"] (defScope s__law_start) := ⟨rfl, rfl, rfl, by decide +kernel, rfl, by decide +kernel, by decide +kernel⟩
abbrev s__law_pick : Stmt := topS 60
abbrev N__law_pick : List Str := ["_law_state", "_law_limit", "_law_cell", "_law_mixed", "_law_rest"]
theorem sc__law_pick : FnScope N__law_pick ["_law_state", "_law_limit"] (defScope s__law_pick) := ⟨rfl, rfl, rfl, by decide +kernel, rfl, by decide +kernel, by decide +kernel⟩
abbrev s__law_width : Stmt := topS 61
abbrev N__law_width : List Str := ["_law_widths_here", "_law_place"]
theorem sc__law_width : FnScope N__law_width ["_law_widths_here", "_law_place"] (defScope s__law_width) := ⟨rfl, rfl, rfl, by decide +kernel, rfl, by decide +kernel, by decide +kernel⟩
abbrev s__law_widths : Stmt := topS 62
abbrev N__law_widths : List Str := ["_law_state", "_law_top", "_law_many", "_law_k"]
theorem sc__law_widths : FnScope N__law_widths ["_law_state"] (defScope s__law_widths) := ⟨rfl, rfl, rfl, by decide +kernel, rfl, by decide +kernel, by decide +kernel⟩
abbrev s__law_places : Stmt := topS 63
abbrev N__law_places : List Str := ["_law_state", "_law_widths_here", "_law_places_here", "_law_many", "_law_k", "_law_place"]
theorem sc__law_places : FnScope N__law_places ["_law_state", "_law_widths_here"] (defScope s__law_places) := ⟨rfl, rfl, rfl, by decide +kernel, rfl, by decide +kernel, by decide +kernel⟩
abbrev s__law_term : Stmt := topS 64
abbrev N__law_term : List Str := ["_law_state", "_law_size", "_law_places_here", "_law_levels", "_law_place", "_law_options", "_law_x"]
theorem sc__law_term : FnScope N__law_term ["_law_state", "_law_size", "_law_places_here", "_law_levels"] (defScope s__law_term) := ⟨rfl, rfl, rfl, by decide +kernel, rfl, by decide +kernel, by decide +kernel⟩
abbrev s__law_chain : Stmt := topS 65
abbrev N__law_chain : List Str := ["_law_state", "_law_size", "_law_places_here", "_law_levels", "_law_term_here", "_law_path", "_law_k", "_law_place", "_law_options", "_law_at", "_law_branches", "_law_x"]
theorem sc__law_chain : FnScope N__law_chain ["_law_state", "_law_size", "_law_places_here", "_law_levels"] (defScope s__law_chain) := ⟨rfl, rfl, rfl, by decide +kernel, rfl, by decide +kernel, by decide +kernel⟩
abbrev s__law_many_looks : Stmt := topS 66
abbrev N__law_many_looks : List Str := ["_law_many", "_law_place", "_law_options", "_law_rest", "_law_branches", "_law_x", "_law_part"]
theorem sc__law_many_looks : FnScope N__law_many_looks ["_law_many", "_law_place", "_law_options"] (defScope s__law_many_looks) := ⟨rfl, rfl, rfl, by decide +kernel, rfl, by decide +kernel, by decide +kernel⟩
abbrev s__law_spoilt : Stmt := topS 67
abbrev N__law_spoilt : List Str := ["_law_state", "_law_term_here", "_law_outcomes", "_law_path", "_law_how", "_law_at", "_law_inner", "_law_wrong"]
theorem sc__law_spoilt : FnScope N__law_spoilt ["_law_state", "_law_term_here", "_law_outcomes", "_law_path"] (defScope s__law_spoilt) := ⟨rfl, rfl, rfl, by decide +kernel, rfl, by decide +kernel, by decide +kernel⟩
abbrev s__law_create : Stmt := topS 68
abbrev N__law_create : List Str := ["_law_term_here", "_law_widths_here", "_law_outcomes", "e", "_law_query"]
theorem sc__law_create : FnScope N__law_create ["_law_term_here", "_law_widths_here", "_law_outcomes"] (defScope s__law_create) := ⟨rfl, rfl, rfl, by decide +kernel, rfl, by decide +kernel, by decide +kernel⟩
abbrev s__law_entry : Stmt := topS 69
abbrev N__law_entry : List Str := ["_law_row_here", "_law_place"]
theorem sc__law_entry : FnScope N__law_entry ["_law_row_here", "_law_place"] (defScope s__law_entry) := ⟨rfl, rfl, rfl, by decide +kernel, rfl, by decide +kernel, by decide +kernel⟩
abbrev s__law_row : Stmt := topS 70
abbrev N__law_row : List Str := ["_law_state", "_law_widths_here", "_law_many", "_law_head", "_law_length", "_law_p", "_law_j"]
theorem sc__law_row : FnScope N__law_row ["_law_state", "_law_widths_here"] (defScope s__law_row) := ⟨rfl, rfl, rfl, by decide +kernel, rfl, by decide +kernel, by decide +kernel⟩
abbrev s__law_with : Stmt := topS 71
abbrev N__law_with : List Str := ["_law_row_here", "_law_place", "_law_entry_here", "_law_length", "_law_head", "_law_p", "_law_j"]
theorem sc__law_with : FnScope N__law_with ["_law_row_here", "_law_place", "_law_entry_here"] (defScope s__law_with) := ⟨rfl, rfl, rfl, by decide +kernel, rfl, by decide +kernel, by decide +kernel⟩
abbrev s__law_follow : Stmt := topS 72
abbrev N__law_follow : List Str := ["_law_term_here", "_law_widths_here", "_law_row_here", "_law_seen", "_law_k", "_law_entry_here"]
theorem sc__law_follow : FnScope N__law_follow ["_law_term_here", "_law_widths_here", "_law_row_here"] (defScope s__law_follow) := ⟨rfl, rfl, rfl, by decide +kernel, rfl, by decide +kernel, by decide +kernel⟩
abbrev s__law_told : Stmt := topS 73
abbrev N__law_told : List Str := ["_law_query", "_law_row_here", "e"]
theorem sc__law_told : FnScope N__law_told ["_law_query", "_law_row_here"] (defScope s__law_told) := ⟨rfl, rfl, rfl, by decide +kernel, rfl, by decide +kernel, by decide +kernel⟩
abbrev s__law_looked : Stmt := topS 74
abbrev N__law_looked : List Str := ["_law_query", "_law_row_here", "e"]
theorem sc__law_looked : FnScope N__law_looked ["_law_query", "_law_row_here"] (defScope s__law_looked) := ⟨rfl, rfl, rfl, by decide +kernel, rfl, by decide +kernel, by decide +kernel⟩
abbrev s__law_answers : Stmt := topS 75
abbrev N__law_answers : List Str := ["_law_query", "_law_term_here", "_law_widths_here", "_law_row_here", "_law_due", "_law_handed", "_law_told_here", "_law_looked_here"]
theorem sc__law_answers : FnScope N__law_answers ["_law_query", "_law_term_here", "_law_widths_here", "_law_row_here"] (defScope s__law_answers) := ⟨rfl, rfl, rfl, by decide +kernel, rfl, by decide +kernel, by decide +kernel⟩
abbrev s__law_text : Stmt := topS 76
abbrev N__law_text : List Str := ["_law_term_here", "_law_item"]
theorem sc__law_text : FnScope N__law_text ["_law_term_here"] (defScope s__law_text) := ⟨rfl, rfl, rfl, by decide +kernel, rfl, by decide +kernel, by decide +kernel⟩
abbrev s__law_unread : Stmt := topS 77
abbrev N__law_unread : List Str := ["_law_text_here", "e"]
theorem sc__law_unread : FnScope N__law_unread ["_law_text_here"] (defScope s__law_unread) := ⟨rfl, rfl, rfl, by decide +kernel, rfl, by decide +kernel, by decide +kernel⟩
abbrev s__law_texts : Stmt := topS 78
abbrev N__law_texts : List Str := ["_law_query", "_law_term_here", "_law_widths_here", "_law_outcomes", "_law_text_here", "_law_back"]
theorem sc__law_texts : FnScope N__law_texts ["_law_query", "_law_term_here", "_law_widths_here", "_law_outcomes"] (defScope s__law_texts) := ⟨rfl, rfl, rfl, by decide +kernel, rfl, by decide +kernel, by decide +kernel⟩
abbrev s__law_large : Stmt := topS 79
abbrev N__law_large : List Str := ["_law_state", "_law_widths_here", "_law_outcomes", "_law_term_here", "_law_many", "_law_first", "_law_place", "_law_due", "_law_looks", "_law_options"]
theorem sc__law_large : FnScope N__law_large ["_law_state", "_law_widths_here", "_law_outcomes"] (defScope s__law_large) := ⟨rfl, rfl, rfl, by decide +kernel, rfl, by decide +kernel, by decide +kernel⟩
abbrev s_law : Stmt := topS 80
abbrev N_law : List Str := ["_law_script", "_law_state", "_law_widths_here", "_law_outcomes", "_law_places_here", "_law_term_here", "_law_query", "_law_row_here", "_law_place", "_law_bad", "_law_other", "_law_asked", "_law_spoilt_here", "_law_at", "_law_wrong", "_law_chain_here"]
theorem sc_law : FnScope N_law ["_law_script"] (defScope s_law) := ⟨rfl, rfl, rfl, by decide +kernel, rfl, by decide +kernel, by decide +kernel⟩
set_option genInjectivity false in
structure Txt (P : Program) (w : World) (K : Fg) (mg : Str → Option Value) where
  f_is_number : Addr
  d_is_number : FuncData
  F_is_number : Fun K "is_number" "is_number" s_is_number f_is_number d_is_number
  g_is_number : mg "is_number" = some (.ref f_is_number)
  b_is_number : Binds K d_is_number ["value"] []
  f_is_below : Addr
  d_is_below : FuncData
  F_is_below : Fun K "is_below" "is_below" s_is_below f_is_below d_is_below
  g_is_below : mg "is_below" = some (.ref f_is_below)
  b_is_below : Binds K d_is_below ["value", "limit"] []
  f_is_word : Addr
  d_is_word : FuncData
  F_is_word : Fun K "is_word" "is_word" s_is_word f_is_word d_is_word
  g_is_word : mg "is_word" = some (.ref f_is_word)
  b_is_word : Binds K d_is_word ["value"] []
  f_wrong_part : Addr
  d_wrong_part : FuncData
  F_wrong_part : Fun K "wrong_part" "wrong_part" s_wrong_part f_wrong_part d_wrong_part
  g_wrong_part : mg "wrong_part" = some (.ref f_wrong_part)
  b_wrong_part : Binds K d_wrong_part ["term", "depth"] []
  f_text_of : Addr
  d_text_of : FuncData
  F_text_of : Fun K "text_of" "text_of" s_text_of f_text_of d_text_of
  g_text_of : mg "text_of" = some (.ref f_text_of)
  b_text_of : Binds K d_text_of ["term"] []
  f_write_term : Addr
  d_write_term : FuncData
  F_write_term : Fun K "write_term" "write_term" s_write_term f_write_term d_write_term
  g_write_term : mg "write_term" = some (.ref f_write_term)
  b_write_term : Binds K d_write_term ["term"] []
  f_run_end : Addr
  d_run_end : FuncData
  F_run_end : Fun K "run_end" "run_end" s_run_end f_run_end d_run_end
  g_run_end : mg "run_end" = some (.ref f_run_end)
  b_run_end : Binds K d_run_end ["text", "start", "signs", "most"] []
  f_read_part : Addr
  d_read_part : FuncData
  F_read_part : Fun K "read_part" "read_part" s_read_part f_read_part d_read_part
  g_read_part : mg "read_part" = some (.ref f_read_part)
  b_read_part : Binds K d_read_part ["text", "start", "depth"] []
  f_read_tuple : Addr
  d_read_tuple : FuncData
  F_read_tuple : Fun K "read_tuple" "read_tuple" s_read_tuple f_read_tuple d_read_tuple
  g_read_tuple : mg "read_tuple" = some (.ref f_read_tuple)
  b_read_tuple : Binds K d_read_tuple ["text", "start", "depth"] []
  f_read_term : Addr
  d_read_term : FuncData
  F_read_term : Fun K "read_term" "read_term" s_read_term f_read_term d_read_term
  g_read_term : mg "read_term" = some (.ref f_read_term)
  b_read_term : Binds K d_read_term ["text"] []
  f_read_headed : Addr
  d_read_headed : FuncData
  F_read_headed : Fun K "read_headed" "read_headed" s_read_headed f_read_headed d_read_headed
  g_read_headed : mg "read_headed" = some (.ref f_read_headed)
  b_read_headed : Binds K d_read_headed ["text", "head", "many", "numbers"] []
  f_count_choices : Addr
  d_count_choices : FuncData
  F_count_choices : Fun K "count_choices" "count_choices" s_count_choices f_count_choices d_count_choices
  g_count_choices : mg "count_choices" = some (.ref f_count_choices)
  b_count_choices : Binds K d_count_choices ["widths"] []
  f_has_outcomes : Addr
  d_has_outcomes : FuncData
  F_has_outcomes : Fun K "has_outcomes" "has_outcomes" s_has_outcomes f_has_outcomes d_has_outcomes
  g_has_outcomes : mg "has_outcomes" = some (.ref f_has_outcomes)
  b_has_outcomes : Binds K d_has_outcomes ["outcomes"] []
  f_width_at : Addr
  d_width_at : FuncData
  F_width_at : Fun K "width_at" "width_at" s_width_at f_width_at d_width_at
  g_width_at : mg "width_at" = some (.ref f_width_at)
  b_width_at : Binds K d_width_at ["widths", "place"] []
  f_terms_behind : Addr
  d_terms_behind : FuncData
  F_terms_behind : Fun K "terms_behind" "terms_behind" s_terms_behind f_terms_behind d_terms_behind
  g_terms_behind : mg "terms_behind" = some (.ref f_terms_behind)
  b_terms_behind : Binds K d_terms_behind ["term"] []
  f_are_widths : Addr
  d_are_widths : FuncData
  F_are_widths : Fun K "are_widths" "are_widths" s_are_widths f_are_widths d_are_widths
  g_are_widths : mg "are_widths" = some (.ref f_are_widths)
  b_are_widths : Binds K d_are_widths ["widths"] []
  f_require_form : Addr
  d_require_form : FuncData
  F_require_form : Fun K "require_form" "require_form" s_require_form f_require_form d_require_form
  g_require_form : mg "require_form" = some (.ref f_require_form)
  b_require_form : Binds K d_require_form ["widths", "outcomes"] []
  f_has_query_form : Addr
  d_has_query_form : FuncData
  F_has_query_form : Fun K "has_query_form" "has_query_form" s_has_query_form f_has_query_form d_has_query_form
  g_has_query_form : mg "has_query_form" = some (.ref f_has_query_form)
  b_has_query_form : Binds K d_has_query_form ["term", "widths", "level"] []
  f_wrong_query : Addr
  d_wrong_query : FuncData
  F_wrong_query : Fun K "wrong_query" "wrong_query" s_wrong_query f_wrong_query d_wrong_query
  g_wrong_query : mg "wrong_query" = some (.ref f_wrong_query)
  b_wrong_query : Binds K d_wrong_query ["term", "widths", "outcomes", "level"] []
  f_places_of : Addr
  d_places_of : FuncData
  F_places_of : Fun K "places_of" "places_of" s_places_of f_places_of d_places_of
  g_places_of : mg "places_of" = some (.ref f_places_of)
  b_places_of : Binds K d_places_of ["term"] []
  f_require_few : Addr
  d_require_few : FuncData
  F_require_few : Fun K "require_few" "require_few" s_require_few f_require_few d_require_few
  g_require_few : mg "require_few" = some (.ref f_require_few)
  b_require_few : Binds K d_require_few ["places", "widths"] []
  f_followed : Addr
  d_followed : FuncData
  F_followed : Fun K "followed" "followed" s_followed f_followed d_followed
  g_followed : mg "followed" = some (.ref f_followed)
  b_followed : Binds K d_followed ["query", "row"] []
  f_looked_places : Addr
  d_looked_places : FuncData
  F_looked_places : Fun K "looked_places" "looked_places" s_looked_places f_looked_places d_looked_places
  g_looked_places : mg "looked_places" = some (.ref f_looked_places)
  b_looked_places : Binds K d_looked_places ["query", "row"] []
  f_Query___init__ : Addr
  d_Query___init__ : FuncData
  F_Query___init__ : Fun K "__init__" "Query.__init__" s_Query___init__ f_Query___init__ d_Query___init__
  b_Query___init__ : Binds K d_Query___init__ ["self", "term", "widths", "outcomes"] []
  f_Query___call__ : Addr
  d_Query___call__ : FuncData
  F_Query___call__ : Fun K "__call__" "Query.__call__" s_Query___call__ f_Query___call__ d_Query___call__
  b_Query___call__ : Binds K d_Query___call__ ["self", "row"] []
  f_Query_text : Addr
  d_Query_text : FuncData
  F_Query_text : Fun K "text" "Query.text" s_Query_text f_Query_text d_Query_text
  b_Query_text : Binds K d_Query_text ["self"] []
  f_Query_read : Addr
  d_Query_read : FuncData
  F_Query_read : Fun K "read" "Query.read" s_Query_read f_Query_read d_Query_read
  b_Query_read : Binds K d_Query_read ["text"] []
  a_Row___init__ : Addr
  q_Row___init__ : SqTw K a_Row___init__ (([0] : List Int).map V.int)
  f_Row___init__ : Addr
  d_Row___init__ : FuncData
  F_Row___init__ : FunD K "__init__" "Row.__init__" (defArgs s_Row___init__) (defBody s_Row___init__) (defScope s_Row___init__) [V.ref a_Row___init__] [] f_Row___init__ d_Row___init__
  b_Row___init__ : Binds K d_Row___init__ ["self", "head", "cycle"] []
  bd_Row___init__ : ∃ us, Vals [V.ref a_Row___init__] us ∧ Binds K d_Row___init__ ["self", "head", "cycle"] us
  f_Row___getitem__ : Addr
  d_Row___getitem__ : FuncData
  F_Row___getitem__ : Fun K "__getitem__" "Row.__getitem__" s_Row___getitem__ f_Row___getitem__ d_Row___getitem__
  b_Row___getitem__ : Binds K d_Row___getitem__ ["self", "at"] []
  f__law_start : Addr
  d__law_start : FuncData
  F__law_start : Fun K "_law_start" "_law_start" s__law_start f__law_start d__law_start
  g__law_start : mg "_law_start" = some (.ref f__law_start)
  b__law_start : Binds K d__law_start ["_law_script"] []
  f__law_pick : Addr
  d__law_pick : FuncData
  F__law_pick : Fun K "_law_pick" "_law_pick" s__law_pick f__law_pick d__law_pick
  g__law_pick : mg "_law_pick" = some (.ref f__law_pick)
  b__law_pick : Binds K d__law_pick ["_law_state", "_law_limit"] []
  f__law_width : Addr
  d__law_width : FuncData
  F__law_width : Fun K "_law_width" "_law_width" s__law_width f__law_width d__law_width
  g__law_width : mg "_law_width" = some (.ref f__law_width)
  b__law_width : Binds K d__law_width ["_law_widths_here", "_law_place"] []
  f__law_widths : Addr
  d__law_widths : FuncData
  F__law_widths : Fun K "_law_widths" "_law_widths" s__law_widths f__law_widths d__law_widths
  g__law_widths : mg "_law_widths" = some (.ref f__law_widths)
  b__law_widths : Binds K d__law_widths ["_law_state"] []
  f__law_places : Addr
  d__law_places : FuncData
  F__law_places : Fun K "_law_places" "_law_places" s__law_places f__law_places d__law_places
  g__law_places : mg "_law_places" = some (.ref f__law_places)
  b__law_places : Binds K d__law_places ["_law_state", "_law_widths_here"] []
  f__law_term : Addr
  d__law_term : FuncData
  F__law_term : Fun K "_law_term" "_law_term" s__law_term f__law_term d__law_term
  g__law_term : mg "_law_term" = some (.ref f__law_term)
  b__law_term : Binds K d__law_term ["_law_state", "_law_size", "_law_places_here", "_law_levels"] []
  f__law_chain : Addr
  d__law_chain : FuncData
  F__law_chain : Fun K "_law_chain" "_law_chain" s__law_chain f__law_chain d__law_chain
  g__law_chain : mg "_law_chain" = some (.ref f__law_chain)
  b__law_chain : Binds K d__law_chain ["_law_state", "_law_size", "_law_places_here", "_law_levels"] []
  f__law_many_looks : Addr
  d__law_many_looks : FuncData
  F__law_many_looks : Fun K "_law_many_looks" "_law_many_looks" s__law_many_looks f__law_many_looks d__law_many_looks
  g__law_many_looks : mg "_law_many_looks" = some (.ref f__law_many_looks)
  b__law_many_looks : Binds K d__law_many_looks ["_law_many", "_law_place", "_law_options"] []
  f__law_spoilt : Addr
  d__law_spoilt : FuncData
  F__law_spoilt : Fun K "_law_spoilt" "_law_spoilt" s__law_spoilt f__law_spoilt d__law_spoilt
  g__law_spoilt : mg "_law_spoilt" = some (.ref f__law_spoilt)
  b__law_spoilt : Binds K d__law_spoilt ["_law_state", "_law_term_here", "_law_outcomes", "_law_path"] []
  f__law_create : Addr
  d__law_create : FuncData
  F__law_create : Fun K "_law_create" "_law_create" s__law_create f__law_create d__law_create
  g__law_create : mg "_law_create" = some (.ref f__law_create)
  b__law_create : Binds K d__law_create ["_law_term_here", "_law_widths_here", "_law_outcomes"] []
  f__law_entry : Addr
  d__law_entry : FuncData
  F__law_entry : Fun K "_law_entry" "_law_entry" s__law_entry f__law_entry d__law_entry
  g__law_entry : mg "_law_entry" = some (.ref f__law_entry)
  b__law_entry : Binds K d__law_entry ["_law_row_here", "_law_place"] []
  f__law_row : Addr
  d__law_row : FuncData
  F__law_row : Fun K "_law_row" "_law_row" s__law_row f__law_row d__law_row
  g__law_row : mg "_law_row" = some (.ref f__law_row)
  b__law_row : Binds K d__law_row ["_law_state", "_law_widths_here"] []
  f__law_with : Addr
  d__law_with : FuncData
  F__law_with : Fun K "_law_with" "_law_with" s__law_with f__law_with d__law_with
  g__law_with : mg "_law_with" = some (.ref f__law_with)
  b__law_with : Binds K d__law_with ["_law_row_here", "_law_place", "_law_entry_here"] []
  f__law_follow : Addr
  d__law_follow : FuncData
  F__law_follow : Fun K "_law_follow" "_law_follow" s__law_follow f__law_follow d__law_follow
  g__law_follow : mg "_law_follow" = some (.ref f__law_follow)
  b__law_follow : Binds K d__law_follow ["_law_term_here", "_law_widths_here", "_law_row_here"] []
  f__law_told : Addr
  d__law_told : FuncData
  F__law_told : Fun K "_law_told" "_law_told" s__law_told f__law_told d__law_told
  g__law_told : mg "_law_told" = some (.ref f__law_told)
  b__law_told : Binds K d__law_told ["_law_query", "_law_row_here"] []
  f__law_looked : Addr
  d__law_looked : FuncData
  F__law_looked : Fun K "_law_looked" "_law_looked" s__law_looked f__law_looked d__law_looked
  g__law_looked : mg "_law_looked" = some (.ref f__law_looked)
  b__law_looked : Binds K d__law_looked ["_law_query", "_law_row_here"] []
  f__law_answers : Addr
  d__law_answers : FuncData
  F__law_answers : Fun K "_law_answers" "_law_answers" s__law_answers f__law_answers d__law_answers
  g__law_answers : mg "_law_answers" = some (.ref f__law_answers)
  b__law_answers : Binds K d__law_answers ["_law_query", "_law_term_here", "_law_widths_here", "_law_row_here"] []
  f__law_text : Addr
  d__law_text : FuncData
  F__law_text : Fun K "_law_text" "_law_text" s__law_text f__law_text d__law_text
  g__law_text : mg "_law_text" = some (.ref f__law_text)
  b__law_text : Binds K d__law_text ["_law_term_here"] []
  f__law_unread : Addr
  d__law_unread : FuncData
  F__law_unread : Fun K "_law_unread" "_law_unread" s__law_unread f__law_unread d__law_unread
  g__law_unread : mg "_law_unread" = some (.ref f__law_unread)
  b__law_unread : Binds K d__law_unread ["_law_text_here"] []
  f__law_texts : Addr
  d__law_texts : FuncData
  F__law_texts : Fun K "_law_texts" "_law_texts" s__law_texts f__law_texts d__law_texts
  g__law_texts : mg "_law_texts" = some (.ref f__law_texts)
  b__law_texts : Binds K d__law_texts ["_law_query", "_law_term_here", "_law_widths_here", "_law_outcomes"] []
  f__law_large : Addr
  d__law_large : FuncData
  F__law_large : Fun K "_law_large" "_law_large" s__law_large f__law_large d__law_large
  g__law_large : mg "_law_large" = some (.ref f__law_large)
  b__law_large : Binds K d__law_large ["_law_state", "_law_widths_here", "_law_outcomes"] []
  f_law : Addr
  d_law : FuncData
  F_law : Fun K "law" "law" s_law f_law d_law
  g_law : mg "law" = some (.ref f_law)
  b_law : Binds K d_law ["_law_script"] []
  z_isinstance : mg "isinstance" = none
  z_int : mg "int" = none
  z_bool : mg "bool" = none
  z_all : mg "all" = none
  z_str : mg "str" = none
  z_len : mg "len" = none
  z_enumerate : mg "enumerate" = none
  z_tuple : mg "tuple" = none
  z_sorted : mg "sorted" = none
  z_set : mg "set" = none
  z_range : mg "range" = none
  z_list : mg "list" = none
  z_min : mg "min" = none
  z_max : mg "max" = none
  z_staticmethod : mg "staticmethod" = none
  g_LETTERS : ∃ t, mg "LETTERS" = some (.str "abcdefghijklmnopqrstuvwxyz" t)
  g_DIGITS : ∃ t, mg "DIGITS" = some (.str "0123456789" t)
  g_LONGEST_WORD : ∃ t, mg "LONGEST_WORD" = some (.int 12 t)
  g_LONGEST_NUMBER : ∃ t, mg "LONGEST_NUMBER" = some (.int 9 t)
  g_NUMBERS_END : ∃ t, mg "NUMBERS_END" = some (.int 1000000000 t)
  g_DEEPEST_TUPLE : ∃ t, mg "DEEPEST_TUPLE" = some (.int 30 t)
  g_MOST_OUTCOMES : ∃ t, mg "MOST_OUTCOMES" = some (.int 4 t)
  g_MOST_WIDTHS : ∃ t, mg "MOST_WIDTHS" = some (.int 6 t)
  g_WIDEST : ∃ t, mg "WIDEST" = some (.int 4 t)
  g_PLACES : ∃ t, mg "PLACES" = some (.int 100 t)
  g_ITEMS_BEFORE : ∃ t, mg "ITEMS_BEFORE" = some (.int 2 t)
  g_TWO_OUTCOMES : ∃ t, mg "TWO_OUTCOMES" = some (.int 2 t)
  c_InvalidTerm : Addr
  g_InvalidTerm : mg "InvalidTerm" = some (.ref c_InvalidTerm)
  c_InvalidText : Addr
  g_InvalidText : mg "InvalidText" = some (.ref c_InvalidText)
  c_OutOfRange : Addr
  g_OutOfRange : mg "OutOfRange" = some (.ref c_OutOfRange)
  c_TooLarge : Addr
  g_TooLarge : mg "TooLarge" = some (.ref c_TooLarge)
  c_InvalidQuery : Addr
  g_InvalidQuery : mg "InvalidQuery" = some (.ref c_InvalidQuery)
  c_InvalidAim : Addr
  g_InvalidAim : mg "InvalidAim" = some (.ref c_InvalidAim)
  c_InvalidGame : Addr
  g_InvalidGame : mg "InvalidGame" = some (.ref c_InvalidGame)
  c_ChoosersError : Addr
  g_ChoosersError : mg "ChoosersError" = some (.ref c_ChoosersError)
  fi_InvalidTerm : Addr
  di_InvalidTerm : FuncData
  ox_InvalidTerm : OexC K c_InvalidTerm
  ic_InvalidTerm : PySem.W.findIn K (.ref c_InvalidTerm) "__init__" = some (some (.ref fi_InvalidTerm))
  ti_InvalidTerm : PySem.W.typeIn K (.ref fi_InvalidTerm) = some (.type "function")
  no_InvalidTerm : PySem.W.findIn K (.ref c_InvalidTerm) "path" = some none
  xf_InvalidTerm : XfC K c_InvalidTerm
  ec_InvalidTerm : L2.ExcC K c_InvalidTerm
  in_InvalidTerm : ∀ {w : World} {base : Heap} {cx : CXT}, FnOk P w K mg base cx 1 fi_InvalidTerm di_InvalidTerm ["self", "path"] (spInit K c_InvalidTerm "path" (okPath K))
  bi_InvalidTerm : Binds K di_InvalidTerm ["self", "path"] []
  i_InvalidTerm_InvalidAim : PySem.W.kitOne K (.ref c_InvalidTerm) (.ref c_InvalidAim) = some false
  i_InvalidTerm_InvalidGame : PySem.W.kitOne K (.ref c_InvalidTerm) (.ref c_InvalidGame) = some false
  i_InvalidTerm_InvalidTerm : PySem.W.kitOne K (.ref c_InvalidTerm) (.ref c_InvalidTerm) = some true
  i_InvalidTerm_TooLarge : PySem.W.kitOne K (.ref c_InvalidTerm) (.ref c_TooLarge) = some false
  i_InvalidTerm_ChoosersError : PySem.W.kitOne K (.ref c_InvalidTerm) (.ref c_ChoosersError) = some true
  i_InvalidTerm_InvalidQuery : PySem.W.kitOne K (.ref c_InvalidTerm) (.ref c_InvalidQuery) = some false
  m_InvalidTerm_InvalidQuery : PySem.W.exmOne K (.ref c_InvalidTerm) (.ref c_InvalidQuery) = some false
  m_InvalidTerm_OutOfRange : PySem.W.exmOne K (.ref c_InvalidTerm) (.ref c_OutOfRange) = some false
  m_InvalidTerm_TooLarge : PySem.W.exmOne K (.ref c_InvalidTerm) (.ref c_TooLarge) = some false
  m_InvalidTerm_InvalidTerm : PySem.W.exmOne K (.ref c_InvalidTerm) (.ref c_InvalidTerm) = some true
  fi_InvalidText : Addr
  di_InvalidText : FuncData
  ox_InvalidText : OexC K c_InvalidText
  ic_InvalidText : PySem.W.findIn K (.ref c_InvalidText) "__init__" = some (some (.ref fi_InvalidText))
  ti_InvalidText : PySem.W.typeIn K (.ref fi_InvalidText) = some (.type "function")
  no_InvalidText : PySem.W.findIn K (.ref c_InvalidText) "position" = some none
  xf_InvalidText : XfC K c_InvalidText
  ec_InvalidText : L2.ExcC K c_InvalidText
  in_InvalidText : ∀ {w : World} {base : Heap} {cx : CXT}, FnOk P w K mg base cx 1 fi_InvalidText di_InvalidText ["self", "position"] (spInit K c_InvalidText "position" okInt)
  bi_InvalidText : Binds K di_InvalidText ["self", "position"] []
  i_InvalidText_InvalidAim : PySem.W.kitOne K (.ref c_InvalidText) (.ref c_InvalidAim) = some false
  i_InvalidText_InvalidGame : PySem.W.kitOne K (.ref c_InvalidText) (.ref c_InvalidGame) = some false
  i_InvalidText_InvalidTerm : PySem.W.kitOne K (.ref c_InvalidText) (.ref c_InvalidTerm) = some false
  i_InvalidText_TooLarge : PySem.W.kitOne K (.ref c_InvalidText) (.ref c_TooLarge) = some false
  i_InvalidText_ChoosersError : PySem.W.kitOne K (.ref c_InvalidText) (.ref c_ChoosersError) = some true
  i_InvalidText_InvalidQuery : PySem.W.kitOne K (.ref c_InvalidText) (.ref c_InvalidQuery) = some false
  m_InvalidText_InvalidQuery : PySem.W.exmOne K (.ref c_InvalidText) (.ref c_InvalidQuery) = some false
  m_InvalidText_OutOfRange : PySem.W.exmOne K (.ref c_InvalidText) (.ref c_OutOfRange) = some false
  m_InvalidText_TooLarge : PySem.W.exmOne K (.ref c_InvalidText) (.ref c_TooLarge) = some false
  m_InvalidText_InvalidTerm : PySem.W.exmOne K (.ref c_InvalidText) (.ref c_InvalidTerm) = some false
  fi_InvalidQuery : Addr
  di_InvalidQuery : FuncData
  ox_InvalidQuery : OexC K c_InvalidQuery
  ic_InvalidQuery : PySem.W.findIn K (.ref c_InvalidQuery) "__init__" = some (some (.ref fi_InvalidQuery))
  ti_InvalidQuery : PySem.W.typeIn K (.ref fi_InvalidQuery) = some (.type "function")
  no_InvalidQuery : PySem.W.findIn K (.ref c_InvalidQuery) "path" = some none
  xf_InvalidQuery : XfC K c_InvalidQuery
  ec_InvalidQuery : L2.ExcC K c_InvalidQuery
  in_InvalidQuery : ∀ {w : World} {base : Heap} {cx : CXT}, FnOk P w K mg base cx 1 fi_InvalidQuery di_InvalidQuery ["self", "path"] (spInit K c_InvalidQuery "path" (okPath K))
  bi_InvalidQuery : Binds K di_InvalidQuery ["self", "path"] []
  i_InvalidQuery_InvalidAim : PySem.W.kitOne K (.ref c_InvalidQuery) (.ref c_InvalidAim) = some false
  i_InvalidQuery_InvalidGame : PySem.W.kitOne K (.ref c_InvalidQuery) (.ref c_InvalidGame) = some false
  i_InvalidQuery_InvalidTerm : PySem.W.kitOne K (.ref c_InvalidQuery) (.ref c_InvalidTerm) = some true
  i_InvalidQuery_TooLarge : PySem.W.kitOne K (.ref c_InvalidQuery) (.ref c_TooLarge) = some false
  i_InvalidQuery_ChoosersError : PySem.W.kitOne K (.ref c_InvalidQuery) (.ref c_ChoosersError) = some true
  i_InvalidQuery_InvalidQuery : PySem.W.kitOne K (.ref c_InvalidQuery) (.ref c_InvalidQuery) = some true
  m_InvalidQuery_InvalidQuery : PySem.W.exmOne K (.ref c_InvalidQuery) (.ref c_InvalidQuery) = some true
  m_InvalidQuery_OutOfRange : PySem.W.exmOne K (.ref c_InvalidQuery) (.ref c_OutOfRange) = some false
  m_InvalidQuery_TooLarge : PySem.W.exmOne K (.ref c_InvalidQuery) (.ref c_TooLarge) = some false
  m_InvalidQuery_InvalidTerm : PySem.W.exmOne K (.ref c_InvalidQuery) (.ref c_InvalidTerm) = some true
  x_OutOfRange : PySem.W.excIn K c_OutOfRange [.type "ValueError", .type "Exception", .type "BaseException", .type "object"] "ValueError.__new__" = true
  k_OutOfRange : PySem.W.keepIn K (.ref c_OutOfRange) = true
  e_OutOfRange : PySem.W.subIn K (.ref c_OutOfRange) (.type "BaseException") = some true
  t_OutOfRange : PySem.W.typeIn K (.ref c_OutOfRange) = some (.type "type")
  ec_OutOfRange : L2.ExcC K c_OutOfRange
  i_OutOfRange_InvalidAim : PySem.W.kitOne K (.ref c_OutOfRange) (.ref c_InvalidAim) = some false
  i_OutOfRange_InvalidGame : PySem.W.kitOne K (.ref c_OutOfRange) (.ref c_InvalidGame) = some false
  i_OutOfRange_InvalidTerm : PySem.W.kitOne K (.ref c_OutOfRange) (.ref c_InvalidTerm) = some false
  i_OutOfRange_TooLarge : PySem.W.kitOne K (.ref c_OutOfRange) (.ref c_TooLarge) = some false
  i_OutOfRange_ChoosersError : PySem.W.kitOne K (.ref c_OutOfRange) (.ref c_ChoosersError) = some true
  i_OutOfRange_InvalidQuery : PySem.W.kitOne K (.ref c_OutOfRange) (.ref c_InvalidQuery) = some false
  m_OutOfRange_InvalidQuery : PySem.W.exmOne K (.ref c_OutOfRange) (.ref c_InvalidQuery) = some false
  m_OutOfRange_OutOfRange : PySem.W.exmOne K (.ref c_OutOfRange) (.ref c_OutOfRange) = some true
  m_OutOfRange_TooLarge : PySem.W.exmOne K (.ref c_OutOfRange) (.ref c_TooLarge) = some false
  m_OutOfRange_InvalidTerm : PySem.W.exmOne K (.ref c_OutOfRange) (.ref c_InvalidTerm) = some false
  x_TooLarge : PySem.W.excIn K c_TooLarge [.type "ValueError", .type "Exception", .type "BaseException", .type "object"] "ValueError.__new__" = true
  k_TooLarge : PySem.W.keepIn K (.ref c_TooLarge) = true
  e_TooLarge : PySem.W.subIn K (.ref c_TooLarge) (.type "BaseException") = some true
  t_TooLarge : PySem.W.typeIn K (.ref c_TooLarge) = some (.type "type")
  ec_TooLarge : L2.ExcC K c_TooLarge
  i_TooLarge_InvalidAim : PySem.W.kitOne K (.ref c_TooLarge) (.ref c_InvalidAim) = some false
  i_TooLarge_InvalidGame : PySem.W.kitOne K (.ref c_TooLarge) (.ref c_InvalidGame) = some false
  i_TooLarge_InvalidTerm : PySem.W.kitOne K (.ref c_TooLarge) (.ref c_InvalidTerm) = some false
  i_TooLarge_TooLarge : PySem.W.kitOne K (.ref c_TooLarge) (.ref c_TooLarge) = some true
  i_TooLarge_ChoosersError : PySem.W.kitOne K (.ref c_TooLarge) (.ref c_ChoosersError) = some true
  i_TooLarge_InvalidQuery : PySem.W.kitOne K (.ref c_TooLarge) (.ref c_InvalidQuery) = some false
  m_TooLarge_InvalidQuery : PySem.W.exmOne K (.ref c_TooLarge) (.ref c_InvalidQuery) = some false
  m_TooLarge_OutOfRange : PySem.W.exmOne K (.ref c_TooLarge) (.ref c_OutOfRange) = some false
  m_TooLarge_TooLarge : PySem.W.exmOne K (.ref c_TooLarge) (.ref c_TooLarge) = some true
  m_TooLarge_InvalidTerm : PySem.W.exmOne K (.ref c_TooLarge) (.ref c_InvalidTerm) = some false
  c_Query : Addr
  g_Query : mg "Query" = some (.ref c_Query)
  mk_Query : Mk K c_Query f_Query___init__
  cls_Query : Cls K c_Query
  fn_Query___call__ : PySem.W.fnIn K f_Query___call__ = true
  na_Query_term : NoAttr K c_Query "term"
  na_Query_widths : NoAttr K c_Query "widths"
  na_Query_outcomes : NoAttr K c_Query "outcomes"
  mc_Query : Value
  rd_Query : ClX.CRead K c_Query mc_Query
  cv_Query_MOST_LEVELS : ∃ t, ClX.CVal K c_Query mc_Query "MOST_LEVELS" (.int 20) (.int 20 t)
  cv_Query_MOST_LOOKS : ∃ t, ClX.CVal K c_Query mc_Query "MOST_LOOKS" (.int 300) (.int 300 t)
  cv_Query_MOST_CHOICES : ∃ t, ClX.CVal K c_Query mc_Query "MOST_CHOICES" (.int 256) (.int 256 t)
  me_Query___call__ : Meth K c_Query "__call__" f_Query___call__
  me_Query_text : Meth K c_Query "text" f_Query_text
  ps_Query_read : Addr
  sm_Query_read : SMet K c_Query mc_Query "read" ps_Query_read f_Query_read
  c_Row : Addr
  g_Row : mg "Row" = some (.ref c_Row)
  mk_Row : Mk K c_Row f_Row___init__
  cls_Row : Cls K c_Row
  fn_Row___getitem__ : PySem.W.fnIn K f_Row___getitem__ = true
  na_Row_head : NoAttr K c_Row "head"
  na_Row_cycle : NoAttr K c_Row "cycle"
  me_Row___getitem__ : Meth K c_Row "__getitem__" f_Row___getitem__
end LW
set_option Elab.async false
set_option linter.all false
set_option maxRecDepth 100000
namespace HX
open PySem PySem.Spec PyProof.Rows L2 DW
abbrev FnI := Option (Str × Str × Arguments × FuncBody × Scope × Addr × List Str × Addr)
def fnI (K : PySem.W.Frag) (a : Addr) : FnI :=
  match List.lookup a K with
  | some ⟨_, _, .func fd, _⟩ => some (fd.name, fd.qualname, fd.params, fd.body, fd.scope, fd.globals, fd.closure.map (·.1), fd.builtins)
  | _ => none
def vI (x q : Str) (st : Stmt) (cl : List Str) : FnI := some (x, q, defArgs st, .stmts (defBody st), defScope st, mainGlobals, cl, builtinsNs)
theorem fn_at {K : PySem.W.Frag} {ats : List (PySem.W.Frag → Addr)} {vals : List FnI} (h : (ats.map fun f => fnI K (f K)) = vals) (i : Nat) {f : PySem.W.Frag → Addr} {v : FnI} (h1 : ats[i]? = some f := by rfl) (h2 : vals[i]? = some v := by rfl) : fnI K (f K) = v := by
  have : (ats.map fun f => fnI K (f K))[i]? = some (fnI K (f K)) := by rw [List.getElem?_map, h1]; rfl
  rw [h, h2] at this
  exact (Option.some.inj this).symm
/-- a def without a cell -/
def fnB (K : PySem.W.Frag) (a : Addr) (q : Str) (dvs : List V) : Bool :=
  PySem.W.keepIn K (.ref a) &&
    match List.lookup a K with
    | some ⟨_, _, .func fd, _⟩ => PySem.W.codeIn K fd.code q && He.dflB K fd.defaults dvs
    | _ => false
theorem funD_of {K : PySem.W.Frag} {a : Addr} {x q : Str} {st : Stmt} {dvs : List V} (h : fnI K a = vI x q st []) (c : fnB K a q dvs = true) : ∃ fd, FunD K x q (defArgs st) (defBody st) (defScope st) dvs [] a fd := by
  unfold fnI at h
  unfold fnB at c
  obtain ⟨kp, c⟩ := He.ba c
  split at h
  · rename_i oc od fd osl e
    rw [e] at c
    obtain ⟨c1, c2⟩ := He.ba c
    obtain ⟨n1, n2, n3, n4, n5, n6, n7, n8, n9, n10, n11, n12, n13, n14, n15⟩ := fd
    unfold vI at h
    simp only [Option.some.injEq, Prod.mk.injEq, List.map_eq_nil_iff] at h
    obtain ⟨rfl, rfl, rfl, rfl, rfl, rfl, rfl, rfl⟩ := h
    exact ⟨_, ⟨_, _, _, _, _, _, _, _, _, _, rfl, e, c1, He.dflB_ok c2, .inl rfl⟩, kp⟩
  · unfold vI at h; cases h
theorem fun_of {K : PySem.W.Frag} {a : Addr} {x q : Str} {st : Stmt} (h : fnI K a = vI x q st []) (c : fnB K a q [] = true) : ∃ fd, Fun K x q st a fd := by
  unfold fnI at h
  unfold fnB at c
  obtain ⟨kp, c⟩ := He.ba c
  split at h
  · rename_i oc od fd osl e
    rw [e] at c
    obtain ⟨c1, c2⟩ := He.ba c
    obtain ⟨n1, n2, n3, n4, n5, n6, n7, n8, n9, n10, n11, n12, n13, n14, n15⟩ := fd
    unfold vI at h
    simp only [Option.some.injEq, Prod.mk.injEq, List.map_eq_nil_iff] at h
    obtain ⟨rfl, rfl, rfl, rfl, rfl, rfl, rfl, rfl⟩ := h
    have e2 : n8 = Value.none := by
      rcases He.dflB_ok c2 with ⟨_, z⟩ | ⟨z, _⟩
      · exact z
      · exact absurd rfl z
    subst e2
    exact ⟨_, ⟨_, _, _, _, _, _, _, _, _, rfl, e, c1⟩, kp⟩
  · unfold vI at h; cases h
def intB (K : PySem.W.Frag) (x : Str) (i : Int) : Bool := match PySem.W.nsIn K mainGlobals x with
  | some (some (.int j _)) => decide (j = i)
  | _ => false
theorem intB_ok {K : PySem.W.Frag} {x : Str} {i : Int} (h : intB K x i = true) : ∃ t, PySem.W.nsIn K mainGlobals x = some (some (.int i t)) := by
  unfold intB at h
  split at h
  · rename_i j t e; exact ⟨t, by rw [e, of_decide_eq_true h]⟩
  · cases h
def strB (K : PySem.W.Frag) (x z : Str) : Bool := match PySem.W.nsIn K mainGlobals x with
  | some (some (.str y _)) => decide (y = z)
  | _ => false
theorem strB_ok {K : PySem.W.Frag} {x z : Str} (h : strB K x z = true) : ∃ t, PySem.W.nsIn K mainGlobals x = some (some (.str z t)) := by
  unfold strB at h
  split at h
  · rename_i j t e; exact ⟨t, by rw [e, of_decide_eq_true h]⟩
  · cases h
/-- a constant of a class -/
def cvB (K : PySem.W.Frag) (C : Addr) (y : Str) (i : Int) : Bool := match PySem.W.findCls K (.ref C) (.type "type") y with
  | some (.val (.int j _)) => decide (j = i)
  | _ => false
theorem cvB_ok {K : PySem.W.Frag} {C : Addr} {y : Str} {i : Int} (h : cvB K C y i = true) : ∃ t, PySem.W.findCls K (.ref C) (.type "type") y = some (.val (.int i t)) := by
  unfold cvB at h
  split at h
  · rename_i j t e; exact ⟨t, by rw [e, of_decide_eq_true h]⟩
  · cases h
def smB (K : PySem.W.Frag) (C p f : Addr) (m : Str) : Bool :=
  (match PySem.W.findCls K (.ref C) (.type "type") m with
    | some (.get g q n c) => decide (g = .builtin "staticmethod.__get__") && (decide (q = .ref p) && (decide (n = .none) && decide (c = .ref C)))
    | _ => false) &&
  (match PySem.W.recIn K p "staticmethod" with
    | some (v :: _) => decide (v = .ref f)
    | _ => false)
theorem smB_ok {K : PySem.W.Frag} {C p f : Addr} {m : Str} (h : smB K C p f m = true) : PySem.W.findCls K (.ref C) (.type "type") m = some (.get (.builtin "staticmethod.__get__") (.ref p) .none (.ref C)) ∧ ∃ rest, PySem.W.recIn K p "staticmethod" = some (.ref f :: rest) := by
  unfold smB at h
  obtain ⟨h1, h2⟩ := He.ba h
  constructor
  · split at h1
    · rename_i g q n c e
      obtain ⟨a, h1⟩ := He.ba h1
      obtain ⟨b, h1⟩ := He.ba h1
      obtain ⟨d, h1⟩ := He.ba h1
      rw [e, of_decide_eq_true a, of_decide_eq_true b, of_decide_eq_true d, of_decide_eq_true h1]
    · cases h1
  · split at h2
    · rename_i v r e
      exact ⟨r, by rw [e, of_decide_eq_true h2]⟩
    · cases h2
def tupB (K : PySem.W.Frag) (a : Addr) (xs : List V) : Bool := match List.lookup a K with
  | some ⟨c, none, .seq its _, _⟩ => decide (c = .type "tuple") && (decide (its.size ≤ sizeLine) && He.relAll xs its.toList)
  | _ => false
theorem tupB_ok {K : PySem.W.Frag} {a : Addr} {xs : List V} (h : tupB K a xs = true) : SqTw K a xs := by
  unfold tupB at h
  split at h
  · rename_i c its n sl e
    obtain ⟨h1, h⟩ := He.ba h
    obtain ⟨h2, h⟩ := He.ba h
    exact ⟨_, its, n, e, of_decide_eq_true h1, rfl, rfl, of_decide_eq_true h2, He.relAll_ok h⟩
  · cases h
/-- the class of an error of one's own -/
def excB (K : PySem.W.Frag) (C : Addr) : Bool := match List.lookup C K with
  | some ⟨t, _, .cls cd, sl⟩ => decide (t = .type "type") && (cd.hasDict && (!cd.hasDel && (match cd.mro, sl.toList with
    | .ref D :: bm, [_, _, _, _, some v, _] => decide (D = C) && (decide (v = .builtin "ValueError.__new__") && PySem.HandSPX.refsVE bm)
    | _, _ => false)))
  | _ => false
theorem excB_ok {K : PySem.W.Frag} {C : Addr} (h : excB K C = true) : ∃ nm q N bs bm sn sub ab col dd k0 k1 k2 k3 k5,
    List.lookup C K = some (excClassObj nm q C N bs bm true sn sub ab col dd k0 k1 k2 k3 k5 "ValueError.__new__") ∧ PySem.HandSPX.refsVE bm = true := by
  unfold excB at h
  split at h
  · rename_i t dd cd sl e
    obtain ⟨n1, n2, n3, n4, n5, n6, n7, n8, n9, n10, n11⟩ := cd
    rw [Bool.and_eq_true, Bool.and_eq_true, Bool.and_eq_true] at h
    obtain ⟨h1, h2, h3, h4⟩ := h
    have g1 := of_decide_eq_true h1
    have g2 : n6 = true := h2
    have g3 : n11 = false := by simpa using h3
    clear h1 h2 h3
    subst g1
    subst g2
    subst g3
    split at h4
    · rename_i D bm k0 k1 k2 k3 v k5 em es
      rw [Bool.and_eq_true, Bool.and_eq_true] at h4
      obtain ⟨h5, h6, h7⟩ := h4
      have g4 := of_decide_eq_true h5
      have g5 := of_decide_eq_true h6
      subst g4
      subst g5
      have em : n3 = _ := em
      subst em
      have es : sl = #[k0, k1, k2, k3, some (.builtin "ValueError.__new__"), k5] := by
        have := congrArg List.toArray es
        simpa using this
      subst es
      exact ⟨_, _, _, _, _, _, _, _, _, _, _, _, _, _, _, e, h7⟩
    · cases h4
  · cases h
/-- an own __init__ that calls super().__init__ -/
def initB (K : PySem.W.Frag) (f D : Addr) (q file : Str) : Bool := match List.lookup f K with
  | some ⟨_, _, .func fd, _⟩ => (match fd.defaults, fd.code, fd.closure with
    | .none, .ref cda, [(_, cc)] => PySem.W.codeIn K (.ref cda) q && ((match List.lookup cc K with
        | some ⟨_, _, .cell (some v), _⟩ => decide (v = .ref D)
        | _ => false) && (match List.lookup cda K with
        | some ⟨_, _, .fields vs, _⟩ => (match (vs[2]? : Option Value) with
          | some (Value.str y _) => decide (y = file)
          | _ => false)
        | _ => false))
    | _, _, _ => false)
  | _ => false
theorem init_of {K : PySem.W.Frag} {f D : Addr} {q file : Str} {st : Stmt} (h : fnI K f = vI "__init__" q st ["__class__"]) (c : initB K f D q file = true) :
    ∃ oc od osl kV doc pm an cda ct cc, List.lookup f K = some ⟨oc, od, .func (PySem.W.ksFn "__init__" q (defArgs st) (defBody st) (defScope st) .none kV doc pm an (.ref cda) ct cc), osl⟩ ∧ PySem.W.codeIn K (.ref cda) q = true ∧
      (∃ cl cld csl, List.lookup cc K = some ⟨cl, cld, .cell (some (.ref D)), csl⟩) ∧ ∃ ccl cdd vs ccs tf, List.lookup cda K = some ⟨ccl, cdd, .fields vs, ccs⟩ ∧ vs[2]? = some (.str file tf) := by
  unfold fnI at h
  unfold initB at c
  split at h
  · rename_i oc od fd osl e
    rw [e] at c
    obtain ⟨n1, n2, n3, n4, n5, n6, n7, n8, n9, n10, n11, n12, n13, n14, n15⟩ := fd
    simp only at c
    unfold vI at h
    simp only [Option.some.injEq, Prod.mk.injEq] at h
    obtain ⟨rfl, rfl, rfl, rfl, rfl, rfl, h, rfl⟩ := h
    split at c
    · rename_i cda nm cc
      have hn : nm = "__class__" := by simpa using h
      subst hn
      obtain ⟨c1, c⟩ := He.ba c
      obtain ⟨c2, c3⟩ := He.ba c
      refine ⟨_, _, _, _, _, _, _, _, _, _, e, c1, ?_, ?_⟩
      · split at c2
        · rename_i cl cld v csl e4
          exact ⟨_, _, _, by rw [e4, of_decide_eq_true c2]⟩
        · cases c2
      · split at c3
        · rename_i ccl cdd vs ccs e5
          split at c3
          · rename_i y tf e6
            exact ⟨_, _, _, _, tf, e5, by rw [e6, of_decide_eq_true c3]⟩
          · cases c3
        · cases c3
    · cases c
  · unfold vI at h; cases h
theorem walk_of {l : PySem.W.OpenLaw} {n k : Nat} {q : Program} {loose : List Str} {XP : (Str → Option Value) → Heap → Prop} {YP : World → Heap → Prop} {d : DefRec} {CX : World → CXT} {x : Str}
    (hn : l.most = some n) (h1 : n ≤ sizeLine) (h2 : d.params.defaults = []) (h3 : Room k callerA)
    (F : ∀ (w : World) (mg : Str → Option Value) (fa : Addr) (h : Heap), YP w h → h.Ns mainGlobals mg → mg d.name = some (.ref fa) →
      ∃ (K : PySem.W.Frag) (fd : FuncData) (sp : Sp), K.In h ∧ (∀ (s : Shared) (u : Value), BindsTo s fd ⟨[u], []⟩ [(x, u)]) ∧
        (∀ (H : Hp) (a : Addr) (ns : List Int), ns.length ≤ n → Only H → SqL K H a (ns.map V.int) → sp [V.ref a] H (fun v _ => v = .bl true) fun _ _ _ => False) ∧
        ∀ base : Heap, K.In base → base.Ns mainGlobals mg → FnOk l.prog w K mg base (CX w) k fa fd [x] sp)
    (hcx : ∀ (w : World) (H : Hp) (s : Shared) (e : Value) (s' : Shared), CX w [] H s (fun _ _ _ => False) e s' → False) :
    PySem.W.WalkO q loose XP YP l.row.toRowW d [] (fun f vs => PySem.call f vs) := fun w s₀ s₁ mg mb g y =>
  (walk_ofE (l := l) (q := q) (loose := loose) (XP := XP) (YP := fun w' h => w' = w ∧ YP w' h) (CX := CX w) hn h1 h2 h3 (fun w' mg fa h Y G hm => by
    obtain ⟨rfl, Y⟩ := Y
    exact F w' mg fa h Y G hm) (hcx w) : PySem.W.WalkO q loose XP (fun w' h => w' = w ∧ YP w' h) l.row.toRowW d [] (fun f vs => PySem.call f vs)) w s₀ s₁ mg mb g ⟨rfl, y⟩
end HX
set_option Elab.async false
set_option linter.all false
set_option maxRecDepth 100000
namespace HX
open PySem PySem.Spec PyProof.Rows L2 DW
abbrev KyI := Option (List (Option (Str × Int)))
end HX
set_option Elab.async false
set_option linter.all false
set_option maxRecDepth 100000
namespace HX
open PySem PySem.Spec PyProof.Rows L2 DW
end HX
set_option Elab.async false
set_option linter.all false
set_option maxRecDepth 100000
namespace HX
open PySem PySem.Spec PyProof.Rows L2 DW
def obsW (as : List Addr) (ck : PySem.W.Frag → Bool) (ats ds : List (PySem.W.Frag → Addr)) (g : Addr → Option Obj) : Bool × List FnI × List KyI :=
  (fun K => (ck K, ats.map (fun f => fnI K (f K)), ds.map fun f => He.dicW K (f K))) (He.frG g as)
theorem obsW_eq {as : List Addr} {ck : PySem.W.Frag → Bool} {ats ds : List (PySem.W.Frag → Addr)} {g g' : Addr → Option Obj} (h : ∀ a, g a = g' a) : obsW as ck ats ds g = obsW as ck ats ds g' := by rw [funext h]
def hookW (as : List Addr) (ck : PySem.W.Frag → Bool) (ats : List (PySem.W.Frag → Addr)) (vals : List FnI) (ds : List (PySem.W.Frag → Addr)) (kys : List (List Str)) : PySem.W.Hook where
  α := Bool × List FnI × List KyI
  obs := fun s => obsW as ck ats ds s.heap.get?
  val := fun w => (true, vals, kys.map fun k => some (He.keysIn w.params k))
  says := fun w h => ∃ K : PySem.W.Frag, K.In h ∧ ck K = true ∧ (ats.map fun f => fnI K (f K)) = vals ∧ (ds.map fun f => He.dicW K (f K)) = kys.map fun k => some (He.keysIn w.params k)
  of := fun _ s e => ⟨He.frG s.heap.get? as, He.frG_in, congrArg Prod.fst e, congrArg (fun z => z.2.1) e, congrArg (fun z => z.2.2) e⟩
  keeps := fun _ h h' ⟨K, k, r⟩ hm => ⟨K, fun a o e => hm a o (k a o e), r⟩
end HX
set_option Elab.async false
set_option linter.all false
set_option maxRecDepth 100000
namespace HX
open PySem PySem.Spec PyProof.Rows L2 DW
theorem runEq_and {r : PySem.W.OpenRow} {q : Program} {as : List Addr} {c1 c2 : PySem.W.Frag → Bool} {ats : List (PySem.W.Frag → Addr)} {vals : List FnI} {ds : List (PySem.W.Frag → Addr)} {kys : List (List Str)} {M : Nat} {names : List PySem.Str} {w : World}
    (h1 : HandSHeadRun.RunEq r q (hookW as c1 ats vals ds kys) (fun s => obsW as c1 ats ds (HandSHeadRun.getT s)) M names w)
    (h2 : HandSHeadRun.RunEq r q (hookW as c2 [] [] [] []) (fun s => obsW as c2 [] [] (HandSHeadRun.getT s)) M names w) :
    HandSHeadRun.RunEq r q (hookW as (fun K => c1 K && c2 K) ats vals ds kys) (fun s => obsW as (fun K => c1 K && c2 K) ats ds (HandSHeadRun.getT s)) M names w := by
  intro os
  have e1 := h1 os
  have e2 := h2 os
  clear h1 h2
  revert e1 e2
  cases HandSHeadRun.endF (HandSHeadRun.stepQ (HandSHeadRun.denQ HandSHeadRun.tabQ) r.prog w) M r.prog w os with
  | none => intro e1; cases e1
  | some s =>
    intro e1 e2
    have e1 := Option.some.inj e1
    have e2 := Option.some.inj e2
    have a1 := congrArg (fun z => z.1) e1
    have a2 := congrArg (fun z => z.2.1) e1
    have a3 : obsW as c1 ats ds (HandSHeadRun.getT s) = (true, vals, kys.map fun k => some (He.keysIn w.params k)) := congrArg (fun z => z.2.2) e1
    have a4 : obsW as c2 [] [] (HandSHeadRun.getT s) = (true, [], []) := congrArg (fun z => z.2.2) e2
    refine congrArg some (Prod.ext a1 (Prod.ext a2 ?_))
    have b1 : c1 (He.frG (HandSHeadRun.getT s) as) = true := congrArg (fun z => z.1) a3
    have b2 : c2 (He.frG (HandSHeadRun.getT s) as) = true := congrArg (fun z => z.1) a4
    have b3 := congrArg (fun z => z.2) a3
    refine Prod.ext ?_ b3
    show (c1 _ && c2 _) = true
    rw [b1, b2]; rfl
end HX
set_option Elab.async false
set_option linter.all false
set_option maxRecDepth 100000
set_option maxHeartbeats 4000000
namespace LW
open PySem PySem.Spec L2 DW PyProof.Rows NdefX HX
abbrev si_InvalidTerm : Stmt := (C8.clsBody (topS 4)).getD 0 (.Pass ⟨0, 0, 0, 0⟩)
abbrev si_InvalidText : Stmt := (C8.clsBody (topS 3)).getD 0 (.Pass ⟨0, 0, 0, 0⟩)
def ad_c_InvalidTerm (_ : PySem.W.Frag) : Addr := 74
def ad_c_InvalidText (_ : PySem.W.Frag) : Addr := 53
def ad_c_OutOfRange (_ : PySem.W.Frag) : Addr := 122
def ad_c_TooLarge (_ : PySem.W.Frag) : Addr := 146
def ad_c_InvalidQuery (_ : PySem.W.Frag) : Addr := 110
def ad_c_InvalidAim (_ : PySem.W.Frag) : Addr := 86
def ad_c_InvalidGame (_ : PySem.W.Frag) : Addr := 98
def ad_c_ChoosersError (_ : PySem.W.Frag) : Addr := 31
def ad_c_Query (_ : PySem.W.Frag) : Addr := 399
def ad_c_Row (_ : PySem.W.Frag) : Addr := 460
def ad_ps26 (_ : PySem.W.Frag) : Addr := 395
def ad_fi_InvalidTerm (_ : PySem.W.Frag) : Addr := 71
def ad_fi_InvalidText (_ : PySem.W.Frag) : Addr := 50
def ad_fi_InvalidQuery (_ : PySem.W.Frag) : Addr := 71
def ad_f0 (_ : PySem.W.Frag) : Addr := 155
def ad_f1 (_ : PySem.W.Frag) : Addr := 162
def ad_f2 (_ : PySem.W.Frag) : Addr := 167
def ad_f3 (_ : PySem.W.Frag) : Addr := 181
def ad_f4 (_ : PySem.W.Frag) : Addr := 186
def ad_f5 (_ : PySem.W.Frag) : Addr := 174
def ad_f6 (_ : PySem.W.Frag) : Addr := 207
def ad_f7 (_ : PySem.W.Frag) : Addr := 200
def ad_f8 (_ : PySem.W.Frag) : Addr := 214
def ad_f9 (_ : PySem.W.Frag) : Addr := 193
def ad_f10 (_ : PySem.W.Frag) : Addr := 221
def ad_f11 (_ : PySem.W.Frag) : Addr := 228
def ad_f12 (_ : PySem.W.Frag) : Addr := 235
def ad_f13 (_ : PySem.W.Frag) : Addr := 242
def ad_f14 (_ : PySem.W.Frag) : Addr := 249
def ad_f15 (_ : PySem.W.Frag) : Addr := 254
def ad_f16 (_ : PySem.W.Frag) : Addr := 261
def ad_f17 (_ : PySem.W.Frag) : Addr := 268
def ad_f18 (_ : PySem.W.Frag) : Addr := 275
def ad_f19 (_ : PySem.W.Frag) : Addr := 280
def ad_f20 (_ : PySem.W.Frag) : Addr := 285
def ad_f21 (_ : PySem.W.Frag) : Addr := 292
def ad_f22 (_ : PySem.W.Frag) : Addr := 299
def ad_f23 (_ : PySem.W.Frag) : Addr := 344
def ad_f24 (_ : PySem.W.Frag) : Addr := 351
def ad_f25 (_ : PySem.W.Frag) : Addr := 386
def ad_f26 (_ : PySem.W.Frag) : Addr := 393
def ad_f27 (_ : PySem.W.Frag) : Addr := 417
def ad_dA27 (_ : PySem.W.Frag) : Addr := 411
def ad_f28 (_ : PySem.W.Frag) : Addr := 424
def ad_f29 (_ : PySem.W.Frag) : Addr := 471
def ad_f30 (_ : PySem.W.Frag) : Addr := 478
def ad_f31 (_ : PySem.W.Frag) : Addr := 485
def ad_f32 (_ : PySem.W.Frag) : Addr := 490
def ad_f33 (_ : PySem.W.Frag) : Addr := 497
def ad_f34 (_ : PySem.W.Frag) : Addr := 502
def ad_f35 (_ : PySem.W.Frag) : Addr := 507
def ad_f36 (_ : PySem.W.Frag) : Addr := 514
def ad_f37 (_ : PySem.W.Frag) : Addr := 521
def ad_f38 (_ : PySem.W.Frag) : Addr := 528
def ad_f39 (_ : PySem.W.Frag) : Addr := 535
def ad_f40 (_ : PySem.W.Frag) : Addr := 540
def ad_f41 (_ : PySem.W.Frag) : Addr := 545
def ad_f42 (_ : PySem.W.Frag) : Addr := 552
def ad_f43 (_ : PySem.W.Frag) : Addr := 559
def ad_f44 (_ : PySem.W.Frag) : Addr := 566
def ad_f45 (_ : PySem.W.Frag) : Addr := 573
def ad_f46 (_ : PySem.W.Frag) : Addr := 578
def ad_f47 (_ : PySem.W.Frag) : Addr := 585
def ad_f48 (_ : PySem.W.Frag) : Addr := 592
def ad_f49 (_ : PySem.W.Frag) : Addr := 599
def ad_f50 (_ : PySem.W.Frag) : Addr := 606
def fileP : Str := PySem.Challenge.pw_choosersrow_k39_queries_and_looks.main.file
def ck0 (K : PySem.W.Frag) (c_Query c_Row f0 f1 f2 f3 f4 f5 f6 f7 : Addr) : Bool :=
  (He.eqO (PySem.W.nsIn K mainGlobals "Query") (some (some (.ref c_Query)))) && ((He.eqO (PySem.W.nsIn K mainGlobals "Row") (some (some (.ref c_Row)))) && ((He.eqO (PySem.W.nsIn K mainGlobals "is_number") (some (some (.ref f0)))) && ((fnB K f0 "is_number" []) && ((PySem.W.keepIn K (.ref f0)) && ((He.eqO (PySem.W.nsIn K mainGlobals "is_below") (some (some (.ref f1)))) && ((fnB K f1 "is_below" []) && ((PySem.W.keepIn K (.ref f1)) && ((He.eqO (PySem.W.nsIn K mainGlobals "is_word") (some (some (.ref f2)))) && ((fnB K f2 "is_word" []) && ((PySem.W.keepIn K (.ref f2)) && ((He.eqO (PySem.W.nsIn K mainGlobals "wrong_part") (some (some (.ref f3)))) && ((fnB K f3 "wrong_part" []) && ((PySem.W.keepIn K (.ref f3)) && ((He.eqO (PySem.W.nsIn K mainGlobals "text_of") (some (some (.ref f4)))) && ((fnB K f4 "text_of" []) && ((PySem.W.keepIn K (.ref f4)) && ((He.eqO (PySem.W.nsIn K mainGlobals "write_term") (some (some (.ref f5)))) && ((fnB K f5 "write_term" []) && ((PySem.W.keepIn K (.ref f5)) && ((He.eqO (PySem.W.nsIn K mainGlobals "run_end") (some (some (.ref f6)))) && ((fnB K f6 "run_end" []) && ((PySem.W.keepIn K (.ref f6)) && ((He.eqO (PySem.W.nsIn K mainGlobals "read_part") (some (some (.ref f7)))) && ((fnB K f7 "read_part" [])))))))))))))))))))))))))
def ck1 (K : PySem.W.Frag) (f7 f8 f9 f10 f11 f12 f13 f14 f15 : Addr) : Bool :=
  (PySem.W.keepIn K (.ref f7)) && ((He.eqO (PySem.W.nsIn K mainGlobals "read_tuple") (some (some (.ref f8)))) && ((fnB K f8 "read_tuple" []) && ((PySem.W.keepIn K (.ref f8)) && ((He.eqO (PySem.W.nsIn K mainGlobals "read_term") (some (some (.ref f9)))) && ((fnB K f9 "read_term" []) && ((PySem.W.keepIn K (.ref f9)) && ((He.eqO (PySem.W.nsIn K mainGlobals "read_headed") (some (some (.ref f10)))) && ((fnB K f10 "read_headed" []) && ((PySem.W.keepIn K (.ref f10)) && ((He.eqO (PySem.W.nsIn K mainGlobals "count_choices") (some (some (.ref f11)))) && ((fnB K f11 "count_choices" []) && ((PySem.W.keepIn K (.ref f11)) && ((He.eqO (PySem.W.nsIn K mainGlobals "has_outcomes") (some (some (.ref f12)))) && ((fnB K f12 "has_outcomes" []) && ((PySem.W.keepIn K (.ref f12)) && ((He.eqO (PySem.W.nsIn K mainGlobals "width_at") (some (some (.ref f13)))) && ((fnB K f13 "width_at" []) && ((PySem.W.keepIn K (.ref f13)) && ((He.eqO (PySem.W.nsIn K mainGlobals "terms_behind") (some (some (.ref f14)))) && ((fnB K f14 "terms_behind" []) && ((PySem.W.keepIn K (.ref f14)) && ((He.eqO (PySem.W.nsIn K mainGlobals "are_widths") (some (some (.ref f15)))) && ((fnB K f15 "are_widths" []) && ((PySem.W.keepIn K (.ref f15))))))))))))))))))))))))))
def ck2 (K : PySem.W.Frag) (c_Query f16 f17 f18 f19 f20 f21 f22 f23 : Addr) : Bool :=
  (He.eqO (PySem.W.nsIn K mainGlobals "require_form") (some (some (.ref f16)))) && ((fnB K f16 "require_form" []) && ((PySem.W.keepIn K (.ref f16)) && ((He.eqO (PySem.W.nsIn K mainGlobals "has_query_form") (some (some (.ref f17)))) && ((fnB K f17 "has_query_form" []) && ((PySem.W.keepIn K (.ref f17)) && ((He.eqO (PySem.W.nsIn K mainGlobals "wrong_query") (some (some (.ref f18)))) && ((fnB K f18 "wrong_query" []) && ((PySem.W.keepIn K (.ref f18)) && ((He.eqO (PySem.W.nsIn K mainGlobals "places_of") (some (some (.ref f19)))) && ((fnB K f19 "places_of" []) && ((PySem.W.keepIn K (.ref f19)) && ((He.eqO (PySem.W.nsIn K mainGlobals "require_few") (some (some (.ref f20)))) && ((fnB K f20 "require_few" []) && ((PySem.W.keepIn K (.ref f20)) && ((He.eqO (PySem.W.nsIn K mainGlobals "followed") (some (some (.ref f21)))) && ((fnB K f21 "followed" []) && ((PySem.W.keepIn K (.ref f21)) && ((He.eqO (PySem.W.nsIn K mainGlobals "looked_places") (some (some (.ref f22)))) && ((fnB K f22 "looked_places" []) && ((PySem.W.keepIn K (.ref f22)) && ((He.eqO (PySem.W.findIn K (.ref c_Query) "__init__") (some (some (.ref f23)))) && ((PySem.W.isFn K (.ref f23)) && ((fnB K f23 "Query.__init__" []) && ((PySem.W.keepIn K (.ref f23))))))))))))))))))))))))))
def ck3 (K : PySem.W.Frag) (c_Query c_Row ps26 f24 f25 f26 f27 dA27 f28 f29 f30 : Addr) : Bool :=
  (He.eqO (PySem.W.findIn K (.ref c_Query) "__call__") (some (some (.ref f24)))) && ((PySem.W.isFn K (.ref f24)) && ((fnB K f24 "Query.__call__" []) && ((PySem.W.keepIn K (.ref f24)) && ((He.eqO (PySem.W.findIn K (.ref c_Query) "text") (some (some (.ref f25)))) && ((PySem.W.isFn K (.ref f25)) && ((fnB K f25 "Query.text" []) && ((PySem.W.keepIn K (.ref f25)) && ((smB K c_Query ps26 f26 "read") && ((decide (PySem.W.typeIn K (.ref c_Query) = some (.type "type"))) && ((fnB K f26 "Query.read" []) && ((PySem.W.keepIn K (.ref f26)) && ((He.eqO (PySem.W.findIn K (.ref c_Row) "__init__") (some (some (.ref f27)))) && ((PySem.W.isFn K (.ref f27)) && ((fnB K f27 "Row.__init__" [V.ref dA27]) && ((tupB K dA27 (([0] : List Int).map V.int)) && ((PySem.W.keepIn K (.ref f27)) && ((He.eqO (PySem.W.findIn K (.ref c_Row) "__getitem__") (some (some (.ref f28)))) && ((PySem.W.isFn K (.ref f28)) && ((fnB K f28 "Row.__getitem__" []) && ((PySem.W.keepIn K (.ref f28)) && ((He.eqO (PySem.W.nsIn K mainGlobals "_law_start") (some (some (.ref f29)))) && ((fnB K f29 "_law_start" []) && ((PySem.W.keepIn K (.ref f29)) && ((He.eqO (PySem.W.nsIn K mainGlobals "_law_pick") (some (some (.ref f30))))))))))))))))))))))))))))
def ck4 (K : PySem.W.Frag) (f30 f31 f32 f33 f34 f35 f36 f37 f38 : Addr) : Bool :=
  (fnB K f30 "_law_pick" []) && ((PySem.W.keepIn K (.ref f30)) && ((He.eqO (PySem.W.nsIn K mainGlobals "_law_width") (some (some (.ref f31)))) && ((fnB K f31 "_law_width" []) && ((PySem.W.keepIn K (.ref f31)) && ((He.eqO (PySem.W.nsIn K mainGlobals "_law_widths") (some (some (.ref f32)))) && ((fnB K f32 "_law_widths" []) && ((PySem.W.keepIn K (.ref f32)) && ((He.eqO (PySem.W.nsIn K mainGlobals "_law_places") (some (some (.ref f33)))) && ((fnB K f33 "_law_places" []) && ((PySem.W.keepIn K (.ref f33)) && ((He.eqO (PySem.W.nsIn K mainGlobals "_law_term") (some (some (.ref f34)))) && ((fnB K f34 "_law_term" []) && ((PySem.W.keepIn K (.ref f34)) && ((He.eqO (PySem.W.nsIn K mainGlobals "_law_chain") (some (some (.ref f35)))) && ((fnB K f35 "_law_chain" []) && ((PySem.W.keepIn K (.ref f35)) && ((He.eqO (PySem.W.nsIn K mainGlobals "_law_many_looks") (some (some (.ref f36)))) && ((fnB K f36 "_law_many_looks" []) && ((PySem.W.keepIn K (.ref f36)) && ((He.eqO (PySem.W.nsIn K mainGlobals "_law_spoilt") (some (some (.ref f37)))) && ((fnB K f37 "_law_spoilt" []) && ((PySem.W.keepIn K (.ref f37)) && ((He.eqO (PySem.W.nsIn K mainGlobals "_law_create") (some (some (.ref f38)))) && ((fnB K f38 "_law_create" [])))))))))))))))))))))))))
def ck5 (K : PySem.W.Frag) (f38 f39 f40 f41 f42 f43 f44 f45 f46 : Addr) : Bool :=
  (PySem.W.keepIn K (.ref f38)) && ((He.eqO (PySem.W.nsIn K mainGlobals "_law_entry") (some (some (.ref f39)))) && ((fnB K f39 "_law_entry" []) && ((PySem.W.keepIn K (.ref f39)) && ((He.eqO (PySem.W.nsIn K mainGlobals "_law_row") (some (some (.ref f40)))) && ((fnB K f40 "_law_row" []) && ((PySem.W.keepIn K (.ref f40)) && ((He.eqO (PySem.W.nsIn K mainGlobals "_law_with") (some (some (.ref f41)))) && ((fnB K f41 "_law_with" []) && ((PySem.W.keepIn K (.ref f41)) && ((He.eqO (PySem.W.nsIn K mainGlobals "_law_follow") (some (some (.ref f42)))) && ((fnB K f42 "_law_follow" []) && ((PySem.W.keepIn K (.ref f42)) && ((He.eqO (PySem.W.nsIn K mainGlobals "_law_told") (some (some (.ref f43)))) && ((fnB K f43 "_law_told" []) && ((PySem.W.keepIn K (.ref f43)) && ((He.eqO (PySem.W.nsIn K mainGlobals "_law_looked") (some (some (.ref f44)))) && ((fnB K f44 "_law_looked" []) && ((PySem.W.keepIn K (.ref f44)) && ((He.eqO (PySem.W.nsIn K mainGlobals "_law_answers") (some (some (.ref f45)))) && ((fnB K f45 "_law_answers" []) && ((PySem.W.keepIn K (.ref f45)) && ((He.eqO (PySem.W.nsIn K mainGlobals "_law_text") (some (some (.ref f46)))) && ((fnB K f46 "_law_text" []) && ((PySem.W.keepIn K (.ref f46))))))))))))))))))))))))))
def ck6 (K : PySem.W.Frag) (f47 f48 f49 f50 : Addr) : Bool :=
  (He.eqO (PySem.W.nsIn K mainGlobals "_law_unread") (some (some (.ref f47)))) && ((fnB K f47 "_law_unread" []) && ((PySem.W.keepIn K (.ref f47)) && ((He.eqO (PySem.W.nsIn K mainGlobals "_law_texts") (some (some (.ref f48)))) && ((fnB K f48 "_law_texts" []) && ((PySem.W.keepIn K (.ref f48)) && ((He.eqO (PySem.W.nsIn K mainGlobals "_law_large") (some (some (.ref f49)))) && ((fnB K f49 "_law_large" []) && ((PySem.W.keepIn K (.ref f49)) && ((He.eqO (PySem.W.nsIn K mainGlobals "law") (some (some (.ref f50)))) && ((fnB K f50 "law" []) && ((PySem.W.keepIn K (.ref f50)) && ((He.eqO (PySem.W.nsIn K mainGlobals "isinstance") (some none)) && ((He.eqO (PySem.W.nsIn K mainGlobals "int") (some none)) && ((He.eqO (PySem.W.nsIn K mainGlobals "bool") (some none)) && ((He.eqO (PySem.W.nsIn K mainGlobals "all") (some none)) && ((He.eqO (PySem.W.nsIn K mainGlobals "str") (some none)) && ((He.eqO (PySem.W.nsIn K mainGlobals "len") (some none)) && ((He.eqO (PySem.W.nsIn K mainGlobals "enumerate") (some none)) && ((He.eqO (PySem.W.nsIn K mainGlobals "tuple") (some none)) && ((He.eqO (PySem.W.nsIn K mainGlobals "sorted") (some none)) && ((He.eqO (PySem.W.nsIn K mainGlobals "set") (some none)) && ((He.eqO (PySem.W.nsIn K mainGlobals "range") (some none)) && ((He.eqO (PySem.W.nsIn K mainGlobals "list") (some none)) && ((He.eqO (PySem.W.nsIn K mainGlobals "min") (some none))))))))))))))))))))))))))
def ck7 (K : PySem.W.Frag) (c_InvalidTerm c_InvalidText c_OutOfRange c_TooLarge c_InvalidQuery c_InvalidAim c_InvalidGame c_ChoosersError : Addr) : Bool :=
  (He.eqO (PySem.W.nsIn K mainGlobals "max") (some none)) && ((He.eqO (PySem.W.nsIn K mainGlobals "staticmethod") (some none)) && ((strB K "LETTERS" "abcdefghijklmnopqrstuvwxyz") && ((strB K "DIGITS" "0123456789") && ((intB K "LONGEST_WORD" 12) && ((intB K "LONGEST_NUMBER" 9) && ((intB K "NUMBERS_END" 1000000000) && ((intB K "DEEPEST_TUPLE" 30) && ((intB K "MOST_OUTCOMES" 4) && ((intB K "MOST_WIDTHS" 6) && ((intB K "WIDEST" 4) && ((intB K "PLACES" 100) && ((intB K "ITEMS_BEFORE" 2) && ((intB K "TWO_OUTCOMES" 2) && ((He.eqO (PySem.W.nsIn K mainGlobals "InvalidTerm") (some (some (.ref c_InvalidTerm)))) && ((He.eqO (PySem.W.nsIn K mainGlobals "InvalidText") (some (some (.ref c_InvalidText)))) && ((He.eqO (PySem.W.nsIn K mainGlobals "OutOfRange") (some (some (.ref c_OutOfRange)))) && ((He.eqO (PySem.W.nsIn K mainGlobals "TooLarge") (some (some (.ref c_TooLarge)))) && ((He.eqO (PySem.W.nsIn K mainGlobals "InvalidQuery") (some (some (.ref c_InvalidQuery)))) && ((He.eqO (PySem.W.nsIn K mainGlobals "InvalidAim") (some (some (.ref c_InvalidAim)))) && ((He.eqO (PySem.W.nsIn K mainGlobals "InvalidGame") (some (some (.ref c_InvalidGame)))) && ((He.eqO (PySem.W.nsIn K mainGlobals "ChoosersError") (some (some (.ref c_ChoosersError)))) && ((PySem.W.excIn K c_OutOfRange [.type "ValueError", .type "Exception", .type "BaseException", .type "object"] "ValueError.__new__") && ((PySem.W.excIn K c_TooLarge [.type "ValueError", .type "Exception", .type "BaseException", .type "object"] "ValueError.__new__") && ((He.eqO (PySem.W.nsIn K mainGlobals "super") (some none))))))))))))))))))))))))))
def ck8 (K : PySem.W.Frag) (c_InvalidTerm c_InvalidText c_OutOfRange c_TooLarge c_InvalidQuery c_InvalidAim c_InvalidGame c_ChoosersError : Addr) : Bool :=
  (He.eqO (PySem.W.nsIn K cStatics "thirdparty.any") (some none)) && ((PySem.W.keepIn K (.ref c_InvalidTerm)) && ((decide (PySem.W.subIn K (.ref c_InvalidTerm) (.type "BaseException") = some true)) && ((decide (PySem.W.typeIn K (.ref c_InvalidTerm) = some (.type "type"))) && ((He.eqO (PySem.W.findIn K (.ref c_InvalidTerm) "__getattribute__") (some (some (.builtin "BaseException.__getattribute__")))) && ((He.eqO (PySem.W.findIn K (.ref c_InvalidTerm) "__getattr__") (some none)) && ((PySem.W.hasDictIn K c_InvalidTerm) && ((He.eqO (PySem.W.findIn K (.ref c_InvalidTerm) "__class__") (some (some (.builtin "object.__class__")))) && ((decide (PySem.W.mroIn K c_InvalidTerm (.type "object") = some true)) && ((decide (PySem.W.subIn K (.ref c_InvalidTerm) (.ref c_InvalidTerm) = some true)) && ((decide (PySem.W.subIn K (.ref c_InvalidTerm) (.ref c_InvalidAim) = some false)) && ((decide (PySem.W.subIn K (.ref c_InvalidTerm) (.ref c_InvalidGame) = some false)) && ((decide (PySem.W.subIn K (.ref c_InvalidTerm) (.ref c_TooLarge) = some false)) && ((decide (PySem.W.subIn K (.ref c_InvalidTerm) (.ref c_ChoosersError) = some true)) && ((decide (PySem.W.subIn K (.ref c_InvalidTerm) (.ref c_InvalidQuery) = some false)) && ((decide (PySem.W.subIn K (.ref c_InvalidTerm) (.ref c_OutOfRange) = some false)) && ((PySem.W.keepIn K (.ref c_InvalidText)) && ((decide (PySem.W.subIn K (.ref c_InvalidText) (.type "BaseException") = some true)) && ((decide (PySem.W.typeIn K (.ref c_InvalidText) = some (.type "type"))) && ((He.eqO (PySem.W.findIn K (.ref c_InvalidText) "__getattribute__") (some (some (.builtin "BaseException.__getattribute__")))) && ((He.eqO (PySem.W.findIn K (.ref c_InvalidText) "__getattr__") (some none)) && ((PySem.W.hasDictIn K c_InvalidText) && ((He.eqO (PySem.W.findIn K (.ref c_InvalidText) "__class__") (some (some (.builtin "object.__class__")))) && ((decide (PySem.W.mroIn K c_InvalidText (.type "object") = some true)) && ((decide (PySem.W.subIn K (.ref c_InvalidText) (.ref c_InvalidText) = some true))))))))))))))))))))))))))
def ck9 (K : PySem.W.Frag) (c_InvalidTerm c_InvalidText c_OutOfRange c_TooLarge c_InvalidQuery c_InvalidAim c_InvalidGame c_ChoosersError : Addr) : Bool :=
  (decide (PySem.W.subIn K (.ref c_InvalidText) (.ref c_InvalidAim) = some false)) && ((decide (PySem.W.subIn K (.ref c_InvalidText) (.ref c_InvalidGame) = some false)) && ((decide (PySem.W.subIn K (.ref c_InvalidText) (.ref c_InvalidTerm) = some false)) && ((decide (PySem.W.subIn K (.ref c_InvalidText) (.ref c_TooLarge) = some false)) && ((decide (PySem.W.subIn K (.ref c_InvalidText) (.ref c_ChoosersError) = some true)) && ((decide (PySem.W.subIn K (.ref c_InvalidText) (.ref c_InvalidQuery) = some false)) && ((decide (PySem.W.subIn K (.ref c_InvalidText) (.ref c_OutOfRange) = some false)) && ((PySem.W.keepIn K (.ref c_OutOfRange)) && ((decide (PySem.W.subIn K (.ref c_OutOfRange) (.type "BaseException") = some true)) && ((decide (PySem.W.typeIn K (.ref c_OutOfRange) = some (.type "type"))) && ((He.eqO (PySem.W.findIn K (.ref c_OutOfRange) "__getattribute__") (some (some (.builtin "BaseException.__getattribute__")))) && ((He.eqO (PySem.W.findIn K (.ref c_OutOfRange) "__getattr__") (some none)) && ((PySem.W.hasDictIn K c_OutOfRange) && ((He.eqO (PySem.W.findIn K (.ref c_OutOfRange) "__class__") (some (some (.builtin "object.__class__")))) && ((decide (PySem.W.mroIn K c_OutOfRange (.type "object") = some true)) && ((decide (PySem.W.subIn K (.ref c_OutOfRange) (.ref c_OutOfRange) = some true)) && ((decide (PySem.W.subIn K (.ref c_OutOfRange) (.ref c_InvalidAim) = some false)) && ((decide (PySem.W.subIn K (.ref c_OutOfRange) (.ref c_InvalidGame) = some false)) && ((decide (PySem.W.subIn K (.ref c_OutOfRange) (.ref c_InvalidTerm) = some false)) && ((decide (PySem.W.subIn K (.ref c_OutOfRange) (.ref c_TooLarge) = some false)) && ((decide (PySem.W.subIn K (.ref c_OutOfRange) (.ref c_ChoosersError) = some true)) && ((decide (PySem.W.subIn K (.ref c_OutOfRange) (.ref c_InvalidQuery) = some false)) && ((PySem.W.keepIn K (.ref c_TooLarge)) && ((decide (PySem.W.subIn K (.ref c_TooLarge) (.type "BaseException") = some true)) && ((decide (PySem.W.typeIn K (.ref c_TooLarge) = some (.type "type")))))))))))))))))))))))))))
def ck10 (K : PySem.W.Frag) (c_InvalidTerm c_OutOfRange c_TooLarge c_InvalidQuery c_InvalidAim c_InvalidGame c_ChoosersError : Addr) : Bool :=
  (He.eqO (PySem.W.findIn K (.ref c_TooLarge) "__getattribute__") (some (some (.builtin "BaseException.__getattribute__")))) && ((He.eqO (PySem.W.findIn K (.ref c_TooLarge) "__getattr__") (some none)) && ((PySem.W.hasDictIn K c_TooLarge) && ((He.eqO (PySem.W.findIn K (.ref c_TooLarge) "__class__") (some (some (.builtin "object.__class__")))) && ((decide (PySem.W.mroIn K c_TooLarge (.type "object") = some true)) && ((decide (PySem.W.subIn K (.ref c_TooLarge) (.ref c_TooLarge) = some true)) && ((decide (PySem.W.subIn K (.ref c_TooLarge) (.ref c_InvalidAim) = some false)) && ((decide (PySem.W.subIn K (.ref c_TooLarge) (.ref c_InvalidGame) = some false)) && ((decide (PySem.W.subIn K (.ref c_TooLarge) (.ref c_InvalidTerm) = some false)) && ((decide (PySem.W.subIn K (.ref c_TooLarge) (.ref c_ChoosersError) = some true)) && ((decide (PySem.W.subIn K (.ref c_TooLarge) (.ref c_InvalidQuery) = some false)) && ((decide (PySem.W.subIn K (.ref c_TooLarge) (.ref c_OutOfRange) = some false)) && ((PySem.W.keepIn K (.ref c_InvalidQuery)) && ((decide (PySem.W.subIn K (.ref c_InvalidQuery) (.type "BaseException") = some true)) && ((decide (PySem.W.typeIn K (.ref c_InvalidQuery) = some (.type "type"))) && ((He.eqO (PySem.W.findIn K (.ref c_InvalidQuery) "__getattribute__") (some (some (.builtin "BaseException.__getattribute__")))) && ((He.eqO (PySem.W.findIn K (.ref c_InvalidQuery) "__getattr__") (some none)) && ((PySem.W.hasDictIn K c_InvalidQuery) && ((He.eqO (PySem.W.findIn K (.ref c_InvalidQuery) "__class__") (some (some (.builtin "object.__class__")))) && ((decide (PySem.W.mroIn K c_InvalidQuery (.type "object") = some true)) && ((decide (PySem.W.subIn K (.ref c_InvalidQuery) (.ref c_InvalidQuery) = some true)) && ((decide (PySem.W.subIn K (.ref c_InvalidQuery) (.ref c_InvalidAim) = some false)) && ((decide (PySem.W.subIn K (.ref c_InvalidQuery) (.ref c_InvalidGame) = some false)) && ((decide (PySem.W.subIn K (.ref c_InvalidQuery) (.ref c_InvalidTerm) = some true)) && ((decide (PySem.W.subIn K (.ref c_InvalidQuery) (.ref c_TooLarge) = some false))))))))))))))))))))))))))
def ck11 (K : PySem.W.Frag) (c_InvalidTerm c_InvalidText c_OutOfRange c_InvalidQuery c_ChoosersError fi_InvalidTerm fi_InvalidText fi_InvalidQuery : Addr) : Bool :=
  (decide (PySem.W.subIn K (.ref c_InvalidQuery) (.ref c_ChoosersError) = some true)) && ((decide (PySem.W.subIn K (.ref c_InvalidQuery) (.ref c_OutOfRange) = some false)) && ((He.eqO (PySem.W.findIn K (.ref c_InvalidTerm) "__init__") (some (some (.ref fi_InvalidTerm)))) && ((initB K fi_InvalidTerm c_InvalidTerm "InvalidTerm.__init__" fileP) && ((decide (PySem.W.typeIn K (.ref fi_InvalidTerm) = some (.type "function"))) && ((He.eqO (PySem.W.findIn K (.ref c_InvalidTerm) "path") (some none)) && ((PySem.W.isClsIn K c_InvalidTerm) && ((decide (PySem.W.mroIn K c_InvalidTerm (.ref c_InvalidTerm) = some true)) && ((decide (PySem.W.subIn K (.ref c_InvalidTerm) (.type "ValueError") = some true)) && ((He.eqO (PySem.W.ks_superIn K c_InvalidTerm c_InvalidTerm "__init__") (some (some (.builtin "ValueError.__init__")))) && ((excB K c_InvalidTerm) && ((He.eqO (PySem.W.findIn K (.ref c_InvalidTerm) "__setattr__") (some (some (.builtin "object.__setattr__")))) && ((He.eqO (PySem.W.findIn K (.ref c_InvalidText) "__init__") (some (some (.ref fi_InvalidText)))) && ((initB K fi_InvalidText c_InvalidText "InvalidText.__init__" fileP) && ((decide (PySem.W.typeIn K (.ref fi_InvalidText) = some (.type "function"))) && ((He.eqO (PySem.W.findIn K (.ref c_InvalidText) "position") (some none)) && ((PySem.W.isClsIn K c_InvalidText) && ((decide (PySem.W.mroIn K c_InvalidText (.ref c_InvalidText) = some true)) && ((decide (PySem.W.subIn K (.ref c_InvalidText) (.type "ValueError") = some true)) && ((He.eqO (PySem.W.ks_superIn K c_InvalidText c_InvalidText "__init__") (some (some (.builtin "ValueError.__init__")))) && ((excB K c_InvalidText) && ((He.eqO (PySem.W.findIn K (.ref c_InvalidText) "__setattr__") (some (some (.builtin "object.__setattr__")))) && ((He.eqO (PySem.W.findIn K (.ref c_InvalidQuery) "__init__") (some (some (.ref fi_InvalidQuery)))) && ((initB K fi_InvalidQuery c_InvalidTerm "InvalidTerm.__init__" fileP) && ((decide (PySem.W.typeIn K (.ref fi_InvalidQuery) = some (.type "function")))))))))))))))))))))))))))
def ck12 (K : PySem.W.Frag) (c_InvalidTerm c_InvalidText c_OutOfRange c_TooLarge c_InvalidQuery c_InvalidAim c_InvalidGame c_ChoosersError c_Query : Addr) : Bool :=
  (He.eqO (PySem.W.findIn K (.ref c_InvalidQuery) "path") (some none)) && ((PySem.W.isClsIn K c_InvalidTerm) && ((decide (PySem.W.mroIn K c_InvalidQuery (.ref c_InvalidTerm) = some true)) && ((decide (PySem.W.subIn K (.ref c_InvalidQuery) (.type "ValueError") = some true)) && ((He.eqO (PySem.W.ks_superIn K c_InvalidQuery c_InvalidTerm "__init__") (some (some (.builtin "ValueError.__init__")))) && ((excB K c_InvalidQuery) && ((He.eqO (PySem.W.findIn K (.ref c_InvalidQuery) "__setattr__") (some (some (.builtin "object.__setattr__")))) && ((PySem.W.isClsIn K c_InvalidTerm) && ((PySem.W.isClsIn K c_InvalidText) && ((PySem.W.isClsIn K c_OutOfRange) && ((PySem.W.isClsIn K c_TooLarge) && ((PySem.W.isClsIn K c_InvalidQuery) && ((PySem.W.isClsIn K c_InvalidAim) && ((decide (PySem.W.typeIn K (.ref c_InvalidAim) = some (.type "type"))) && ((PySem.W.isClsIn K c_InvalidGame) && ((decide (PySem.W.typeIn K (.ref c_InvalidGame) = some (.type "type"))) && ((PySem.W.isClsIn K c_ChoosersError) && ((decide (PySem.W.typeIn K (.ref c_ChoosersError) = some (.type "type"))) && ((He.eqO (PySem.W.specialIn K (.builtin "object.__class__") "__get__") (some (some (.builtin "getset_descriptor.__get__")))) && ((decide (PySem.W.takesIn K (.builtin "object.__class__") = some true)) && ((PySem.W.plainGet K c_Query Str.empty) && ((PySem.W.hasDictIn K c_Query) && ((PySem.W.plainOver K c_Query) && ((He.eqO (PySem.W.findIn K (.ref c_Query) "__setattr__") (some (some (.builtin "object.__setattr__")))) && ((PySem.W.makesIn K c_Query)))))))))))))))))))))))))
def ck13 (K : PySem.W.Frag) (c_Query c_Row f24 f28 : Addr) : Bool :=
  (PySem.W.keepIn K (.ref c_Query)) && ((PySem.W.fnIn K f24) && ((He.eqO (PySem.W.findIn K (.ref c_Query) "term") (some none)) && ((He.eqO (PySem.W.findIn K (.ref c_Query) "widths") (some none)) && ((He.eqO (PySem.W.findIn K (.ref c_Query) "outcomes") (some none)) && ((PySem.W.readsIn K c_Query (.type "type")) && ((He.eqO (PySem.W.specialIn K (.ref c_Query) "__getattribute__") (some (some (.builtin "type.__getattribute__")))) && ((cvB K c_Query "MOST_LEVELS" 20) && ((cvB K c_Query "MOST_LOOKS" 300) && ((cvB K c_Query "MOST_CHOICES" 256) && ((PySem.W.plainGet K c_Row Str.empty) && ((PySem.W.hasDictIn K c_Row) && ((PySem.W.plainOver K c_Row) && ((He.eqO (PySem.W.findIn K (.ref c_Row) "__setattr__") (some (some (.builtin "object.__setattr__")))) && ((PySem.W.makesIn K c_Row) && ((PySem.W.keepIn K (.ref c_Row)) && ((PySem.W.fnIn K f28) && ((He.eqO (PySem.W.findIn K (.ref c_Row) "head") (some none)) && ((He.eqO (PySem.W.findIn K (.ref c_Row) "cycle") (some none))))))))))))))))))))
def atsA : List (PySem.W.Frag → Addr) := [ad_f0, ad_f1, ad_f2, ad_f3, ad_f4, ad_f5, ad_f6, ad_f7, ad_f8, ad_f9, ad_f10, ad_f11, ad_f12, ad_f13, ad_f14, ad_f15, ad_f16, ad_f17, ad_f18, ad_f19, ad_f20, ad_f21, ad_f22, ad_f23, ad_f24, ad_f25, ad_f26, ad_f27, ad_f28, ad_f29, ad_f30, ad_f31, ad_f32, ad_f33, ad_f34, ad_f35, ad_f36, ad_f37, ad_f38, ad_f39, ad_f40, ad_f41, ad_f42, ad_f43, ad_f44, ad_f45, ad_f46, ad_f47, ad_f48, ad_f49, ad_f50, ad_fi_InvalidTerm, ad_fi_InvalidText, ad_fi_InvalidQuery]
def valsA : List FnI := [vI "is_number" "is_number" s_is_number [],
  vI "is_below" "is_below" s_is_below [],
  vI "is_word" "is_word" s_is_word [],
  vI "wrong_part" "wrong_part" s_wrong_part [],
  vI "text_of" "text_of" s_text_of [],
  vI "write_term" "write_term" s_write_term [],
  vI "run_end" "run_end" s_run_end [],
  vI "read_part" "read_part" s_read_part [],
  vI "read_tuple" "read_tuple" s_read_tuple [],
  vI "read_term" "read_term" s_read_term [],
  vI "read_headed" "read_headed" s_read_headed [],
  vI "count_choices" "count_choices" s_count_choices [],
  vI "has_outcomes" "has_outcomes" s_has_outcomes [],
  vI "width_at" "width_at" s_width_at [],
  vI "terms_behind" "terms_behind" s_terms_behind [],
  vI "are_widths" "are_widths" s_are_widths [],
  vI "require_form" "require_form" s_require_form [],
  vI "has_query_form" "has_query_form" s_has_query_form [],
  vI "wrong_query" "wrong_query" s_wrong_query [],
  vI "places_of" "places_of" s_places_of [],
  vI "require_few" "require_few" s_require_few [],
  vI "followed" "followed" s_followed [],
  vI "looked_places" "looked_places" s_looked_places [],
  vI "__init__" "Query.__init__" s_Query___init__ [],
  vI "__call__" "Query.__call__" s_Query___call__ [],
  vI "text" "Query.text" s_Query_text [],
  vI "read" "Query.read" s_Query_read [],
  vI "__init__" "Row.__init__" s_Row___init__ [],
  vI "__getitem__" "Row.__getitem__" s_Row___getitem__ [],
  vI "_law_start" "_law_start" s__law_start [],
  vI "_law_pick" "_law_pick" s__law_pick [],
  vI "_law_width" "_law_width" s__law_width [],
  vI "_law_widths" "_law_widths" s__law_widths [],
  vI "_law_places" "_law_places" s__law_places [],
  vI "_law_term" "_law_term" s__law_term [],
  vI "_law_chain" "_law_chain" s__law_chain [],
  vI "_law_many_looks" "_law_many_looks" s__law_many_looks [],
  vI "_law_spoilt" "_law_spoilt" s__law_spoilt [],
  vI "_law_create" "_law_create" s__law_create [],
  vI "_law_entry" "_law_entry" s__law_entry [],
  vI "_law_row" "_law_row" s__law_row [],
  vI "_law_with" "_law_with" s__law_with [],
  vI "_law_follow" "_law_follow" s__law_follow [],
  vI "_law_told" "_law_told" s__law_told [],
  vI "_law_looked" "_law_looked" s__law_looked [],
  vI "_law_answers" "_law_answers" s__law_answers [],
  vI "_law_text" "_law_text" s__law_text [],
  vI "_law_unread" "_law_unread" s__law_unread [],
  vI "_law_texts" "_law_texts" s__law_texts [],
  vI "_law_large" "_law_large" s__law_large [],
  vI "law" "law" s_law [],
  vI "__init__" "InvalidTerm.__init__" si_InvalidTerm ["__class__"],
  vI "__init__" "InvalidText.__init__" si_InvalidText ["__class__"],
  vI "__init__" "InvalidTerm.__init__" si_InvalidTerm ["__class__"]]
def ckA (K : PySem.W.Frag) : Bool := ck0 K (ad_c_Query K) (ad_c_Row K) (ad_f0 K) (ad_f1 K) (ad_f2 K) (ad_f3 K) (ad_f4 K) (ad_f5 K) (ad_f6 K) (ad_f7 K) && (ck1 K (ad_f7 K) (ad_f8 K) (ad_f9 K) (ad_f10 K) (ad_f11 K) (ad_f12 K) (ad_f13 K) (ad_f14 K) (ad_f15 K) && (ck2 K (ad_c_Query K) (ad_f16 K) (ad_f17 K) (ad_f18 K) (ad_f19 K) (ad_f20 K) (ad_f21 K) (ad_f22 K) (ad_f23 K) && (ck3 K (ad_c_Query K) (ad_c_Row K) (ad_ps26 K) (ad_f24 K) (ad_f25 K) (ad_f26 K) (ad_f27 K) (ad_dA27 K) (ad_f28 K) (ad_f29 K) (ad_f30 K) && (ck4 K (ad_f30 K) (ad_f31 K) (ad_f32 K) (ad_f33 K) (ad_f34 K) (ad_f35 K) (ad_f36 K) (ad_f37 K) (ad_f38 K) && (ck5 K (ad_f38 K) (ad_f39 K) (ad_f40 K) (ad_f41 K) (ad_f42 K) (ad_f43 K) (ad_f44 K) (ad_f45 K) (ad_f46 K) && (ck6 K (ad_f47 K) (ad_f48 K) (ad_f49 K) (ad_f50 K) && (ck7 K (ad_c_InvalidTerm K) (ad_c_InvalidText K) (ad_c_OutOfRange K) (ad_c_TooLarge K) (ad_c_InvalidQuery K) (ad_c_InvalidAim K) (ad_c_InvalidGame K) (ad_c_ChoosersError K) && (ck8 K (ad_c_InvalidTerm K) (ad_c_InvalidText K) (ad_c_OutOfRange K) (ad_c_TooLarge K) (ad_c_InvalidQuery K) (ad_c_InvalidAim K) (ad_c_InvalidGame K) (ad_c_ChoosersError K) && (ck9 K (ad_c_InvalidTerm K) (ad_c_InvalidText K) (ad_c_OutOfRange K) (ad_c_TooLarge K) (ad_c_InvalidQuery K) (ad_c_InvalidAim K) (ad_c_InvalidGame K) (ad_c_ChoosersError K) && (ck10 K (ad_c_InvalidTerm K) (ad_c_OutOfRange K) (ad_c_TooLarge K) (ad_c_InvalidQuery K) (ad_c_InvalidAim K) (ad_c_InvalidGame K) (ad_c_ChoosersError K) && (ck11 K (ad_c_InvalidTerm K) (ad_c_InvalidText K) (ad_c_OutOfRange K) (ad_c_InvalidQuery K) (ad_c_ChoosersError K) (ad_fi_InvalidTerm K) (ad_fi_InvalidText K) (ad_fi_InvalidQuery K) && (ck12 K (ad_c_InvalidTerm K) (ad_c_InvalidText K) (ad_c_OutOfRange K) (ad_c_TooLarge K) (ad_c_InvalidQuery K) (ad_c_InvalidAim K) (ad_c_InvalidGame K) (ad_c_ChoosersError K) (ad_c_Query K) && (ck13 K (ad_c_Query K) (ad_c_Row K) (ad_f24 K) (ad_f28 K))))))))))))))
def names0 : List PySem.Str := ["_wall", "__name__", "ChoosersError", "InvalidText", "InvalidTerm", "InvalidAim", "InvalidGame", "InvalidQuery", "OutOfRange", "SizeMismatch", "TooLarge", "LETTERS", "DIGITS", "LONGEST_WORD", "LONGEST_NUMBER"]
def names1 : List PySem.Str := ["NUMBERS_END", "DEEPEST_TUPLE", "is_number", "is_below", "is_word", "write_term", "wrong_part", "text_of", "read_term", "read_part", "run_end", "read_tuple", "read_headed", "count_choices", "MOST_OUTCOMES"]
def names2 : List PySem.Str := ["has_outcomes", "MOST_WIDTHS", "WIDEST", "PLACES", "ITEMS_BEFORE", "TWO_OUTCOMES", "width_at", "terms_behind", "are_widths", "require_form", "has_query_form", "wrong_query", "places_of", "require_few", "followed"]
def names3 : List PySem.Str := ["looked_places", "term_with_tells", "term_with_outcomes", "require_same_widths", "require_two_outcomes", "require_combined", "Query", "Row", "_law_start", "_law_pick", "_law_width", "_law_widths", "_law_places", "_law_term", "_law_chain"]
def names4 : List PySem.Str := ["_law_many_looks", "_law_spoilt", "_law_create", "_law_entry", "_law_row", "_law_with", "_law_follow", "_law_told", "_law_looked", "_law_answers", "_law_text", "_law_unread", "_law_texts", "_law_large"]
def namesA : List PySem.Str := names0 ++ names1 ++ names2 ++ names3 ++ names4
abbrev RR : PySem.W.OpenRow := PySem.W.OpenLaw.row PySem.Challenge.rw_choosersrow_k39_queries_and_looks
def dsA : List (PySem.W.Frag → Addr) := []
def kysA : List (List Str) := []
def asA : List Addr := [3, 2, 74, 73, 31, 53, 52, 122, 121, 146, 145, 110, 109, 86, 85, 98, 97, 30, 399, 398, 460, 459, 395, 71, 70, 59, 50, 49, 38, 155, 154, 162, 161, 167, 166, 181, 180, 186, 185, 174, 173, 207, 206, 200, 199, 214, 213, 193, 192, 221, 220, 228, 227, 235, 234, 242, 241, 249, 248, 254, 253, 261, 260, 268, 267, 275, 274, 280, 279, 285, 284, 292, 291, 299, 298, 344, 343, 351, 350, 386, 385, 393, 392, 417, 416, 412, 411, 424, 423, 471, 470, 478, 477, 485, 484, 490, 489, 497, 496, 502, 501, 507, 506, 514, 513, 521, 520, 528, 527, 535, 534, 540, 539, 545, 544, 552, 551, 559, 558, 566, 565, 573, 572, 578, 577, 585, 584, 592, 591, 599, 598, 606, 605]
abbrev hkA : PySem.W.Hook := HX.hookW asA ckA atsA valsA dsA kysA
def obA (s : PySem.W.SharedT) : Bool × List FnI × List KyI := obsW asA ckA atsA dsA (HandSHeadRun.getT s)
theorem obA_eq (s : PySem.W.SharedT) : obA s = hkA.obs s.abs := obsW_eq (HandSHeadRun.getT_eq s)
def ckP (K : PySem.W.Frag) : Bool := ck10 K (ad_c_InvalidTerm K) (ad_c_OutOfRange K) (ad_c_TooLarge K) (ad_c_InvalidQuery K) (ad_c_InvalidAim K) (ad_c_InvalidGame K) (ad_c_ChoosersError K) && (ck11 K (ad_c_InvalidTerm K) (ad_c_InvalidText K) (ad_c_OutOfRange K) (ad_c_InvalidQuery K) (ad_c_ChoosersError K) (ad_fi_InvalidTerm K) (ad_fi_InvalidText K) (ad_fi_InvalidQuery K))
def ckQ (K : PySem.W.Frag) : Bool := ck12 K (ad_c_InvalidTerm K) (ad_c_InvalidText K) (ad_c_OutOfRange K) (ad_c_TooLarge K) (ad_c_InvalidQuery K) (ad_c_InvalidAim K) (ad_c_InvalidGame K) (ad_c_ChoosersError K) (ad_c_Query K) && (ck13 K (ad_c_Query K) (ad_c_Row K) (ad_f24 K) (ad_f28 K) && (ck0 K (ad_c_Query K) (ad_c_Row K) (ad_f0 K) (ad_f1 K) (ad_f2 K) (ad_f3 K) (ad_f4 K) (ad_f5 K) (ad_f6 K) (ad_f7 K) && (ck1 K (ad_f7 K) (ad_f8 K) (ad_f9 K) (ad_f10 K) (ad_f11 K) (ad_f12 K) (ad_f13 K) (ad_f14 K) (ad_f15 K) && (ck2 K (ad_c_Query K) (ad_f16 K) (ad_f17 K) (ad_f18 K) (ad_f19 K) (ad_f20 K) (ad_f21 K) (ad_f22 K) (ad_f23 K)))))
def ckR (K : PySem.W.Frag) : Bool := ck3 K (ad_c_Query K) (ad_c_Row K) (ad_ps26 K) (ad_f24 K) (ad_f25 K) (ad_f26 K) (ad_f27 K) (ad_dA27 K) (ad_f28 K) (ad_f29 K) (ad_f30 K) && (ck4 K (ad_f30 K) (ad_f31 K) (ad_f32 K) (ad_f33 K) (ad_f34 K) (ad_f35 K) (ad_f36 K) (ad_f37 K) (ad_f38 K) && (ck5 K (ad_f38 K) (ad_f39 K) (ad_f40 K) (ad_f41 K) (ad_f42 K) (ad_f43 K) (ad_f44 K) (ad_f45 K) (ad_f46 K)))
def ckS (K : PySem.W.Frag) : Bool := ck6 K (ad_f47 K) (ad_f48 K) (ad_f49 K) (ad_f50 K) && (ck7 K (ad_c_InvalidTerm K) (ad_c_InvalidText K) (ad_c_OutOfRange K) (ad_c_TooLarge K) (ad_c_InvalidQuery K) (ad_c_InvalidAim K) (ad_c_InvalidGame K) (ad_c_ChoosersError K) && (ck8 K (ad_c_InvalidTerm K) (ad_c_InvalidText K) (ad_c_OutOfRange K) (ad_c_TooLarge K) (ad_c_InvalidQuery K) (ad_c_InvalidAim K) (ad_c_InvalidGame K) (ad_c_ChoosersError K) && (ck9 K (ad_c_InvalidTerm K) (ad_c_InvalidText K) (ad_c_OutOfRange K) (ad_c_TooLarge K) (ad_c_InvalidQuery K) (ad_c_InvalidAim K) (ad_c_InvalidGame K) (ad_c_ChoosersError K))))
theorem ckE : (fun K => (fun K => (fun K => ckP K && ckQ K) K && ckR K) K && ckS K) = ckA := by
  funext K
  unfold ckP ckQ ckR ckS ckA
  simp only [Bool.and_assoc]
  ac_rfl
set_option maxHeartbeats 0 in
theorem run0P (w : World) : HandSHeadRun.RunEq RR (PySem.W.view RR.prog [80]) (HX.hookW asA ckP atsA valsA dsA kysA) (fun s => obsW asA ckP atsA dsA (HandSHeadRun.getT s)) 20000 namesA (w.withFollow "special-get-raises" false) := by
  intro os
  kernel_rfl
set_option maxHeartbeats 0 in
theorem run0Q (w : World) : HandSHeadRun.RunEq RR (PySem.W.view RR.prog [80]) (HX.hookW asA ckQ [] [] [] []) (fun s => obsW asA ckQ [] [] (HandSHeadRun.getT s)) 20000 namesA (w.withFollow "special-get-raises" false) := by
  intro os
  kernel_rfl
set_option maxHeartbeats 0 in
theorem run0R (w : World) : HandSHeadRun.RunEq RR (PySem.W.view RR.prog [80]) (HX.hookW asA ckR [] [] [] []) (fun s => obsW asA ckR [] [] (HandSHeadRun.getT s)) 20000 namesA (w.withFollow "special-get-raises" false) := by
  intro os
  kernel_rfl
set_option maxHeartbeats 0 in
theorem run0S (w : World) : HandSHeadRun.RunEq RR (PySem.W.view RR.prog [80]) (HX.hookW asA ckS [] [] [] []) (fun s => obsW asA ckS [] [] (HandSHeadRun.getT s)) 20000 namesA (w.withFollow "special-get-raises" false) := by
  intro os
  kernel_rfl
theorem run0 (w : World) : HandSHeadRun.RunEq RR (PySem.W.view RR.prog [80]) hkA obA 20000 namesA (w.withFollow "special-get-raises" false) := by
  have h := HX.runEq_and (HX.runEq_and (HX.runEq_and (run0P w) (run0Q w)) (run0R w)) (run0S w)
  rw [ckE] at h
  exact h
set_option maxHeartbeats 0 in
theorem run1P (w : World) : HandSHeadRun.RunEq RR (PySem.W.view RR.prog [80]) (HX.hookW asA ckP atsA valsA dsA kysA) (fun s => obsW asA ckP atsA dsA (HandSHeadRun.getT s)) 20000 namesA (w.withFollow "special-get-raises" true) := by
  intro os
  kernel_rfl
set_option maxHeartbeats 0 in
theorem run1Q (w : World) : HandSHeadRun.RunEq RR (PySem.W.view RR.prog [80]) (HX.hookW asA ckQ [] [] [] []) (fun s => obsW asA ckQ [] [] (HandSHeadRun.getT s)) 20000 namesA (w.withFollow "special-get-raises" true) := by
  intro os
  kernel_rfl
set_option maxHeartbeats 0 in
theorem run1R (w : World) : HandSHeadRun.RunEq RR (PySem.W.view RR.prog [80]) (HX.hookW asA ckR [] [] [] []) (fun s => obsW asA ckR [] [] (HandSHeadRun.getT s)) 20000 namesA (w.withFollow "special-get-raises" true) := by
  intro os
  kernel_rfl
set_option maxHeartbeats 0 in
theorem run1S (w : World) : HandSHeadRun.RunEq RR (PySem.W.view RR.prog [80]) (HX.hookW asA ckS [] [] [] []) (fun s => obsW asA ckS [] [] (HandSHeadRun.getT s)) 20000 namesA (w.withFollow "special-get-raises" true) := by
  intro os
  kernel_rfl
theorem run1 (w : World) : HandSHeadRun.RunEq RR (PySem.W.view RR.prog [80]) hkA obA 20000 namesA (w.withFollow "special-get-raises" true) := by
  have h := HX.runEq_and (HX.runEq_and (HX.runEq_and (run1P w) (run1Q w)) (run1R w)) (run1S w)
  rw [ckE] at h
  exact h
theorem runA (w : World) : HandSHeadRun.RunEq RR (PySem.W.view RR.prog [80]) hkA obA 20000 namesA w := by
  have hs := PySem.World.withFollow_self w "special-get-raises"
  rw [← hs]
  cases w.params.followText "special-get-raises"
  · exact run0 w
  · exact run1 w
end LW
set_option Elab.async false
set_option linter.all false
set_option maxRecDepth 100000
set_option maxHeartbeats 4000000
namespace LW
open PySem PySem.Spec L2 DW PyProof.Rows
local macro_rules | `(tactic| walk_at "wp") => `(tactic| try simp only [u_tryM, u_cls0, u_cls1, u_isET, w_isET2, w_isET3, w_isET4, u_truT, u_iZ3, w_zip3E, u_lcO, u_restE, v_rng1, u_rngV, w_rngE, u_cval, w_isiO, u_par, u_iR3, u_makeSD, u_getXN, rngB_len, u_star, u_rev2L, u_callR, u_binXI, u_callX, u_getX, u_restF, u_binX, u_invX, w_neB, u_methXN, u_makeSN, u_tupR1, u_lc2, u_iZM, w_zipLT, w_zipTL, u_cntL, u_lstR1O, u_fld, w_fld, w_someE, u_setF, u_methX, w_objE, u_makeS, u_sortSet, u_lstR1, u_iZipL, u_iEnL, u_idx, u_popAt, u_cntT, u_idxT, u_callF, w_maxL, w_minL, w_ixDc, w_inDc, w_repL, w_listLs, w_tplT, w_tplP, u_isE, w_isE, u_kitER, u_kitET, u_excE, u_xf, w_xf1, u_slS, u_raise1, u_iEn, w_listStr, w_lenStr, w_catStr, w_ixStr, w_inStr, w_strE, w_strI, w_strS, u_rest, cut_to, cut_from1, Int.zero_add, u_revT, w_repT, u_tupG, u_try, u_gPlain, u_gThen, u_gNil, u_yield, u_gWhile, u_while, u_isX, u_kitR, u_kitT, u_excOk, w_zipE, u_goalX, u_lc, rngD_len, Int.toNat_natCast, u_for, u_iT, u_iL, u_iR1, u_iR2, u_iZ, u_iS, w_lstE, dwipe, u_asg, u_asgS, u_ret, u_retN, u_if, u_next, u_break, u_cont, u_drop, u_raise, u_aug, u_var, u_c, u_op, u_un, u_test, u_and, u_or, u_not, u_yes, u_andV, u_orV, u_notV, u_ifE, u_chain, u_nil, u_cons, u_tup, u_lst, u_own, u_cb, u_call, u_callS, u_name, u_etup, u_enil, u_econs, u_sub, u_app, u_slT, u_slL, u_noPart, u_part, u_revL, ex_some, w_I0, w_I, w_uI, w_int, w_bl, w_isi, w_someb, w_eqI, w_neI, w_eqS, w_neS, w_lenT, w_lenL, w_lenS, w_tupL, w_tupT, w_ixT, w_ixL, w_ixS, w_catT, w_catL, w_all, w_any, w_min2, w_divmod, w_listS, w_listL, w_listT, w_isN, w_notN, w_tupE, w_intE, w_consE, w_hdE, w_cellS, w_set, at0, at1, at2, at3, i_tT, i_tI, i_tB, i_tS, i_nT, i_nI, i_nB, i_nS, i_iT, i_iI, i_iB, i_iS, i_bT, i_bI, i_bB, i_bS, i_sT, i_sI, i_sB, i_sS, v_itemsS, w_eqB, isNone, dstart, List.map, List.length, List.replicate, List.cons_append, List.nil_append, List.append_nil, List.getElem?_cons_zero, List.getElem?_cons_succ, List.set_cons_zero, List.set_cons_succ, ix40, ix42, ix43, true_implies, false_implies, and_true, true_and, Bool.not_true, Bool.not_false, decide_eq_true_eq, decide_eq_false_iff_not, List.length_map, Nat.reduceAdd, reduceCtorEq, v_ixH, v_items, v_itemsT, v_itemsL, v_len, v_tuple, v_list, v_listOwn, sset_same, sset_sset, Option.some.injEq, Cell.lst.injEq, Cell.frz.injEq, false_and, exists_false, or_false, false_or, exists_eq_left', ne_eq, not_false_eq_true, isTup, Bool.true_eq_false, Bool.false_eq_true])
local macro_rules | `(tactic| walk_at "wps") => `(tactic| try simp only [u_seq, u_tryM, u_cls0, u_cls1, u_isET, w_isET2, w_isET3, w_isET4, u_truT, u_iZ3, w_zip3E, u_lcO, u_restE, v_rng1, u_rngV, w_rngE, u_cval, w_isiO, u_par, u_iR3, u_makeSD, u_getXN, rngB_len, u_star, u_rev2L, u_callR, u_binXI, u_callX, u_getX, u_restF, u_binX, u_invX, w_neB, u_methXN, u_makeSN, u_tupR1, u_lc2, u_iZM, w_zipLT, w_zipTL, u_cntL, u_lstR1O, u_fld, w_fld, w_someE, u_setF, u_methX, w_objE, u_makeS, u_sortSet, u_lstR1, u_iZipL, u_iEnL, u_idx, u_popAt, u_cntT, u_idxT, u_callF, w_maxL, w_minL, w_ixDc, w_inDc, w_repL, w_listLs, w_tplT, w_tplP, u_isE, w_isE, u_kitER, u_kitET, u_excE, u_xf, w_xf1, u_slS, u_raise1, u_iEn, w_listStr, w_lenStr, w_catStr, w_ixStr, w_inStr, w_strE, w_strI, w_strS, u_rest, cut_to, cut_from1, Int.zero_add, u_revT, w_repT, u_tupG, u_try, u_gPlain, u_gThen, u_gNil, u_yield, u_gWhile, u_while, u_isX, u_kitR, u_kitT, u_excOk, w_zipE, u_goalX, u_lc, rngD_len, Int.toNat_natCast, u_for, u_iT, u_iL, u_iR1, u_iR2, u_iZ, u_iS, w_lstE, dwipe, u_asg, u_asgS, u_ret, u_retN, u_if, u_next, u_break, u_cont, u_drop, u_raise, u_aug, u_var, u_c, u_op, u_un, u_test, u_and, u_or, u_not, u_yes, u_andV, u_orV, u_notV, u_ifE, u_chain, u_nil, u_cons, u_tup, u_lst, u_own, u_cb, u_call, u_callS, u_name, u_etup, u_enil, u_econs, u_sub, u_app, u_slT, u_slL, u_noPart, u_part, u_revL, ex_some, w_I0, w_I, w_uI, w_int, w_bl, w_isi, w_someb, w_eqI, w_neI, w_eqS, w_neS, w_lenT, w_lenL, w_lenS, w_tupL, w_tupT, w_ixT, w_ixL, w_ixS, w_catT, w_catL, w_all, w_any, w_min2, w_divmod, w_listS, w_listL, w_listT, w_isN, w_notN, w_tupE, w_intE, w_consE, w_hdE, w_cellS, w_set, at0, at1, at2, at3, i_tT, i_tI, i_tB, i_tS, i_nT, i_nI, i_nB, i_nS, i_iT, i_iI, i_iB, i_iS, i_bT, i_bI, i_bB, i_bS, i_sT, i_sI, i_sB, i_sS, v_itemsS, w_eqB, isNone, dstart, List.map, List.length, List.replicate, List.cons_append, List.nil_append, List.append_nil, List.getElem?_cons_zero, List.getElem?_cons_succ, List.set_cons_zero, List.set_cons_succ, ix40, ix42, ix43, true_implies, false_implies, and_true, true_and, Bool.not_true, Bool.not_false, decide_eq_true_eq, decide_eq_false_iff_not, List.length_map, Nat.reduceAdd, reduceCtorEq, v_ixH, v_items, v_itemsT, v_itemsL, v_len, v_tuple, v_list, v_listOwn, sset_same, sset_sset, Option.some.injEq, Cell.lst.injEq, Cell.frz.injEq, false_and, exists_false, or_false, false_or, exists_eq_left', ne_eq, not_false_eq_true, isTup, Bool.true_eq_false, Bool.false_eq_true])
section
variable {P : Program} {w : World} {K : Fg} {mg : Str → Option Value} {base : Heap}
def isI : D → Bool
  | .int _ => true
  | _ => false
/-- what a part of a term may be -/
def leaf3 (d : D) : Prop := (∃ i, d = .int i) ∨ (∃ s, d = .str s) ∨ ∃ ds, d = .tup ds
theorem leaf3.int (i : Int) : leaf3 (.int i) := .inl ⟨i, rfl⟩
theorem leaf3.tup (l : List D) : leaf3 (.tup l) := .inr (.inr ⟨l, rfl⟩)
theorem leaf3.str (s : Str) : leaf3 (.str s) := .inr (.inl ⟨s, rfl⟩)
inductive TD : D → Prop
  | int (i : Int) : TD (.int i)
  | str (s : Str) (h : (TL.tl s).length ≤ 100000) : TD (.str s)
  | tup (l : List D) : TD (.tup l)
def isW : D → Bool
  | .str s => decide (1 ≤ (TL.tl s).length ∧ (TL.tl s).length ≤ 12) && (TL.tl s).all isLet
  | _ => false
theorem TD.leaf {d : D} (h : TD d) : leaf3 d := by
  cases h with
  | int i => exact .inl ⟨i, rfl⟩
  | str s => exact .inr (.inl ⟨s, rfl⟩)
  | tup l => exact .inr (.inr ⟨l, rfl⟩)
theorem range_map {α β : Type} {f : α → β} {d : α} {l : List α} : (List.range l.length).map (fun i => f (l.getD i d)) = l.map f := by
  apply List.ext_getElem
  · simp
  · intro i h1 h2
    simp at h1
    simp [List.getD_eq_getElem?_getD, List.getElem?_eq_getElem h1]
def c_is_number : Con := fun ds μ Φ _ => ∃ d, ds = [d] ∧ leaf3 d ∧ Φ (.bl (isI d)) μ
theorem len_is_number {ds μ Φ Ψ} (h : c_is_number ds μ Φ Ψ) : ds.length = 1 := by obtain ⟨i, rfl, _⟩ := h; rfl
theorem w_is_numberL {d : D} {μ Φ Ψ} (hd : leaf3 d) : c_is_number [d] μ Φ Ψ = Φ (.bl (isI d)) μ := propext ⟨fun ⟨j, e, _, q⟩ => by cases e; exact q, fun q => ⟨d, rfl, hd, q⟩⟩
theorem w_is_number {i μ Φ Ψ} : c_is_number [.int i] μ Φ Ψ = Φ (.bl true) μ := propext ⟨fun ⟨j, e, _, q⟩ => by cases e; exact q, fun q => ⟨.int i, rfl, .inl ⟨i, rfl⟩, q⟩⟩
theorem ok_is_number {cx : CXT} (T : Txt P w K mg) : FnOk P w K mg base cx 1 T.f_is_number T.d_is_number ["value"] (spOf K c_is_number) := by
  refine def_okC T.F_is_number sc_is_number _ (fun ds μ Φ Ψ h => len_is_number h) (fun cdv A outer s H E B hW hr =>
    ⟨_, (pss_one (ps_ret (pe_and (pe_callB call_isi (by rfl) T.z_isinstance (by decide +kernel) (pa_cons (pv 0) (pa_cons (pe_bltn (v := .ty "int") rfl T.z_int (by decide +kernel) rfl) pa_nil))) (pe_one (pe_not (pe_callB call_isi (by rfl) T.z_isinstance (by decide +kernel) (pa_cons (pv 0) (pa_cons (pe_bltn (v := .ty "bool") rfl T.z_bool (by decide +kernel) rfl) pa_nil)))))))),
      (sRet (sAndV (sCB (rcIsi (T := "int")) (sCons sVar (sCons sHd sNil))) (sNotV (sCB (rcIsi (T := "bool")) (sCons sVar (sCons sHd sNil))))))⟩) (fun ds μ Φ Ψ h => ?hv)
  case hv =>
    obtain ⟨d, rfl, hd, h⟩ := h
    rcases hd with ⟨i, rfl⟩ | ⟨s, rfl⟩ | ⟨ds, rfl⟩
    all_goals walk_at "wps"
    all_goals exact ret_same h
def blw (m : Int) : D → Bool
  | .int i => decide (0 ≤ i ∧ i < m)
  | _ => false
def c_is_below : Con := fun ds μ Φ _ => ∃ d m, ds = [d, .int m] ∧ leaf3 d ∧ Φ (.bl (blw m d)) μ
theorem len_is_below {ds μ Φ Ψ} (h : c_is_below ds μ Φ Ψ) : ds.length = 2 := by obtain ⟨i, m, rfl, _⟩ := h; rfl
theorem w_is_below {i m μ Φ Ψ} : c_is_below [.int i, .int m] μ Φ Ψ = Φ (.bl (decide (0 ≤ i ∧ i < m))) μ := propext ⟨fun ⟨a, b, e, _, q⟩ => by cases e; exact q, fun q => ⟨.int i, m, rfl, .inl ⟨i, rfl⟩, q⟩⟩
theorem ok_is_below (T : Txt P w K mg) : FnOk P w K mg base (L2N.CX P w) 2 T.f_is_below T.d_is_below ["value", "limit"] (spOf K c_is_below) := by
  refine def_okC T.F_is_below sc_is_below _ (fun ds μ Φ Ψ h => len_is_below h) (fun cdv A outer s H E B hW hr =>
    have tk : L2N.Takes (cxOf (L2N.CX P w) P w K mg base N_is_below "is_below" (defScope s_is_below) T.f_is_below cdv A outer s H E) (fun cls d _ H => E cls d H) := L2N.takes_of rfl rfl rfl rfl
    ⟨_, (pss_one (ps_ret (pe_and (pe_call (ok_is_number T) hr rfl T.g_is_number T.F_is_number.kp T.b_is_number .nil passN (pa_cons (pv 0) pa_nil)) (pe_one (pe_chain op_le op_lt pe_int (pv 0) (pv 1)))))),
      (sRet (sAndV (sCall (sCons sVar sNil)) (sChain roBl0 roBl0 sInt sVar sVar)))⟩) (fun ds μ Φ Ψ h => ?hv)
  case hv =>
    obtain ⟨d, m, rfl, hd, h⟩ := h
    walk_at "wps"
    simp only [w_is_numberL hd]
    rcases hd with ⟨i, rfl⟩ | ⟨s, rfl⟩ | ⟨ds, rfl⟩
    · simp only [isI]
      walk_at "wps"
      refine ⟨fun h1 => ret_same ?_, fun h1 => ret_same ?_⟩
      · simpa [blw, h1] using h
      · simpa [blw, h1] using h
    · simp only [isI]
      walk_at "wps"
      exact ret_same h
    · simp only [isI]
      walk_at "wps"
      exact ret_same h
def c_is_word : Con := fun ds μ Φ _ => ∃ d, ds = [d] ∧ TD d ∧ Φ (.bl (isW d)) μ
theorem len_is_word {ds μ Φ Ψ} (h : c_is_word ds μ Φ Ψ) : ds.length = 1 := by obtain ⟨i, rfl, _⟩ := h; rfl
theorem ok_is_word {cx : CXT} (T : Txt P w K mg) : FnOk P w K mg base cx 1 T.f_is_word T.d_is_word ["value"] (spOf K c_is_word) := by
  refine def_okC T.F_is_word sc_is_word _ (fun ds μ Φ Ψ h => len_is_word h) (fun cdv A outer s H E B hW hr =>
    ⟨_, (pss_cons (ps_if (PW.pt (pw_or (pt_not (pt_val (pe_callB call_isi (by rfl) T.z_isinstance (by decide +kernel) (pa_cons (pv 0) (pa_cons (pe_bltn (v := .ty "str") rfl T.z_str (by decide +kernel) rfl) pa_nil))))) (pw_or1 (pt_not (pt_chain op_le op_le pe_int (pe_callB call_len_str (by rfl) T.z_len PySem.boot_len (pa_cons (pv 0) pa_nil)) (pe_glob (v := .int 12) rfl T.g_LONGEST_WORD.choose_spec ⟨_, rfl⟩)))))) (pss_one (ps_ret pe_bl)) pss_nil)
      (pss_one (ps_ret (pe_callB (cr_all rfl) (by rfl) T.z_all (by decide +kernel) (pa_cons (pe_lc (own := [("letter", 1)]) rfl sc_is_word.nd (pi_str (pv 0)) (blkOk_by (N := N_is_word) (sc := defScope s_is_word) (by decide +kernel)) (fun _ _ _ _ _ => (pg_name (i := 1) sc_is_word.nd rfl (Or.inl rfl))) (fun _ _ _ _ _ => pts_nil) (fun _ _ _ _ _ => (pe_cmpR op_in_sign (pv 1) (pe_glob (v := .str "abcdefghijklmnopqrstuvwxyz") rfl T.g_LETTERS.choose_spec ⟨_, rfl⟩) (by with_unfolding_all rfl)))) pa_nil))))),
      (sSeq (sIfS (sOr (sNot (sB (sCB (rcIsi (T := "str")) (sCons sVar (sCons sHd sNil))))) (sNot (sTest (sChain roBl0 roBl0 sInt (sCB rcLenStr (sCons sVar sNil)) sInt)))) (sRet sBl) sNext)
      (sRet (sCB rcAll (sCons (sLc (siText sVar) (gwName List.mem_cons_self) (fun _ _ _ => sName) (fun _ _ _ => sYes) (fun _ _ _ => (sOp roInS sVar sStr))) sNil))))⟩) (fun ds μ Φ Ψ h => ?hv)
  case hv =>
    obtain ⟨d, rfl, hd, h⟩ := h
    cases hd with
    | int i => walk_at "wps"; exact ret_same h
    | tup l => walk_at "wps"; exact ret_same h
    | str s hz =>
      have hL : (Str.ofString "abcdefghijklmnopqrstuvwxyz").cps.toList = [97, 98, 99, 100, 101, 102, 103, 104, 105, 106, 107, 108, 109, 110, 111, 112, 113, 114, 115, 116, 117, 118, 119, 120, 121, 122] := by decide +kernel
      walk_at "wps"
      refine ⟨hz, fun h1 => ⟨fun h2 => ret_same ?_, fun h2 => ?_⟩, fun h1 => ret_same ?_⟩
      · have h5 : isW (.str s) = false := by
          simp only [Bool.not_eq_true', decide_eq_false_iff_not] at h2
          simp only [isW]; rw [decide_eq_false (by omega)]; rfl
        rw [h5] at h; exact h
      · have h3 : (TL.tl s).length ≤ 12 := by simp only [Bool.not_eq_false', decide_eq_true_eq] at h2; omega
        have h4 : 1 ≤ (TL.tl s).length := by omega
        have hl : (List.map (fun c => D.str { cps := #[c] }) s.cps.toList).length = (TL.tl s).length := List.length_map ..
        refine lcG_mapN (fun i => .bl (isLet ((TL.tl s).getD i 0))) (by rw [hl]; exact hz) (fun i d μ2 X hi hsub hx => ?_) ?_
        · rw [List.getElem?_map, Option.map_eq_some_iff] at hi
          obtain ⟨c, hc, rfl⟩ := hi
          walk_at "wps"
          have : (TL.tl s).getD i 0 = c := by rw [List.getD_eq_getElem?_getD]; show (s.cps.toList[i]?).getD 0 = c; rw [hc]; rfl
          rw [this] at hx
          have e : decide (c ∈ TL.tl (Str.ofString "abcdefghijklmnopqrstuvwxyz")) = isLet c := by
            show decide (c ∈ (Str.ofString "abcdefghijklmnopqrstuvwxyz").cps.toList) = _
            rw [hL, isLet]
            apply Bool.eq_iff_iff.2
            simp only [List.mem_cons, List.not_mem_nil, or_false, decide_eq_true_eq]
            omega
          rw [e]
          exact hx
        · rw [hl]
          refine w_allB (P := (TL.tl s).map isLet) (range_map (f := fun c => D.bl (isLet c)) (d := 0) |>.trans (by rw [List.map_map]; rfl)) (ret_same ?_)
          have : ((TL.tl s).map isLet).all id = (TL.tl s).all isLet := by rw [List.all_map]; rfl
          rw [this]
          have h5 : isW (.str s) = (TL.tl s).all isLet := by simp only [isW]; rw [decide_eq_true ⟨h4, h3⟩]; rfl
          rw [h5] at h; exact h
      · have h5 : isW (.str s) = false := by simp only [isW]; rw [decide_eq_false (by omega)]; rfl
        rw [h5] at h; exact h
def c_count_choices : Con := fun ds μ Φ _ => ∃ ws : List Int, ds = [.lst (ws.map .int)] ∧ (∀ i z, ws[i]? = some z → CMulX (prodI (ws.take i)) z) ∧ Φ (.int (prodI ws)) μ
theorem len_count_choices {ds μ Φ Ψ} (h : c_count_choices ds μ Φ Ψ) : ds.length = 1 := by obtain ⟨i, rfl, _⟩ := h; rfl
theorem ok_count_choices {cx : CXT} (T : Txt P w K mg) : FnOk P w K mg base cx 1 T.f_count_choices T.d_count_choices ["widths"] (spOf K c_count_choices) := by
  refine def_okC T.F_count_choices sc_count_choices _ (fun ds μ Φ Ψ h => len_count_choices h) (fun cdv A outer s H E B hW hr =>
    ⟨_, (pss_cons (ps_set (i := 1) sc_count_choices.nd rfl (Or.inl rfl) pe_int)
      (pss_cons (ps_for (passes_of rfl) rfl (pi_list (pv 0)) (pg_name (i := 2) sc_count_choices.nd rfl (Or.inl rfl)) (pss_one (ps_set (i := 1) sc_count_choices.nd rfl (Or.inl rfl) (pe_op op_mulX (pv 1) (pv 2)))))
      (pss_one (ps_ret (pv 1))))),
      (sSeq (sAsg sInt sName)
      (sSeq (sFor (siL sVar) (fun _ _ _ => sName) (fun _ _ _ => (sAsg (sOp roInt sVar sVar) sName)))
      (sRet sVar)))⟩) (fun ds μ Φ Ψ h => ?hv)
  case hv =>
    obtain ⟨ws, rfl, hc, h⟩ := h
    walk_at "wps"
    refine ⟨fun i δ' μ' => μ' = μ ∧ ∃ x, δ' = [some (.lst (ws.map .int)), some (.int (prodI (ws.take i))), x], ⟨rfl, none, rfl⟩, ?_, ?_⟩
    · rintro i d δ' μ' hi ⟨rfl, x, rfl⟩
      obtain ⟨z, hz, rfl⟩ := mapI_get hi
      walk_at "wps"
      exact ⟨hc i z hz, _, by rw [prod_snoc hz]⟩
    · rintro δ' μ' ⟨rfl, x, rfl⟩
      rw [List.take_length]
      walk_at "wps"
      exact ret_same h
def c_has_outcomes : Con := fun ds μ Φ _ => ∃ i : Int, ds = [.int i] ∧ Φ (.bl (decide (1 ≤ i ∧ i ≤ 4))) μ
theorem len_has_outcomes {ds μ Φ Ψ} (h : c_has_outcomes ds μ Φ Ψ) : ds.length = 1 := by obtain ⟨i, rfl, _⟩ := h; rfl
theorem w_has_outcomes {i μ Φ Ψ} : c_has_outcomes [.int i] μ Φ Ψ = Φ (.bl (decide (1 ≤ i ∧ i ≤ 4))) μ := propext ⟨fun ⟨a, e, q⟩ => by cases e; exact q, fun q => ⟨i, rfl, q⟩⟩
theorem ok_has_outcomes {cx : CXT} (T : Txt P w K mg) : FnOk P w K mg base cx 1 T.f_has_outcomes T.d_has_outcomes ["outcomes"] (spOf K c_has_outcomes) := by
  refine def_okC T.F_has_outcomes sc_has_outcomes _ (fun ds μ Φ Ψ h => len_has_outcomes h) (fun cdv A outer s H E B hW hr =>
    ⟨_, (pss_one (ps_ret (pe_chain op_le op_le pe_int (pv 0) (pe_glob (v := .int 4) rfl T.g_MOST_OUTCOMES.choose_spec ⟨_, rfl⟩)))),
      (sRet (sChain roBl0 roBl0 sInt sVar sInt))⟩) (fun ds μ Φ Ψ h => ?hv)
  case hv =>
    obtain ⟨i, rfl, h⟩ := h
    walk_at "wps"
    refine ⟨fun h1 => ret_same ?_, fun h1 => ret_same ?_⟩
    · simpa [h1] using h
    · simpa [h1] using h
def c_width_at : Con := fun ds μ Φ _ => ∃ (ws : List Int) (p : Nat), ds = [.tup (ws.map .int), .int (p : Int)] ∧ WsOk ws ∧ Φ (.int (wd ws p : Int)) μ
theorem len_width_at {ds μ Φ Ψ} (h : c_width_at ds μ Φ Ψ) : ds.length = 2 := by obtain ⟨i, _, rfl, _⟩ := h; rfl
theorem ok_width_at {cx : CXT} (T : Txt P w K mg) : FnOk P w K mg base cx 1 T.f_width_at T.d_width_at ["widths", "place"] (spOf K c_width_at) := by
  refine def_okC T.F_width_at sc_width_at _ (fun ds μ Φ Ψ h => len_width_at h) (fun cdv A outer s H E B hW hr =>
    ⟨_, (pss_one (ps_ret (pe_ix ix_tup (pv 0) (pe_op op_mod (pv 1) (pe_callB call_len_seq (by rfl) T.z_len PySem.boot_len (pa_cons (pv 0) pa_nil))) (fun _ _ => rfl)))),
      (sRet (sOp roIxT sVar (sOp roInt sVar (sCB rcLen (sCons sVar sNil)))))⟩) (fun ds μ Φ Ψ h => ?hv)
  case hv =>
    obtain ⟨ws, p, rfl, hw, h⟩ := h
    have h0 := hw.l0
    obtain ⟨x, hx, e, x1, x2⟩ := hw.at_ p
    walk_at "wps"
    have em : (p : Int) % (ws.length : Int) = ((p % ws.length : Nat) : Int) := rfl
    rw [em]
    refine ⟨by omega, _, atI_nat (v := .int x) (by rw [List.getElem?_map, hx]; rfl), ret_same ?_⟩
    rw [e]; exact h
def c_terms_behind : Con := fun ds μ Φ _ => ∃ xs : List D, ds = [.tup xs] ∧ Φ (.tup (xs.drop 2)) μ
theorem len_terms_behind {ds μ Φ Ψ} (h : c_terms_behind ds μ Φ Ψ) : ds.length = 1 := by obtain ⟨i, rfl, _⟩ := h; rfl
theorem ok_terms_behind {cx : CXT} (T : Txt P w K mg) : FnOk P w K mg base cx 1 T.f_terms_behind T.d_terms_behind ["term"] (spOf K c_terms_behind) := by
  refine def_okC T.F_terms_behind sc_terms_behind _ (fun ds μ Φ Ψ h => len_terms_behind h) (fun cdv A outer s H E B hW hr =>
    ⟨_, (pss_one (ps_ret (pe_slice sl_tupN (pv 0) (po_some (pe_glob (v := .int 2) rfl T.g_ITEMS_BEFORE.choose_spec ⟨_, rfl⟩)) po_none))),
      (sRet (sSlT sVar (sPart sInt) sNoPart))⟩) (fun ds μ Φ Ψ h => ?hv)
  case hv =>
    obtain ⟨xs, rfl, h⟩ := h
    walk_at "wps"
    rw [show (2 : Int) = ((2 : Nat) : Int) from rfl, cut_from]
    exact ret_same h
end
section
variable {P : Program} {w : World} {K : Fg} {mg : Str → Option Value} {base : Heap}
def pthD : Option (List Int) → D
  | none => .non
  | some p => .tup (p.map .int)
def c_wrong_part : Nat → Con := fun n ds μ Φ _ => ∃ (k : Nat) (d : D) (e : Nat), k < n ∧ ds = [d, .int e] ∧ Tm k d ∧ 1 ≤ e ∧ e ≤ 31 ∧ Φ (pthD (fdp (31 - e) d)) μ
theorem len_wrong_part {n ds μ Φ Ψ} (h : c_wrong_part n ds μ Φ Ψ) : ds.length = 2 := by obtain ⟨_, _, _, _, rfl, _⟩ := h; rfl
theorem step_wrong_part (T : Txt P w K mg) {k : Nat} (hk : 2 ≤ k) (n : Nat) (ih_wrong_part : FnOk P w K mg base (L2N.CX P w) k T.f_wrong_part T.d_wrong_part ["term", "depth"] (spOf K (c_wrong_part n))) : FnOk P w K mg base (L2N.CX P w) (k + 1) T.f_wrong_part T.d_wrong_part ["term", "depth"] (spOf K (c_wrong_part (n + 1))) := by
  refine def_okC T.F_wrong_part sc_wrong_part _ (fun ds μ Φ Ψ h => len_wrong_part h) (fun cdv A outer s H E B hW hr =>
    have tk : L2N.Takes (cxOf (L2N.CX P w) P w K mg base N_wrong_part "wrong_part" (defScope s_wrong_part) T.f_wrong_part cdv A outer s H E) (fun cls d _ H => E cls d H) := L2N.takes_of rfl rfl rfl rfl
    ⟨_, (pss_cons (ps_if (pt_not (pt_val (pe_callB call_isi (by rfl) T.z_isinstance (by decide +kernel) (pa_cons (pv 0) (pa_cons (pe_bltn (v := .ty "tuple") rfl T.z_tuple (by decide +kernel) rfl) pa_nil))))) (pss_one (ps_ret (pe_ifExp (PW.pt (pw_or (pt_val (pe_call (ok_is_word T) (hr.mono (by omega)) rfl T.g_is_word T.F_is_word.kp T.b_is_word .nil passN (pa_cons (pv 0) pa_nil))) (pw_or1 (pt_val (pe_call (ok_is_below T) (hr.mono (by omega)) rfl T.g_is_below T.F_is_below.kp T.b_is_below .nil passN (pa_cons (pv 0) (pa_cons (pe_glob (v := .int 1000000000) rfl T.g_NUMBERS_END.choose_spec ⟨_, rfl⟩) pa_nil))))))) pe_non (pe_tupN pa_nil)))) pss_nil)
      (pss_cons (ps_if (pt_cmpR op_gt (pv 1) (pe_glob (v := .int 30) rfl T.g_DEEPEST_TUPLE.choose_spec ⟨_, rfl⟩) (nomark _)) (pss_one (ps_ret (pe_tupN pa_nil))) pss_nil)
      (pss_cons (ps_for (passes_of rfl) rfl (pi_enumT (by rfl) T.z_enumerate (pa_cons (pv 0) pa_nil)) (pg_tup (n := 2) rfl (pgs_cons (pg_name (i := 2) sc_wrong_part.nd rfl (Or.inl rfl)) (pgs_cons (pg_name (i := 3) sc_wrong_part.nd rfl (Or.inl rfl)) pgs_nil))) (pss_cons (ps_set (i := 4) sc_wrong_part.nd rfl (Or.inl rfl) (pe_call ih_wrong_part hr rfl T.g_wrong_part T.F_wrong_part.kp T.b_wrong_part .nil passN (pa_cons (pv 3) (pa_cons (pe_op op_add (pv 1) pe_int) pa_nil))))
      (pss_one (ps_if (pt_cmpR op_notN (pv 4) pe_non (nomark _)) (pss_one (ps_ret (pe_op op_catN (pe_tupN (pa_cons (pv 2) pa_nil)) (pv 4)))) pss_nil))))
      (pss_one (ps_ret pe_non))))),
      (sSeq (sIfS (sNot (sB (sCB (rcIsi (T := "tuple")) (sCons sVar (sCons sHd sNil))))) (sRet (sIf (sOr (sB (sCall (sCons sVar sNil))) (sB (sCall (sCons sVar (sCons sInt sNil))))) sNon (sTup sNil))) sNext)
      (sSeq (sIfS (sTest (sOp roBl0 sVar sInt)) (sRet (sTup sNil)) sNext)
      (sSeq (sFor (siEnumT sVar) (fun _ _ _ => (sgTup (sgCons sName (sgCons sName sgNil)))) (fun _ _ _ => (sSeq (sAsg (sCall (sCons sVar (sCons (sOp roInt0 sVar sInt) sNil))) sName)
      (sIfS (sTest (sOp roNotN sVar sNon)) (sRet (sOp roCatT (sTup (sCons sVar sNil)) sVar)) sNext))))
      (sRet sNon))))⟩) (fun ds μ Φ Ψ h => ?hv)
  case hv =>
    obtain ⟨k, d, e, hk, rfl, hd, he, he2, h⟩ := h
    cases hd with
    | @word _ s h0 h1 h2 =>
      walk_at "wps"
      refine ⟨_, rfl, .str s (by omega), ?_⟩
      have h5 : isW (.str s) = true := by simp only [isW]; rw [decide_eq_true ⟨h0, h1⟩, List.all_eq_true.2 h2]; rfl
      rw [h5]
      walk_at "wps"
      have : fdp (31 - e) (.str s) = none := by cases 31 - e <;> simp [fdp]
      rw [this] at h
      exact ret_same h
    | @num _ i h0 h1 =>
      walk_at "wps"
      have : fdp (31 - e) (.int i) = none := by cases 31 - e <;> simp [fdp]
      rw [this] at h
      refine ⟨_, rfl, .int i, ?_⟩
      simp only [isW]
      walk_at "wps"
      refine ⟨_, _, rfl, .int i, ?_⟩
      have h5 : blw 1000000000 (.int i) = true := by simp only [blw]; rw [decide_eq_true ⟨h0, h1⟩]
      rw [h5]
      walk_at "wps"
      exact ret_same h
    | @tup k' l hx =>
      walk_at "wps"
      refine ⟨fun c1 => ?_, fun c1 => ?_⟩
      · have h31 : e = 31 := by omega
        subst h31
        rw [fdp] at h
        exact ⟨by omega, ret_same h⟩
      · obtain ⟨j, hj⟩ : ∃ j, 31 - e = j + 1 := ⟨30 - e, by omega⟩
        have hj2 : 31 - (e + 1) = j := by omega
        rw [hj, fdp] at h
        refine ⟨fun i δ' μ' => μ' = μ ∧ (∀ m y, m < i → l[m]? = some y → fdp j y = none) ∧ ∃ x2 x3 x4, δ' = [some (.tup l), some (.int e), x2, x3, x4], ⟨rfl, fun m y hm => absurd hm (Nat.not_lt_zero _), none, none, none, rfl⟩, ?_, ?_⟩
        · rintro i d δ' μ' hi ⟨rfl, hpre, x2, x3, x4, rfl⟩
          rw [List.getElem?_map, Option.map_eq_some_iff] at hi
          obtain ⟨i', hi, rfl⟩ := hi
          have hil : i < l.length := by have := (List.getElem?_eq_some_iff.mp hi).1; simpa using this
          have : i' = i := by rw [List.getElem?_range hil] at hi; exact (Option.some.inj hi).symm
          subst this
          have eg : l.getD i' .non = l[i'] := by rw [List.getD_eq_getElem?_getD, List.getElem?_eq_getElem hil]; rfl
          rw [eg]
          walk_at "wps"
          refine ⟨k', l[i'], e + 1, by omega, rfl, hx _ (List.getElem_mem hil), by omega, by omega, ?_⟩
          rw [hj2]
          cases hp : fdp j l[i'] with
          | none =>
            simp only [pthD]
            walk_at "wps"
            exact ⟨fun m y hm hy => by
              by_cases c : m = i'
              · subst c; rw [List.getElem?_eq_getElem hil] at hy; cases hy; exact hp
              · exact hpre m y (by omega) hy, _, _, _, rfl⟩
          | some p =>
            have hpl := fdp_len hp
            rw [fdpl_at hpre (List.getElem?_eq_getElem hil) hp] at h
            simp only [pthD] at h ⊢
            walk_at "wps"
            refine ⟨by decide, by omega, ret_same ?_⟩
            rw [Int.zero_add, List.map_cons] at h
            exact h
        · rintro δ' μ' ⟨rfl, hpre, x2, x3, x4, rfl⟩
          walk_at "wps"
          rw [fdpl_none (fun x hx => ?_)] at h
          · exact ret_same h
          · obtain ⟨m, hm⟩ := List.getElem?_of_mem hx
            have := (List.getElem?_eq_some_iff.mp hm).1
            exact hpre m x (by simp; omega) hm
def c_text_of : Nat → Con := fun n ds μ Φ _ => ∃ k d, k < n ∧ ds = [d] ∧ Tm k d ∧ (txt d).length ≤ 90000 ∧ Φ (.str (S (txt d))) μ
theorem len_text_of {n ds μ Φ Ψ} (h : c_text_of n ds μ Φ Ψ) : ds.length = 1 := by obtain ⟨_, _, _, rfl, _⟩ := h; rfl
theorem step_text_of (T : Txt P w K mg) {k : Nat} (hk : 0 ≤ k) (n : Nat) (ih_text_of : FnOk P w K mg base (L2N.CX P w) k T.f_text_of T.d_text_of ["term"] (spOf K (c_text_of n))) : FnOk P w K mg base (L2N.CX P w) (k + 1) T.f_text_of T.d_text_of ["term"] (spOf K (c_text_of (n + 1))) := by
  refine def_okC T.F_text_of sc_text_of _ (fun ds μ Φ Ψ h => len_text_of h) (fun cdv A outer s H E B hW hr =>
    have tk : L2N.Takes (cxOf (L2N.CX P w) P w K mg base N_text_of "text_of" (defScope s_text_of) T.f_text_of cdv A outer s H E) (fun cls d _ H => E cls d H) := L2N.takes_of rfl rfl rfl rfl
    ⟨_, (pss_cons (ps_if (pt_not (pt_val (pe_callB call_isi (by rfl) T.z_isinstance (by decide +kernel) (pa_cons (pv 0) (pa_cons (pe_bltn (v := .ty "tuple") rfl T.z_tuple (by decide +kernel) rfl) pa_nil))))) (pss_one (ps_ret (pe_callTy call_strA (by rfl) T.z_str (by decide +kernel) (pa_cons (pv 0) pa_nil)))) pss_nil)
      (pss_one (ps_ret (pe_op op_add_str (pe_op op_add_str pe_str (pe_bm PySem.F.plainAttrs_str PySem.F.slot_str_join PySem.F.type_str_join mt_join pe_str (pa_cons (pe_lc (own := [("item", 1)]) rfl sc_text_of.nd (pi_tup (pv 0)) (blkOk_by (N := N_text_of) (sc := defScope s_text_of) (by decide +kernel)) (fun _ _ _ _ _ => (pg_name (i := 1) sc_text_of.nd rfl (Or.inl rfl))) (fun _ _ _ _ _ => pts_nil) (fun _ _ _ _ _ => (pe_call ih_text_of hr rfl T.g_text_of T.F_text_of.kp T.b_text_of .nil passN (pa_cons (pv 1) pa_nil)))) pa_nil))) pe_str)))),
      (sSeq (sIfS (sNot (sB (sCB (rcIsi (T := "tuple")) (sCons sVar (sCons sHd sNil))))) (sRet (sCB rcStr (sCons sVar sNil))) sNext)
      (sRet (sOp roCatS (sOp roCatS sStr (sJoin sStr (sLc (siT sVar) (gwName List.mem_cons_self) (fun _ _ _ => sName) (fun _ _ _ => sYes) (fun _ _ _ => (sCall (sCons sVar sNil)))))) sStr)))⟩) (fun ds μ Φ Ψ h => ?hv)
  case hv =>
    obtain ⟨k, d, hk, rfl, hd, hz, h⟩ := h
    cases hd with
    | @word _ s h0 h1 h2 => walk_at "wps"; rw [txt, S_tl] at h; exact ret_same h
    | @num _ i h0 h1 =>
      walk_at "wps"
      refine ⟨Nat.lt_of_lt_of_le (PySem.Flt.log2_lt_of (n := i.natAbs) (by decide : 0 < 100) (by omega)) (by decide), ret_same ?_⟩
      have e := TL.tl_num i.toNat
      rw [Int.toNat_of_nonneg h0] at e
      rw [txt, ← e, S_tl] at h
      exact h
    | @tup k' l hx =>
      rw [txt] at h hz
      have hb : (txts l).length ≤ 90000 := by simp at hz; omega
      have hsz : l.length ≤ (txts l).length := items_len hx
      have hsum := join_size hx
      walk_at "wps"
      simp only [dJoin]
      walk_at "wps"
      refine lcG_mapN (fun i => .str (S (txt (l.getD i .non)))) (by omega) (fun i d μ2 X hi hsub hx2 => ?_) ?_
      · walk_at "wps"
        have e : l.getD i .non = d := by rw [List.getD_eq_getElem?_getD, hi]; rfl
        rw [e] at hx2
        exact ⟨_, _, by omega, rfl, hx d (List.mem_of_getElem? hi), Nat.le_trans (item_le (List.mem_of_getElem? hi)) hb, hx2⟩
      · rw [range_map (f := fun x => D.str (S (txt x)))]
        refine ⟨l.map fun x => S (txt x), by rw [List.map_map]; rfl, ?_, ?_⟩
        · have e1 : (List.map (fun x => x.length) (List.map (fun x => S (txt x)) l)).sum = (List.map (fun x => (txt x).length) l).sum := by
            rw [List.map_map]
            congr 1
          have e2 : (Str.ofString " ").length = 1 := by decide +kernel
          rw [e1, e2, List.length_map]
          omega
        · rw [join_txts]
          walk_at "wps"
          have o1 : TL.tl (Str.ofString "(") = [40] := by decide +kernel
          have o2 : TL.tl (Str.ofString ")") = [41] := by decide +kernel
          have e : Str.ofString "(" ++ S (txts l) ++ Str.ofString ")" = S (40 :: (txts l ++ [41])) := by
            rw [← S_tl (_ ++ _ ++ _), TL.tl_append, TL.tl_append, tl_S, o1, o2]; rfl
          rw [e, TL.tl_append, tl_S, o1, o2]
          exact ⟨by simp; omega, by simp; omega, ret_same h⟩
theorem fn_false {cx : CXT} {k : Nat} {f : Addr} {fd : FuncData} {ps : List Str} : FnOk P w K mg base cx k f fd ps (spOf K fun _ _ _ _ => False) := by
  refine ⟨fun vs H Q E h => ?_, fun A outer s H args us vs Q E _ _ _ _ h => ?_⟩ <;> (obtain ⟨_, _, _, _, _, _, z, _⟩ := h; exact z.elim)
theorem fn_none {cx : CXT} {k : Nat} {f : Addr} {fd : FuncData} {ps : List Str} {c : Con} (h : ∀ ds μ Φ Ψ, ¬c ds μ Φ Ψ) : FnOk P w K mg base cx k f fd ps (spOf K c) := by
  rw [show c = fun _ _ _ _ => False from funext fun a => funext fun b => funext fun d => funext fun e => propext ⟨h a b d e, nofun⟩]
  exact fn_false
theorem okN_wrong_part (T : Txt P w K mg) : ∀ n, FnOk P w K mg base (L2N.CX P w) (2 + n) T.f_wrong_part T.d_wrong_part ["term", "depth"] (spOf K (c_wrong_part n))
  | 0 => fn_none fun _ _ _ _ ⟨_, _, _, h, _⟩ => absurd h (Nat.not_lt_zero _)
  | n + 1 => step_wrong_part T (Nat.le_add_right 2 n) n (okN_wrong_part T n)
theorem ok_wrong_part (T : Txt P w K mg) : FnOk P w K mg base (L2N.CX P w) 40 T.f_wrong_part T.d_wrong_part ["term", "depth"] (spOf K (c_wrong_part 38)) := okN_wrong_part T 38
theorem okN_text_of (T : Txt P w K mg) : ∀ n, FnOk P w K mg base (L2N.CX P w) n T.f_text_of T.d_text_of ["term"] (spOf K (c_text_of n))
  | 0 => fn_none fun _ _ _ _ ⟨_, _, h, _⟩ => absurd h (Nat.not_lt_zero _)
  | n + 1 => step_text_of T (Nat.zero_le _) n (okN_text_of T n)
theorem ok_text_of (T : Txt P w K mg) : FnOk P w K mg base (L2N.CX P w) 40 T.f_text_of T.d_text_of ["term"] (spOf K (c_text_of 40)) := okN_text_of T 40
def c_write_term (C : Addr) : Con := fun ds μ Φ Ψ => ∃ k d, k < 38 ∧ ds = [d] ∧ Tm k d ∧ (txt d).length ≤ 90000 ∧ (fdp 30 d = none → Φ (.str (S (txt d))) μ) ∧ (∀ p, fdp 30 d = some p → Ψ (.mk C (some (["path"], [.tup (p.map .int)]))) μ)
theorem len_write_term {C ds μ Φ Ψ} (h : c_write_term C ds μ Φ Ψ) : ds.length = 1 := by obtain ⟨_, _, _, rfl, _⟩ := h; rfl
theorem ok_write_term (T : Txt P w K mg) : FnOk P w K mg base (L2N.CX P w) 41 T.f_write_term T.d_write_term ["term"] (spOf K (c_write_term T.c_InvalidTerm)) := by
  refine def_okC T.F_write_term sc_write_term _ (fun ds μ Φ Ψ h => len_write_term h) (fun cdv A outer s H E B hW hr =>
    have tk : L2N.Takes (cxOf (L2N.CX P w) P w K mg base N_write_term "write_term" (defScope s_write_term) T.f_write_term cdv A outer s H E) (fun cls d _ H => E cls d H) := L2N.takes_of rfl rfl rfl rfl
    ⟨_, (pss_cons (ps_set (i := 1) sc_write_term.nd rfl (Or.inl rfl) (pe_call (ok_wrong_part T) hr rfl T.g_wrong_part T.F_wrong_part.kp T.b_wrong_part .nil passN (pa_cons (pv 0) (pa_cons pe_int pa_nil))))
      (pss_cons (ps_if (pt_cmpR op_notN (pv 1) pe_non (nomark _)) (pss_one (L2N.ps_raise rfl tk (pmk_sup T.ox_InvalidTerm T.ic_InvalidTerm T.ti_InvalidTerm T.no_InvalidTerm T.in_InvalidTerm (hr.mono (by decide)) T.bi_InvalidTerm passN rfl T.g_InvalidTerm (pa_cons (pv 1) pa_nil)))) pss_nil)
      (pss_one (ps_ret (pe_call (ok_text_of T) hr rfl T.g_text_of T.F_text_of.kp T.b_text_of .nil passN (pa_cons (pv 0) pa_nil)))))),
      (sSeq (sAsg (sCall (sCons sVar (sCons sInt sNil))) sName)
      (sSeq (sIfS (sTest (sOp roNotN sVar sNon)) (sRaise1 (W := fun cls d _ H => E cls d H) (C := T.c_InvalidTerm) (fld := "path") (by exact hW) okdPath_ok sVar) sNext)
      (sRet (sCall (sCons sVar sNil)))))⟩) (fun ds μ Φ Ψ h => ?hv)
  case hv =>
    obtain ⟨k, d, hk, rfl, hd, hz, h1, h2⟩ := h
    walk_at "wps"
    refine ⟨k, d, 1, hk, rfl, hd, by decide, by decide, ?_⟩
    show _
    cases hp : fdp (31 - 1) d with
    | none =>
      have hp : fdp 30 d = none := hp
      simp only [pthD]
      walk_at "wps"
      exact ⟨k, d, by omega, rfl, hd, hz, ret_same (h1 hp)⟩
    | some p =>
      have hp : fdp 30 d = some p := hp
      simp only [pthD]
      walk_at "wps"
      have hi := fdp_idx (plain_tm hd (by omega)) hp
      have hl := fdp_len hp
      exact ⟨⟨p, rfl, fun i hm => Nat.lt_of_lt_of_le (PySem.Flt.log2_lt_of (n := i.natAbs) (by decide : 0 < 100) (by have := hi i hm; omega)) (by decide), by omega⟩, μ, Sub.refl, h2 p hp⟩
def c_run_end : Con := fun ds μ Φ _ => ∃ (t g : Str) (a m : Nat), ds = [.str t, .int a, .str g, .int m] ∧ (TL.tl t).length ≤ 100000 ∧ a ≤ (TL.tl t).length ∧ Φ (.int (a + runLen (fun c => decide (c ∈ g.cps.toList)) m ((TL.tl t).drop a))) μ
theorem len_run_end {ds μ Φ Ψ} (h : c_run_end ds μ Φ Ψ) : ds.length = 4 := by obtain ⟨_, _, _, _, rfl, _⟩ := h; rfl
theorem ok_run_end {cx : CXT} (T : Txt P w K mg) : FnOk P w K mg base cx 1 T.f_run_end T.d_run_end ["text", "start", "signs", "most"] (spOf K c_run_end) := by
  refine def_okC T.F_run_end sc_run_end _ (fun ds μ Φ Ψ h => len_run_end h) (fun cdv A outer s H E B hW hr =>
    ⟨_, (pss_cons (ps_set (i := 4) sc_run_end.nd rfl (Or.inl rfl) (pv 1))
      (pss_cons (ps_while (passes_of rfl) (PW.pt (pw_and (pt_cmpR op_lt (pv 4) (pe_callB call_len_str (by rfl) T.z_len PySem.boot_len (pa_cons (pv 0) pa_nil)) (nomark _)) (pw_and (pt_cmpR op_lt (pv 4) (pe_op op_add (pv 1) (pv 3)) (nomark _)) (pw_and1 (pt_cmpR op_in_sign (pe_ix ix_str (pv 0) (pv 4) (fun _ _ => rfl)) (pv 2) (by with_unfolding_all rfl)))))) (pss_one (ps_aug (i := 4) sc_run_end.nd rfl (Or.inl rfl) pe_int ip_add)))
      (pss_one (ps_ret (pv 4))))),
      (sSeq (sAsg sVar sName)
      (sSeq (sWhile (sAnd (sTest (sOp roBl0 sVar (sCB rcLenStr (sCons sVar sNil)))) (sAnd (sTest (sOp roBl0 sVar (sOp roInt0 sVar sVar))) (sTest (sOp roInS (sOp roIxS sVar sVar) sVar)))) (sAug roIp sInt))
      (sRet sVar)))⟩) (fun ds μ Φ Ψ h => ?hv)
  case hv =>
    obtain ⟨t, g, a, m, rfl, h0, ha, h⟩ := h
    walk_at "wps"
    refine ⟨fun k δ' μ' => μ' = μ ∧ ∃ e : Nat, e + k = a + m ∧ a ≤ e ∧ e ≤ (TL.tl t).length ∧ a + runLen (fun c => decide (c ∈ g.cps.toList)) m ((TL.tl t).drop a) = e + runLen (fun c => decide (c ∈ g.cps.toList)) k ((TL.tl t).drop e) ∧ δ' = [some (.str t), some (.int a), some (.str g), some (.int m), some (.int e)], ⟨m, rfl, a, rfl, Nat.le_refl _, ha, rfl, rfl⟩, ?_⟩
    rintro k δ' μ' ⟨rfl, e, hk, h1, h2, h3, rfl⟩
    walk_at "wps"
    have at1 : ∀ hl : e < (TL.tl t).length, (TL.tl t).drop e = (TL.tl t)[e] :: (TL.tl t).drop (e + 1) := fun hl => List.drop_eq_getElem_cons hl
    refine ⟨h0, fun p1 => ⟨fun p2 => ?_, fun p2 => ret_same ?_⟩, fun p1 => ret_same ?_⟩
    · have hl : e < (TL.tl t).length := by omega
      obtain ⟨k, rfl⟩ : ∃ k', k = k' + 1 := ⟨k - 1, by omega⟩
      refine ⟨h0, (TL.tl t)[e], atI_nat (List.getElem?_eq_getElem hl), fun hc => ⟨k, by omega, e + 1, by omega, by omega, by omega, ?_, rfl⟩, fun hc => ret_same ?_⟩
      · rw [h3, at1 hl, runLen, if_pos (by simpa [TL.tl] using hc)]; omega
      · rw [at1 hl, runLen, if_neg (by simpa [TL.tl] using hc)] at h3
        rw [← Int.natCast_add, h3] at h; exact h
    · have : k = 0 := by omega
      subst this
      rw [runLen] at h3
      rw [← Int.natCast_add, h3] at h; exact h
    · rw [List.drop_eq_nil_of_le (i := e) (by omega)] at h3
      have : runLen (fun c => decide (c ∈ g.cps.toList)) k [] = 0 := by cases k <;> rfl
      rw [this] at h3
      rw [← Int.natCast_add, h3] at h; exact h
def c_read_tuple (C : Addr) : Nat → Con := fun n ds μ Φ Ψ => ∃ (t : Str) (a e : Nat), ds = [.str t, .int a, .int e] ∧ (TL.tl t).length ≤ 100000 ∧ a ≤ (TL.tl t).length ∧ 1 ≤ e ∧ e ≤ 30 ∧ 61 < n + 2 * e ∧
  (∀ x b, b ≤ (TL.tl t).length → Rd e (40 :: (TL.tl t).drop a) x ((TL.tl t).drop b) → Φ (.tup [x, .int b]) μ) ∧ (∀ b, b ≤ (TL.tl t).length → Bad e (40 :: (TL.tl t).drop a) ((TL.tl t).drop b) → Ψ (.mk C (some (["position"], [.int b]))) μ)
theorem len_read_tuple {C n ds μ Φ Ψ} (h : c_read_tuple C n ds μ Φ Ψ) : ds.length = 3 := by obtain ⟨_, _, _, rfl, _⟩ := h; rfl
def c_read_part (C : Addr) : Nat → Con := fun n ds μ Φ Ψ => ∃ (t : Str) (a e : Nat), ds = [.str t, .int a, .int e] ∧ (TL.tl t).length ≤ 100000 ∧ a ≤ (TL.tl t).length ∧ 1 ≤ e ∧ e ≤ 31 ∧ 62 < n + 2 * e ∧
  (∀ x b, b ≤ (TL.tl t).length → Rd e ((TL.tl t).drop a) x ((TL.tl t).drop b) → Φ (.tup [x, .int b]) μ) ∧ (∀ b, b ≤ (TL.tl t).length → Bad e ((TL.tl t).drop a) ((TL.tl t).drop b) → Ψ (.mk C (some (["position"], [.int b]))) μ)
theorem len_read_part {C n ds μ Φ Ψ} (h : c_read_part C n ds μ Φ Ψ) : ds.length = 3 := by obtain ⟨_, _, _, rfl, _⟩ := h; rfl
theorem step_read_part (T : Txt P w K mg) {k : Nat} (hk : 2 ≤ k) (n : Nat) (ih_read_tuple : FnOk P w K mg base (L2N.CX P w) k T.f_read_tuple T.d_read_tuple ["text", "start", "depth"] (spOf K (c_read_tuple T.c_InvalidText n))) : FnOk P w K mg base (L2N.CX P w) (k + 1) T.f_read_part T.d_read_part ["text", "start", "depth"] (spOf K (c_read_part T.c_InvalidText (n + 1))) := by
  refine def_okC T.F_read_part sc_read_part _ (fun ds μ Φ Ψ h => len_read_part h) (fun cdv A outer s H E B hW hr =>
    have tk : L2N.Takes (cxOf (L2N.CX P w) P w K mg base N_read_part "read_part" (defScope s_read_part) T.f_read_part cdv A outer s H E) (fun cls d _ H => E cls d H) := L2N.takes_of rfl rfl rfl rfl
    ⟨_, (pss_cons (ps_set (i := 3) sc_read_part.nd rfl (Or.inl rfl) (pe_slice sl_str (pv 0) (po_some (pv 1)) (po_some (pe_op op_add (pv 1) pe_int))))
      (pss_cons (ps_if (PW.pt (pw_and (pt_cmpR op_eq (pv 3) pe_str (nomark _)) (pw_and1 (pt_cmpR op_le (pv 2) (pe_glob (v := .int 30) rfl T.g_DEEPEST_TUPLE.choose_spec ⟨_, rfl⟩) (nomark _))))) (pss_one (ps_ret (pe_callS ih_read_tuple hr rfl T.g_read_tuple T.F_read_tuple.kp T.b_read_tuple (fun σ => L2N.passAt tk σ) (pa_cons (pv 0) (pa_cons (pe_op op_add (pv 1) pe_int) (pa_cons (pv 2) pa_nil)))))) pss_nil)
      (pss_cons (ps_if (pt_cmpR op_eq (pv 3) pe_str (nomark _)) (pss_one (ps_ret (pe_tupN (pa_cons pe_int (pa_cons (pe_op op_add (pv 1) pe_int) pa_nil))))) pss_nil)
      (pss_cons (ps_set (i := 4) sc_read_part.nd rfl (Or.inl rfl) (pe_call (ok_run_end T) (hr.mono (by omega)) rfl T.g_run_end T.F_run_end.kp T.b_run_end .nil passN (pa_cons (pv 0) (pa_cons (pv 1) (pa_cons (pe_glob (v := .str "abcdefghijklmnopqrstuvwxyz") rfl T.g_LETTERS.choose_spec ⟨_, rfl⟩) (pa_cons (pe_glob (v := .int 12) rfl T.g_LONGEST_WORD.choose_spec ⟨_, rfl⟩) pa_nil))))))
      (pss_cons (ps_if (pt_cmpR op_gt (pv 4) (pv 1) (nomark _)) (pss_one (ps_ret (pe_tupN (pa_cons (pe_slice sl_str (pv 0) (po_some (pv 1)) (po_some (pv 4))) (pa_cons (pv 4) pa_nil))))) pss_nil)
      (pss_cons (ps_set (i := 4) sc_read_part.nd rfl (Or.inl rfl) (pe_call (ok_run_end T) (hr.mono (by omega)) rfl T.g_run_end T.F_run_end.kp T.b_run_end .nil passN (pa_cons (pv 0) (pa_cons (pv 1) (pa_cons (pe_glob (v := .str "0123456789") rfl T.g_DIGITS.choose_spec ⟨_, rfl⟩) (pa_cons (pe_glob (v := .int 9) rfl T.g_LONGEST_NUMBER.choose_spec ⟨_, rfl⟩) pa_nil))))))
      (pss_cons (ps_if (pt_cmpR op_gt (pv 4) (pv 1) (nomark _)) (pss_one (ps_ret (pe_tupN (pa_cons (pe_callTy call_int_str (by rfl) T.z_int (by decide +kernel) (pa_cons (pe_slice sl_str (pv 0) (po_some (pv 1)) (po_some (pv 4))) pa_nil)) (pa_cons (pv 4) pa_nil))))) pss_nil)
      (pss_one (L2N.ps_raise rfl tk (pmk_sup T.ox_InvalidText T.ic_InvalidText T.ti_InvalidText T.no_InvalidText T.in_InvalidText (hr.mono (by omega)) T.bi_InvalidText passN rfl T.g_InvalidText (pa_cons (pv 1) pa_nil))))))))))),
      (sSeq (sAsg (sSlS sVar (sPart sVar) (sPart (sOp roInt0 sVar sInt))) sName)
      (sSeq (sIfS (sAnd (sTest (sOp roEq sVar sStr)) (sTest (sOp roBl0 sVar sInt))) (sRet (sCallSW (W := fun cls d _ H => E cls d H) (by exact hW) (sCons sVar (sCons (sOp roInt0 sVar sInt) (sCons sVar sNil))))) sNext)
      (sSeq (sIfS (sTest (sOp roEq sVar sStr)) (sRet (sTup (sCons sInt (sCons (sOp roInt0 sVar sInt) sNil)))) sNext)
      (sSeq (sAsg (sCall (sCons sVar (sCons sVar (sCons sStr (sCons sInt sNil))))) sName)
      (sSeq (sIfS (sTest (sOp roBl0 sVar sVar)) (sRet (sTup (sCons (sSlS sVar (sPart sVar) (sPart sVar)) (sCons sVar sNil)))) sNext)
      (sSeq (sAsg (sCall (sCons sVar (sCons sVar (sCons sStr (sCons sInt sNil))))) sName)
      (sSeq (sIfS (sTest (sOp roBl0 sVar sVar)) (sRet (sTup (sCons (sCB rcIntS (sCons (sSlS sVar (sPart sVar) (sPart sVar)) sNil)) (sCons sVar sNil)))) sNext)
      (sRaise1 (W := fun cls d _ H => E cls d H) (C := T.c_InvalidText) (fld := "position") (by exact hW) okdInt_ok sVar))))))))⟩) (fun ds μ Φ Ψ h => ?hv)
  case hv =>
    obtain ⟨t, a, e, rfl, hz, ha, he, he2, hn, h1, h2⟩ := h
    have hnx : ∀ {c l'}, (TL.tl t).drop a = c :: l' → a + 1 ≤ (TL.tl t).length ∧ (TL.tl t).drop (a + 1) = l' := fun {c l'} q => by
      have hl := congrArg List.length q
      rw [List.length_drop, List.length_cons] at hl
      refine ⟨by omega, ?_⟩
      rw [← List.tail_drop, q]; rfl
    walk_at "wps"
    simp only [cutS_1, o_open, o_zero]
    refine ⟨hz, fun c => ⟨fun c2 => ?A, fun c2 => ?B⟩, fun c => ?C⟩
    case A =>
      obtain ⟨l', hl'⟩ := take1.1 c
      obtain ⟨q1, q2⟩ := hnx hl'
      refine ⟨t, a + 1, e, rfl, hz, q1, he, by omega, by omega, fun x b hb hr => ret_same (h1 x b hb ?_), fun b hb hr => ⟨_, Sub.refl, h2 b hb ?_⟩⟩
      · rw [hl', ← q2]; exact hr
      · rw [hl', ← q2]; exact hr
    case' B => have hno : ∀ l', (TL.tl t).drop a = 40 :: l' → 30 < e := fun _ _ => by omega
    case' C => have hno : ∀ l', (TL.tl t).drop a = 40 :: l' → 30 < e := fun l' q => absurd (take1.2 ⟨l', q⟩) c
    all_goals
      refine ⟨fun c3 => ?_, fun c3 => ?_⟩
      · obtain ⟨l', hl'⟩ := take1.1 c3
        obtain ⟨q1, q2⟩ := hnx hl'
        exact ⟨by decide, ret_same (h1 _ (a + 1) q1 (by rw [hl', q2]; exact .zero))⟩
      refine ⟨t, _, a, 12, rfl, hz, ha, ?_⟩
      rw [in_let]
      walk_at "wps"
      have hr1 := runLen_len (p := isLet) (m := 12) (l := (TL.tl t).drop a)
      rw [List.length_drop] at hr1
      refine ⟨fun c4 => ⟨hz, by decide, ret_same ?_⟩, fun c4 => ?_⟩
      · rw [← Int.natCast_add, cutS_ab t (by omega), Nat.add_sub_cancel_left]
        refine h1 _ _ (by omega) ?_
        rw [← List.drop_drop]
        exact .word (by omega)
      refine ⟨t, _, a, 9, rfl, hz, ha, ?_⟩
      rw [in_dig]
      walk_at "wps"
      have hr2 := runLen_len (p := isDig) (m := 9) (l := (TL.tl t).drop a)
      have hr3 := runLen_le (p := isDig) (m := 9) (l := (TL.tl t).drop a)
      rw [List.length_drop] at hr2
      have h48 : ∀ l', (TL.tl t).drop a ≠ 48 :: l' := fun l' q => c3 (take1.2 ⟨l', q⟩)
      refine ⟨fun c5 => ⟨hz, ?_⟩, fun c5 => ⟨⟨a, rfl, log_small (by omega)⟩, _, Sub.refl, h2 a ha ?_⟩⟩
      · rw [← Int.natCast_add, cutS_ab t (by omega), Nat.add_sub_cancel_left]
        refine ⟨_, _, rfl, int_of_digits runLen_all (fun q => ?_) ?_, ?_, by decide, ret_same ?_⟩
        · have := congrArg List.length q
          rw [List.length_take, List.length_drop, Nat.min_eq_left hr2, List.length_nil] at this
          omega
        · rw [List.length_take]; omega
        · rw [S_len, List.length_take]; omega
        · refine h1 _ _ (by omega) ?_
          rw [← List.drop_drop]
          exact .num h48 (by omega) (by omega)
      · exact .here h48 hno (by omega) (by omega)
theorem step_read_tuple (T : Txt P w K mg) {k : Nat} (hk : 2 ≤ k) (n : Nat) (ih_read_part : FnOk P w K mg base (L2N.CX P w) k T.f_read_part T.d_read_part ["text", "start", "depth"] (spOf K (c_read_part T.c_InvalidText n))) : FnOk P w K mg base (L2N.CX P w) (k + 1) T.f_read_tuple T.d_read_tuple ["text", "start", "depth"] (spOf K (c_read_tuple T.c_InvalidText (n + 1))) := by
  refine def_okC T.F_read_tuple sc_read_tuple _ (fun ds μ Φ Ψ h => len_read_tuple h) (fun cdv A outer s H E B hW hr =>
    have tk : L2N.Takes (cxOf (L2N.CX P w) P w K mg base N_read_tuple "read_tuple" (defScope s_read_tuple) T.f_read_tuple cdv A outer s H E) (fun cls d _ H => E cls d H) := L2N.takes_of rfl rfl rfl rfl
    ⟨_, (pss_cons (ps_if (pt_cmpR op_eq (pe_slice sl_str (pv 0) (po_some (pv 1)) (po_some (pe_op op_add (pv 1) pe_int))) pe_str (nomark _)) (pss_one (ps_ret (pe_tupN (pa_cons (pe_tupN pa_nil) (pa_cons (pe_op op_add (pv 1) pe_int) pa_nil))))) pss_nil)
      (pss_cons (ps_set (i := 3) sc_read_tuple.nd rfl (Or.inl rfl) (pe_lst pa_nil))
      (pss_cons (ps_set (i := 4) sc_read_tuple.nd rfl (Or.inl rfl) (pv 1))
      (pss_one (ps_while (passes_of rfl) (pt_val pe_bl) (pss_cons (ps_asg (pe_callS ih_read_part hr rfl T.g_read_part T.F_read_part.kp T.b_read_part (fun σ => L2N.passAt tk σ) (pa_cons (pv 0) (pa_cons (pv 4) (pa_cons (pe_op op_add (pv 2) pe_int) pa_nil)))) (pg_tup (n := 2) rfl (pgs_cons (pg_name (i := 5) sc_read_tuple.nd rfl (Or.inl rfl)) (pgs_cons (pg_name (i := 6) sc_read_tuple.nd rfl (Or.inl rfl)) pgs_nil))))
      (pss_cons (ps_expr (pe_bm PySem.F.plainAttrs_list PySem.F.slot_list_append PySem.F.type_list_append mt_append (pv 3) (pa_cons (pv 5) pa_nil)))
      (pss_cons (ps_if (pt_cmpR op_eq (pe_slice sl_str (pv 0) (po_some (pv 6)) (po_some (pe_op op_add (pv 6) pe_int))) pe_str (nomark _)) (pss_one (ps_ret (pe_tupN (pa_cons (pe_callTy call_tupleN (by rfl) T.z_tuple (by decide +kernel) (pa_cons (pv 3) pa_nil)) (pa_cons (pe_op op_add (pv 6) pe_int) pa_nil))))) pss_nil)
      (pss_cons (ps_if (pt_cmpR op_ne (pe_slice sl_str (pv 0) (po_some (pv 6)) (po_some (pe_op op_add (pv 6) pe_int))) pe_str (nomark _)) (pss_one (L2N.ps_raise rfl tk (pmk_sup T.ox_InvalidText T.ic_InvalidText T.ti_InvalidText T.no_InvalidText T.in_InvalidText (hr.mono (by omega)) T.bi_InvalidText passN rfl T.g_InvalidText (pa_cons (pv 6) pa_nil)))) pss_nil)
      (pss_one (ps_set (i := 4) sc_read_tuple.nd rfl (Or.inl rfl) (pe_op op_add (pv 6) pe_int)))))))))))),
      (sSeq (sIfS (sTest (sOp roEq (sSlS sVar (sPart sVar) (sPart (sOp roInt0 sVar sInt))) sStr)) (sRet (sTup (sCons (sTup sNil) (sCons (sOp roInt0 sVar sInt) sNil)))) sNext)
      (sSeq (sAsg (sOwn sNil) sName)
      (sSeq (sAsg sVar sName)
      (sWhile (sB sBl) (sSeq (sAsg (sCallSW (W := fun cls d _ H => E cls d H) (by exact hW) (sCons sVar (sCons sVar (sCons (sOp roInt0 sVar sInt) sNil)))) (sgTup (sgCons sName (sgCons sName sgNil))))
      (sSeq (sDrop (sApp sVar sVar))
      (sSeq (sIfS (sTest (sOp roEq (sSlS sVar (sPart sVar) (sPart (sOp roInt0 sVar sInt))) sStr)) (sRet (sTup (sCons (sCB rcTuple (sCons sVar sNil)) (sCons (sOp roInt0 sVar sInt) sNil)))) sNext)
      (sSeq (sIfS (sTest (sOp roNe (sSlS sVar (sPart sVar) (sPart (sOp roInt0 sVar sInt))) sStr)) (sRaise1 (W := fun cls d _ H => E cls d H) (C := T.c_InvalidText) (fld := "position") (by exact hW) okdInt_ok sVar) sNext)
      (sAsg (sOp roInt0 sVar sInt) sName)))))))))⟩) (fun ds μ Φ Ψ h => ?hv)
  case hv =>
    obtain ⟨t, a, e, rfl, hz, ha, he, he2, hn, h1, h2⟩ := h
    have hnx : ∀ {a c l'}, (TL.tl t).drop a = c :: l' → a + 1 ≤ (TL.tl t).length ∧ (TL.tl t).drop (a + 1) = l' := fun {a c l'} q => by
      have hl := congrArg List.length q
      rw [List.length_drop, List.length_cons] at hl
      refine ⟨by omega, ?_⟩
      rw [← List.tail_drop, q]; rfl
    walk_at "wps"
    simp only [cutS_1, o_close]
    refine ⟨hz, fun c => ?_, fun c => ⟨by decide, fun p hp => ?_⟩⟩
    · obtain ⟨l', hl'⟩ := take1.1 c
      obtain ⟨q1, q2⟩ := hnx hl'
      exact ⟨by decide, by decide, ret_same (h1 _ (a + 1) q1 (by rw [hl', q2]; exact .nil he2))⟩
    have hne : ∀ l'', (TL.tl t).drop a ≠ 41 :: l'' := fun l' q => c (take1.2 ⟨l', q⟩)
    refine ⟨fun k δ' μ' => ∃ (xs : List D) (b : Nat) (x5 x6 : Option D), k + b = (TL.tl t).length ∧ b ≤ (TL.tl t).length ∧ xs.length ≤ b ∧ μ' = sset μ p (.lst xs) ∧ δ' = [some (.str t), some (.int a), some (.int e), some (.hd (.ref p)), some (.int b), x5, x6] ∧ ((xs = [] ∧ b = a) ∨ Its e ((TL.tl t).drop a) xs (32 :: (TL.tl t).drop b)), ⟨(TL.tl t).length - a, [], a, none, none, by omega, ha, Nat.zero_le _, rfl, rfl, .inl ⟨rfl, rfl⟩⟩, ?_⟩
    rintro k δ' μ' ⟨xs, b, x5, x6, hkb, hb, hxs, rfl, rfl, hI⟩
    walk_at "wps"
    refine ⟨t, b, e + 1, rfl, hz, hb, by omega, by omega, by omega, fun x b' hb' hr => ?_, fun b' hb' hr => ⟨_, Sub.set Sub.refl hp, h2 b' hb' ?_⟩⟩
    · walk_at "wps"
      simp only [cutS_1, o_space]
      have hlt : b < b' := by
        have q1 := txt_pos (hr.tm (by omega))
        have q2 := congrArg List.length hr.txt
        rw [List.length_append, List.length_drop, List.length_drop] at q2
        omega
      have hI2 : Its e ((TL.tl t).drop a) (xs ++ [x]) ((TL.tl t).drop b') := by
        rcases hI with ⟨rfl, rfl⟩ | hI
        · exact .one hr
        · exact .snoc hI hr
      refine ⟨by omega, hz, fun c1 => ?_, fun c1 => ⟨hz, fun c2 => ⟨⟨b', rfl, log_small (by omega)⟩, _, Sub.set Sub.refl hp, h2 b' hb' ?_⟩, fun c2 => ?_⟩⟩
      · obtain ⟨l', hl'⟩ := take1.1 c1
        obtain ⟨q1, q2⟩ := hnx hl'
        refine ⟨by decide, _, Sub.set Sub.refl hp, h1 _ (b' + 1) q1 (.tup he2 hne ?_)⟩
        rw [q2, ← hl']; exact hI2
      · refine .sep he2 hne hI2 (fun l'' q => c1 (take1.2 ⟨l'', q⟩)) fun l'' q => ?_
        rw [decide_eq_true (take1.2 ⟨l'', q⟩)] at c2; cases c2
      · have c3 : S (List.take 1 (List.drop b' (TL.tl t))) = S [32] := by simpa using c2
        obtain ⟨l', hl'⟩ := take1.1 c3
        obtain ⟨q1, q2⟩ := hnx hl'
        refine ⟨(TL.tl t).length - (b' + 1), by omega, _, b' + 1, _, _, by omega, q1, ?_, rfl, rfl, .inr ?_⟩
        · rw [List.length_append]; simp; omega
        · rw [q2, ← hl']; exact hI2
    · rcases hI with ⟨rfl, rfl⟩ | hI
      · exact .first he2 hne hr
      · exact .item he2 hne hI hr
theorem okN_read (T : Txt P w K mg) : ∀ n, FnOk P w K mg base (L2N.CX P w) (2 + n) T.f_read_part T.d_read_part ["text", "start", "depth"] (spOf K (c_read_part T.c_InvalidText n)) ∧ FnOk P w K mg base (L2N.CX P w) (2 + n) T.f_read_tuple T.d_read_tuple ["text", "start", "depth"] (spOf K (c_read_tuple T.c_InvalidText n))
  | 0 => ⟨fn_none fun _ _ _ _ ⟨_, _, _, _, _, _, _, _, z, _⟩ => by omega, fn_none fun _ _ _ _ ⟨_, _, _, _, _, _, _, _, z, _⟩ => by omega⟩
  | n + 1 => ⟨step_read_part T (Nat.le_add_right 2 n) n (okN_read T n).2, step_read_tuple T (Nat.le_add_right 2 n) n (okN_read T n).1⟩
theorem ok_read_part (T : Txt P w K mg) : FnOk P w K mg base (L2N.CX P w) 70 T.f_read_part T.d_read_part ["text", "start", "depth"] (spOf K (c_read_part T.c_InvalidText 68)) := (okN_read T 68).1
def c_read_term (C : Addr) : Con := fun ds μ Φ Ψ => ∃ (t : Str), ds = [.str t] ∧ (TL.tl t).length ≤ 100000 ∧ (∀ x, Rd 1 (TL.tl t) x [] → Φ x μ) ∧ (∀ b, b ≤ (TL.tl t).length → BadT (TL.tl t) b → Ψ (.mk C (some (["position"], [.int b]))) μ)
theorem len_read_term {C ds μ Φ Ψ} (h : c_read_term C ds μ Φ Ψ) : ds.length = 1 := by obtain ⟨_, rfl, _⟩ := h; rfl
theorem ok_read_term (T : Txt P w K mg) : FnOk P w K mg base (L2N.CX P w) 71 T.f_read_term T.d_read_term ["text"] (spOf K (c_read_term T.c_InvalidText)) := by
  refine def_okC T.F_read_term sc_read_term _ (fun ds μ Φ Ψ h => len_read_term h) (fun cdv A outer s H E B hW hr =>
    have tk : L2N.Takes (cxOf (L2N.CX P w) P w K mg base N_read_term "read_term" (defScope s_read_term) T.f_read_term cdv A outer s H E) (fun cls d _ H => E cls d H) := L2N.takes_of rfl rfl rfl rfl
    ⟨_, (pss_cons (ps_asg (pe_callS (ok_read_part T) hr rfl T.g_read_part T.F_read_part.kp T.b_read_part (fun σ => L2N.passAt tk σ) (pa_cons (pv 0) (pa_cons pe_int (pa_cons pe_int pa_nil)))) (pg_tup (n := 2) rfl (pgs_cons (pg_name (i := 1) sc_read_term.nd rfl (Or.inl rfl)) (pgs_cons (pg_name (i := 2) sc_read_term.nd rfl (Or.inl rfl)) pgs_nil))))
      (pss_cons (ps_if (pt_cmpR op_lt (pv 2) (pe_callB call_len_str (by rfl) T.z_len PySem.boot_len (pa_cons (pv 0) pa_nil)) (nomark _)) (pss_one (L2N.ps_raise rfl tk (pmk_sup T.ox_InvalidText T.ic_InvalidText T.ti_InvalidText T.no_InvalidText T.in_InvalidText (hr.mono (by decide)) T.bi_InvalidText passN rfl T.g_InvalidText (pa_cons (pv 2) pa_nil)))) pss_nil)
      (pss_one (ps_ret (pv 1))))),
      (sSeq (sAsg (sCallSW (W := fun cls d _ H => E cls d H) (by exact hW) (sCons sVar (sCons sInt (sCons sInt sNil)))) (sgTup (sgCons sName (sgCons sName sgNil))))
      (sSeq (sIfS (sTest (sOp roBl0 sVar (sCB rcLenStr (sCons sVar sNil)))) (sRaise1 (W := fun cls d _ H => E cls d H) (C := T.c_InvalidText) (fld := "position") (by exact hW) okdInt_ok sVar) sNext)
      (sRet sVar)))⟩) (fun ds μ Φ Ψ h => ?hv)
  case hv =>
    obtain ⟨t, rfl, hz, h1, h2⟩ := h
    walk_at "wps"
    refine ⟨t, 0, 1, rfl, hz, Nat.zero_le _, by decide, by decide, by decide, fun x b hb hr => ?_, fun b hb hr => ⟨_, Sub.refl, h2 b hb (.inl hr)⟩⟩
    walk_at "wps"
    rw [List.drop_zero] at hr
    refine ⟨hz, fun c => ⟨⟨b, rfl, log_small (by omega)⟩, _, Sub.refl, h2 b hb (.inr ⟨by omega, x, hr⟩)⟩, fun c => ret_same (h1 x ?_)⟩
    rw [List.drop_of_length_le (i := b) (by omega)] at hr
    exact hr
def c__law_text : Nat → Con := fun n ds μ Φ _ => ∃ k d, k < n ∧ ds = [d] ∧ Tm k d ∧ (txt d).length ≤ 90000 ∧ Φ (.str (S (txt d))) μ
theorem len__law_text {n ds μ Φ Ψ} (h : c__law_text n ds μ Φ Ψ) : ds.length = 1 := by obtain ⟨_, _, _, rfl, _⟩ := h; rfl
theorem step__law_text (T : Txt P w K mg) {k : Nat} (hk : 0 ≤ k) (n : Nat) (ih__law_text : FnOk P w K mg base (L2N.CX P w) k T.f__law_text T.d__law_text ["_law_term_here"] (spOf K (c__law_text n))) : FnOk P w K mg base (L2N.CX P w) (k + 1) T.f__law_text T.d__law_text ["_law_term_here"] (spOf K (c__law_text (n + 1))) := by
  refine def_okC T.F__law_text sc__law_text _ (fun ds μ Φ Ψ h => len__law_text h) (fun cdv A outer s H E B hW hr =>
    have tk : L2N.Takes (cxOf (L2N.CX P w) P w K mg base N__law_text "_law_text" (defScope s__law_text) T.f__law_text cdv A outer s H E) (fun cls d _ H => E cls d H) := L2N.takes_of rfl rfl rfl rfl
    ⟨_, (pss_cons (ps_if (pt_val (pe_callB call_isi (by rfl) T.z_isinstance (by decide +kernel) (pa_cons (pv 0) (pa_cons (pe_bltn (v := .ty "tuple") rfl T.z_tuple (by decide +kernel) rfl) pa_nil)))) (pss_one (ps_ret (pe_op op_add_str (pe_op op_add_str pe_str (pe_bm PySem.F.plainAttrs_str PySem.F.slot_str_join PySem.F.type_str_join mt_join pe_str (pa_cons (pe_lc (own := [("_law_item", 1)]) rfl sc__law_text.nd (pi_tup (pv 0)) (blkOk_by (N := N__law_text) (sc := defScope s__law_text) (by decide +kernel)) (fun _ _ _ _ _ => (pg_name (i := 1) sc__law_text.nd rfl (Or.inl rfl))) (fun _ _ _ _ _ => pts_nil) (fun _ _ _ _ _ => (pe_call ih__law_text hr rfl T.g__law_text T.F__law_text.kp T.b__law_text .nil passN (pa_cons (pv 1) pa_nil)))) pa_nil))) pe_str))) pss_nil)
      (pss_one (ps_ret (pe_callTy call_strA (by rfl) T.z_str (by decide +kernel) (pa_cons (pv 0) pa_nil))))),
      (sSeq (sIfS (sB (sCB (rcIsi (T := "tuple")) (sCons sVar (sCons sHd sNil)))) (sRet (sOp roCatS (sOp roCatS sStr (sJoin sStr (sLc (siT sVar) (gwName List.mem_cons_self) (fun _ _ _ => sName) (fun _ _ _ => sYes) (fun _ _ _ => (sCall (sCons sVar sNil)))))) sStr)) sNext)
      (sRet (sCB rcStr (sCons sVar sNil))))⟩) (fun ds μ Φ Ψ h => ?hv)
  case hv =>
    obtain ⟨k, d, hk, rfl, hd, hz, h⟩ := h
    cases hd with
    | @word _ s h0 h1 h2 => walk_at "wps"; rw [txt, S_tl] at h; exact ret_same h
    | @num _ i h0 h1 =>
      walk_at "wps"
      refine ⟨Nat.lt_of_lt_of_le (PySem.Flt.log2_lt_of (n := i.natAbs) (by decide : 0 < 100) (by omega)) (by decide), ret_same ?_⟩
      have e := TL.tl_num i.toNat
      rw [Int.toNat_of_nonneg h0] at e
      rw [txt, ← e, S_tl] at h
      exact h
    | @tup k' l hx =>
      rw [txt] at h hz
      have hb : (txts l).length ≤ 90000 := by simp at hz; omega
      have hsz : l.length ≤ (txts l).length := items_len hx
      have hsum := join_size hx
      walk_at "wps"
      simp only [dJoin]
      walk_at "wps"
      refine lcG_mapN (fun i => .str (S (txt (l.getD i .non)))) (by omega) (fun i d μ2 X hi hsub hx2 => ?_) ?_
      · walk_at "wps"
        have e : l.getD i .non = d := by rw [List.getD_eq_getElem?_getD, hi]; rfl
        rw [e] at hx2
        exact ⟨_, _, by omega, rfl, hx d (List.mem_of_getElem? hi), Nat.le_trans (item_le (List.mem_of_getElem? hi)) hb, hx2⟩
      · rw [range_map (f := fun x => D.str (S (txt x)))]
        refine ⟨l.map fun x => S (txt x), by rw [List.map_map]; rfl, ?_, ?_⟩
        · have e1 : (List.map (fun x => x.length) (List.map (fun x => S (txt x)) l)).sum = (List.map (fun x => (txt x).length) l).sum := by
            rw [List.map_map]
            congr 1
          have e2 : (Str.ofString " ").length = 1 := by decide +kernel
          rw [e1, e2, List.length_map]
          omega
        · rw [join_txts]
          walk_at "wps"
          have o1 : TL.tl (Str.ofString "(") = [40] := by decide +kernel
          have o2 : TL.tl (Str.ofString ")") = [41] := by decide +kernel
          have e : Str.ofString "(" ++ S (txts l) ++ Str.ofString ")" = S (40 :: (txts l ++ [41])) := by
            rw [← S_tl (_ ++ _ ++ _), TL.tl_append, TL.tl_append, tl_S, o1, o2]; rfl
          rw [e, TL.tl_append, tl_S, o1, o2]
          exact ⟨by simp; omega, by simp; omega, ret_same h⟩
end
section
variable {P : Program} {w : World} {K : Fg} {mg : Str → Option Value} {base : Heap}
def c_places_of (n : Nat) : Con := fun ds μ Φ _ => ∃ (ws : List Int) (oc : Nat) (t : QT), ds = [qD t] ∧ QOk ws oc t ∧ qDep t < n ∧ (qPl t).length ≤ 5000 ∧ Φ (.lst (nI (qPl t))) μ
theorem len_places_of {n ds μ Φ Ψ} (h : c_places_of n ds μ Φ Ψ) : ds.length = 1 := by obtain ⟨i, _, _, rfl, _⟩ := h; rfl
theorem step_places_of (T : Txt P w K mg) {k : Nat} (hk : 4 ≤ k) (n : Nat) (ih_places_of : FnOk P w K mg base (L2N.CX P w) k T.f_places_of T.d_places_of ["term"] (spOf K (c_places_of n))) : FnOk P w K mg base (L2N.CX P w) (k + 1) T.f_places_of T.d_places_of ["term"] (spOf K (c_places_of (n + 1))) := by
  refine def_okC T.F_places_of sc_places_of _ (fun ds μ Φ Ψ h => len_places_of h) (fun cdv A outer s H E B hW hr =>
    have tk : L2N.Takes (cxOf (L2N.CX P w) P w K mg base N_places_of "places_of" (defScope s_places_of) T.f_places_of cdv A outer s H E) (fun cls d _ H => E cls d H) := L2N.takes_of rfl rfl rfl rfl
    ⟨_, (pss_cons (ps_if (pt_cmpR op_eq (pe_ix ix_tup (pv 0) pe_int (fun _ _ => rfl)) pe_str (nomark _)) (pss_one (ps_ret (pe_lst pa_nil))) pss_nil)
      (pss_one (ps_ret (pe_op op_cat (pe_lst (pa_cons (pe_ix ix_tup (pv 0) pe_int (fun _ _ => rfl)) pa_nil)) (pe_lc2 (own := [("below", 1), ("place", 2)]) (vs1 := [2]) rfl sc_places_of.nd (pi_tup (pe_call (ok_terms_behind T) (hr.mono (by omega)) rfl T.g_terms_behind T.F_terms_behind.kp T.b_terms_behind .nil passN (pa_cons (pv 0) pa_nil))) (blkOk_by (N := N_places_of) (sc := defScope s_places_of) (by decide +kernel)) (by decide) (fun _ _ _ _ _ => (pg_name (i := 1) sc_places_of.nd rfl (Or.inl rfl))) (fun _ _ _ _ _ => pts_nil) (fun _ _ _ _ _ => (pi_list (pe_call ih_places_of hr (by rfl) T.g_places_of T.F_places_of.kp T.b_places_of .nil passN (pa_cons (pv 1) pa_nil)))) (fun _ _ _ _ _ => (pg_name (i := 2) sc_places_of.nd rfl (Or.inl rfl))) (fun _ _ _ _ _ => pts_nil) (fun _ _ _ _ _ => (pv 2))))))),
      (sSeq (sIfS (sTest (sOp roEq (sOp roIxT sVar sInt) sStr)) (sRet (sLst sNil)) sNext)
      (sRet (sOp roCatL (sLst (sCons (sOp roIxT sVar sInt) sNil)) (sLc2 (siT (sCall (sCons sVar sNil))) (gwName List.mem_cons_self) (gwName List.mem_cons_self) (fun _ _ _ => sName) (fun _ _ _ => sYes) (fun _ _ _ => (siL (sCall (sCons sVar sNil)))) (fun _ _ _ => sName) (fun _ _ _ => sYes) (fun _ _ _ => sVar)))))⟩) (fun ds μ Φ Ψ h => ?hv)
  case hv =>
    obtain ⟨ws, oc, t, rfl, ht, hn, hb, h⟩ := h
    cases t with
    | tell o =>
      rw [qD]
      walk_at "wps"
      exact ⟨⟨by omega, ret_same h⟩, fun z => absurd trivial z⟩
    | look p ts =>
      obtain ⟨hp, hlen, hts⟩ := ht
      rw [qoks_iff] at hts
      rw [qDep] at hn
      rw [qPl, List.length_cons] at hb
      rw [qD]
      walk_at "wps"
      refine ⟨fun q => absurd q (by decide), fun _ => ⟨by omega, _, rfl, _, rfl, ?_⟩⟩
      rw [List.drop_succ_cons, List.drop_succ_cons, List.drop_zero]
      have hcol : ∀ i, i < ts.length → (qPl (ts.getD i (.tell 0))).length ≤ (qPl.qPls ts).length := fun i hi => by
        rw [List.getD_eq_getElem?_getD, List.getElem?_eq_getElem hi]
        exact qpls_len (List.getElem_mem hi)
      have e1 : (qDs ts).length = ts.length := qDs_len ts
      refine lcG2_pure (fun i => nI (qPl (ts.getD i (.tell 0)))) (fun i j => .int (((qPl (ts.getD i (.tell 0))).getD j 0 : Nat) : Int)) (fun i hi => ?_) (fun i => ?_) (fun i d μ2 X hi hsub hx => ?_) (fun i d j d1 μ2 X hi hj hsub hx => ?_) ?_
      · rw [e1] at hi
        rw [nI_flat ts i hi, nI_len]
        have := qpls_take ts i
        omega
      · rw [nI_len]
        by_cases hi : i < ts.length
        · have := hcol i hi
          omega
        · rw [List.getD_eq_getElem?_getD, List.getElem?_eq_none (by omega)]
          show ([] : List Nat).length ≤ 50000
          decide
      · obtain ⟨hil, rfl⟩ := qDs_get hi
        have hd := qdeps_le (List.getElem_mem hil)
        have hl := qpls_len (List.getElem_mem hil)
        walk_at "wps"
        refine ⟨ws, oc, ts[i], rfl, hts _ (List.getElem_mem hil), by omega, by omega, ?_⟩
        rw [List.getD_eq_getElem?_getD, List.getElem?_eq_getElem hil] at hx
        exact ⟨_, rfl, hx⟩
      · obtain ⟨hjl, rfl⟩ := nI_get hj
        walk_at "wps"
        rw [List.getD_eq_getElem?_getD, List.getElem?_eq_getElem hjl] at hx
        exact hx
      · rw [e1, nI_flat ts _ (Nat.le_refl _), List.take_length]
        walk_at "wps"
        rw [nI_len]
        exact ⟨by omega, ret_same (by rw [qPl] at h; exact h)⟩
theorem fn_never {P : Program} {w : World} {K : Fg} {mg : Str → Option Value} {base : Heap} {CX : CXT} {k : Nat} {f : Addr} {fd : FuncData} {ps : List Str} {c : Con} (h : ∀ ds μ Φ Ψ, ¬ c ds μ Φ Ψ) : FnOk P w K mg base CX k f fd ps (spOf K c) :=
  ⟨fun vs H Q E q => by obtain ⟨μ, ds, Φ, Ψ, _, _, hc, _⟩ := q; exact absurd hc (h _ _ _ _), fun A outer s H args us vs Q E _ _ _ _ q => by obtain ⟨μ, ds, Φ, Ψ, _, _, hc, _⟩ := q; exact absurd hc (h _ _ _ _)⟩
theorem wpr_lt {ws : List Int} (hw : WsOk ws) : ∀ l : List Nat, wpr ws l < 2 ^ (2 * l.length + 1)
  | [] => by rw [wpr]; decide
  | p :: l => by
    have h1 := hw.wd1 p
    have h2 := wpr_lt hw l
    rw [wpr, List.length_cons, show 2 * (l.length + 1) + 1 = (2 * l.length + 1) + 2 by omega, Nat.pow_add]
    calc wd ws p * wpr ws l ≤ 4 * wpr ws l := Nat.mul_le_mul_right _ h1.2
      _ < 4 * 2 ^ (2 * l.length + 1) := by omega
      _ = 2 ^ (2 * l.length + 1) * 2 ^ 2 := by omega
theorem qMs_len (l : List Nat) : (qMs l).length ≤ 100 := by
  have := List.length_filter_le (fun p => decide (p ∈ l)) (List.range 100)
  rw [List.length_range] at this
  exact this
def c_require_few (C : Addr) : Con := fun ds μ Φ Ψ => ∃ (ws : List Int) (l : List Nat), ds = [.lst (nI l), .tup (ws.map .int)] ∧ WsOk ws ∧ l.length ≤ 5000 ∧ (qMs l).length ≤ 60 ∧ (∀ q ∈ l, q < 100) ∧ (l.length ≤ 300 → wpr ws (qMs l) ≤ 256 → Φ .non μ) ∧ (¬ (l.length ≤ 300 ∧ wpr ws (qMs l) ≤ 256) → Ψ (.mk C none) μ)
theorem len_require_few {C ds μ Φ Ψ} (h : c_require_few C ds μ Φ Ψ) : ds.length = 2 := by obtain ⟨i, _, rfl, _⟩ := h; rfl
theorem ok_require_few (T : Txt P w K mg) : FnOk P w K mg base (L2N.CX P w) 3 T.f_require_few T.d_require_few ["places", "widths"] (spOf K (c_require_few T.c_TooLarge)) := by
  refine def_okC T.F_require_few sc_require_few _ (fun ds μ Φ Ψ h => len_require_few h) (fun cdv A outer s H E B hW hr =>
    have tk : L2N.Takes (cxOf (L2N.CX P w) P w K mg base N_require_few "require_few" (defScope s_require_few) T.f_require_few cdv A outer s H E) (fun cls d _ H => E cls d H) := L2N.takes_of rfl rfl rfl rfl
    ⟨_, (pss_cons (ps_if (pt_cmpR op_gt (pe_callB call_len_seq (by rfl) T.z_len PySem.boot_len (pa_cons (pv 0) pa_nil)) (ClX.pe_cval (pe_glob (v := .ref T.c_Query) rfl T.g_Query rfl)) (nomark _)) (pss_one (L2N.ps_raise rfl tk (L2N.pmk_own PySem.F.excBase_ValueError T.x_TooLarge T.g_TooLarge T.k_TooLarge (raises_own T.e_TooLarge T.t_TooLarge) rfl))) pss_nil)
      (pss_one (ps_if (pt_cmpR op_gt (pe_call (ok_count_choices T) (hr.mono (by decide)) rfl T.g_count_choices T.F_count_choices.kp T.b_count_choices .nil passN (pa_cons (pe_lc (own := [("place", 2)]) rfl sc_require_few.nd (pi_list (pe_sortSet rfl T.z_sorted rfl T.z_set (pv 0))) (blkOk_by (N := N_require_few) (sc := defScope s_require_few) (by decide +kernel)) (fun _ _ _ _ _ => (pg_name (i := 2) sc_require_few.nd rfl (Or.inl rfl))) (fun _ _ _ _ _ => pts_nil) (fun _ _ _ _ _ => (pe_call (ok_width_at T) (hr.mono (by decide)) rfl T.g_width_at T.F_width_at.kp T.b_width_at .nil passN (pa_cons (pv 1) (pa_cons (pv 2) pa_nil))))) pa_nil)) (ClX.pe_cval (pe_glob (v := .ref T.c_Query) rfl T.g_Query rfl)) (nomark _)) (pss_one (L2N.ps_raise rfl tk (L2N.pmk_own PySem.F.excBase_ValueError T.x_TooLarge T.g_TooLarge T.k_TooLarge (raises_own T.e_TooLarge T.t_TooLarge) rfl))) pss_nil))),
      (sSeq (sIfS (sTest (sOp roBl0 (sCB rcLen (sCons sVar sNil)) (sCVal (n := 300) T.rd_Query T.cv_Query_MOST_LOOKS sHd))) (sRaise0W (W := fun cls d _ H => E cls d H) (C := T.c_TooLarge) (by exact hW)) sNext)
      (sIfS (sTest (sOp roBl0 (sCall (sCons (sLc (siL (sSortSet sVar)) (gwName List.mem_cons_self) (fun _ _ _ => sName) (fun _ _ _ => sYes) (fun _ _ _ => (sCall (sCons sVar (sCons sVar sNil))))) sNil)) (sCVal (n := 256) T.rd_Query T.cv_Query_MOST_CHOICES sHd))) (sRaise0W (W := fun cls d _ H => E cls d H) (C := T.c_TooLarge) (by exact hW)) sNext))⟩) (fun ds μ Φ Ψ h => ?hv)
  case hv =>
    obtain ⟨ws, l, rfl, hw, hl, h60, h100, h1, h2⟩ := h
    refine seq_cut fun M hM => ?_
    walk_at "wp"
    rw [nI_len]
    refine ⟨fun z => ⟨_, Sub.refl, h2 fun q => by omega⟩, fun z => ?_⟩
    rw [hM]; clear hM M
    walk_at "wp"
    refine ⟨l.map fun (n : Nat) => (n : Int), by rw [nI_ints]; exact .lst _, ⟨by rw [List.length_map]; omega, (qMs l).map fun (n : Nat) => (n : Int), by rw [List.length_map]; omega, fun z hz => ?_⟩, fun ns hs hn => ?_⟩
    · obtain ⟨q, hq, rfl⟩ := List.mem_map.mp hz
      exact List.mem_map.mpr ⟨q, (qMs_mem h100 q).mpr hq, rfl⟩
    obtain ⟨ms, rfl⟩ : ∃ ms : List Nat, ns = ms.map fun (n : Nat) => (n : Int) := ⟨ns.map Int.toNat, by
      rw [List.map_map]
      refine (List.map_id _).symm.trans (List.map_congr_left fun k hk => ?_)
      obtain ⟨q, _, rfl⟩ := List.mem_map.mp ((hn k).mp hk)
      rfl⟩
    have hms : ms.Pairwise (· < ·) := (List.pairwise_map.mp hs).imp fun {a b} q => by omega
    have hmem : ∀ q, q ∈ ms ↔ q ∈ l := fun q => by
      have h := hn (q : Int)
      have e1 : ((q : Int) ∈ ms.map fun (n : Nat) => (n : Int)) ↔ q ∈ ms := ⟨fun z => by
        obtain ⟨a, ha, e⟩ := List.mem_map.mp z
        obtain rfl : a = q := Int.ofNat.inj e
        exact ha, fun z => List.mem_map.mpr ⟨q, z, rfl⟩⟩
      have e2 : ((q : Int) ∈ l.map fun (n : Nat) => (n : Int)) ↔ q ∈ l := ⟨fun z => by
        obtain ⟨a, ha, e⟩ := List.mem_map.mp z
        obtain rfl : a = q := Int.ofNat.inj e
        exact ha, fun z => List.mem_map.mpr ⟨q, z, rfl⟩⟩
      rw [e1, e2] at h
      exact h
    have w1 := (wpr_mono hw hms (qMs_sorted l) fun q hq => (qMs_mem h100 q).mpr ((hmem q).mp hq))
    have w2 := (wpr_mono hw (qMs_sorted l) hms fun q hq => (hmem q).mpr ((qMs_mem h100 q).mp hq))
    have ew : wpr ws ms = wpr ws (qMs l) := by omega
    have hml : ms.length ≤ 100 := by have := qMs_len l; omega
    refine lcZ (fun x => .int (wd ws x.toNat : Int)) (by rw [List.length_map]; omega) (fun x μ2 X hx hsub hk => ?_) ?_
    · obtain ⟨q, hq, rfl⟩ := List.mem_map.mp hx
      walk_at "wps"
      exact ⟨ws, q, rfl, hw, hk⟩
    · rw [show (ms.map fun (n : Nat) => (n : Int)).map (fun x => D.int (wd ws x.toNat : Int)) = (ms.map fun (p : Nat) => (wd ws p : Int)).map D.int from by rw [List.map_map, List.map_map]; rfl]
      refine ⟨_, rfl, fun i z hz => ?_, ?_⟩
      · rw [List.getElem?_map] at hz
        obtain ⟨q, _, rfl⟩ := Option.map_eq_some_iff.mp hz
        rw [← List.map_take, prod_wpr]
        have h3 := wpr_lt hw (ms.take i)
        have h4 := hw.wd1 q
        have h5 : 2 ^ (2 * (ms.take i).length + 1) ≤ 2 ^ 201 := Nat.pow_le_pow_right (by decide) (by rw [List.length_take]; omega)
        exact mulx 201 3 (by omega) (by omega) (by decide)
      · rw [prod_wpr, ew]
        walk_at "wp"
        exact ⟨fun q => ⟨_, Sub.refl, h2 fun w => by omega⟩, fun q => ⟨_, Sub.refl, h1 (by omega) (by omega)⟩⟩
def c_Row___init__ (C O : Addr) : Con := fun ds μ Φ Ψ => ∃ (x : Addr) (h c : List Int), ds = [.hd (.ref x), .tup (h.map .int), .tup (c.map .int)] ∧ h.length ≤ 1000 ∧ c.length ≤ 1000 ∧ μ x = some (.ins C [] []) ∧ (¬ (c ≠ [] ∧ ∀ y ∈ h ++ c, 0 ≤ y) → Ψ (.mk O none) μ) ∧ (RwOk ⟨h, c⟩ → Φ .non (sset μ x (.ins C NSA [.tup (h.map .int), .tup (c.map .int)])))
theorem len_Row___init__ {C O ds μ Φ Ψ} (h : c_Row___init__ C O ds μ Φ Ψ) : ds.length = 3 := by obtain ⟨_, _, _, rfl, _⟩ := h; rfl
theorem ok_Row___init__ (T : Txt P w K mg) : FnOk P w K mg base (L2N.CX P w) 2 T.f_Row___init__ T.d_Row___init__ ["self", "head", "cycle"] (spOf K (c_Row___init__ T.c_Row T.c_OutOfRange)) := by
  refine def_okD T.F_Row___init__ sc_Row___init__ _ (fun ds μ Φ Ψ h => len_Row___init__ h) (fun cdv A outer s H E B hW hr =>
    have tk : L2N.Takes (cxOf (L2N.CX P w) P w K mg base N_Row___init__ "Row.__init__" (defScope s_Row___init__) T.f_Row___init__ cdv A outer s H E) (fun cls d _ H => E cls d H) := L2N.takes_of rfl rfl rfl rfl
    ⟨_, (pss_cons (ps_if (PW.pt (pw_or (pt_cmpR op_eq (pe_callB call_len_seq (by rfl) T.z_len PySem.boot_len (pa_cons (pv 2) pa_nil)) pe_int (nomark _)) (pw_or1 (pt_not (pt_val (pe_callB (cr_all rfl) (by rfl) T.z_all (by decide +kernel) (pa_cons (pe_lc (own := [("entry", 3)]) rfl sc_Row___init__.nd (pi_tup (pe_op op_catN (pv 1) (pv 2))) (blkOk_by (N := N_Row___init__) (sc := defScope s_Row___init__) (by decide +kernel)) (fun _ _ _ _ _ => (pg_name (i := 3) sc_Row___init__.nd rfl (Or.inl rfl))) (fun _ _ _ _ _ => pts_nil) (fun _ _ _ _ _ => (pe_cmpR op_ge (pv 3) pe_int (nomark _)))) pa_nil))))))) (pss_one (L2N.ps_raise rfl tk (L2N.pmk_own PySem.F.excBase_ValueError T.x_OutOfRange T.g_OutOfRange T.k_OutOfRange (raises_own T.e_OutOfRange T.t_OutOfRange) rfl))) pss_nil)
      (pss_cons (ps_fld (pv 0) (pv 1) rfl)
      (pss_one (ps_fld (pv 0) (pv 2) rfl)))),
      (sSeq (sIfS (sOr (sTest (sOp roEq (sCB rcLen (sCons sVar sNil)) sInt)) (sNot (sB (sCB rcAll (sCons (sLc (siT (sOp roCatT sVar sVar)) (gwName List.mem_cons_self) (fun _ _ _ => sName) (fun _ _ _ => sYes) (fun _ _ _ => (sOp roBl0 sVar sInt))) sNil))))) (sRaise0W (W := fun cls d _ H => E cls d H) (C := T.c_OutOfRange) (by exact hW)) sNext)
      (sSeq (sSetF T.cls_Row T.na_Row_head sVar sVar)
      (sSetF T.cls_Row T.na_Row_cycle sVar sVar)))⟩) (fun ds μ Φ Ψ h => ?hv)
  case hv =>
    obtain ⟨x, hh, c, rfl, hl, cl, hx, h1, h2⟩ := h
    refine seq_cut fun M hM => ?_
    walk_at "wp"
    have eall : ((hh ++ c).map fun y => D.bl (decide (0 ≤ y))) = ((hh ++ c).map fun y => decide (0 ≤ y)).map .bl := by rw [List.map_map]; rfl
    refine ⟨fun q => ⟨_, Sub.refl, h1 fun z => z.1 (List.eq_nil_of_length_eq_zero (by omega))⟩, fun q => ⟨by omega, ?_⟩⟩
    rw [← List.map_append]
    refine lcZ (fun y => .bl (decide (0 ≤ y))) (by rw [List.length_append]; omega) (fun z μ2 X hz hsub hx => ?_) ?_
    · walk_at "wp"
      exact hx
    rw [eall]
    refine w_allB rfl ⟨_, rfl, fun q2 => ⟨_, Sub.refl, h1 fun z => ?_⟩, fun q2 => ?_⟩
    · have : (((hh ++ c).map fun y => decide (0 ≤ y)).all id) = true := by
        rw [List.all_map, List.all_eq_true]
        exact fun y hy => decide_eq_true (z.2 y hy)
      rw [this] at q2; cases q2
    · have hall : ∀ y ∈ hh ++ c, 0 ≤ y := by
        have : (((hh ++ c).map fun y => decide (0 ≤ y)).all id) = true := by
          cases e : (((hh ++ c).map fun y => decide (0 ≤ y)).all id) with
          | true => rfl
          | false => rw [e] at q2; cases q2
        rw [List.all_map, List.all_eq_true] at this
        exact fun y hy => of_decide_eq_true (this y hy)
      rw [hM]; clear hM M
      walk_at "wps"
      refine ⟨_, _, _, rfl, hx, by decide, by decide, _, _, _, rfl, sset_same, by decide, by decide, ?_⟩
      walk_at "wps"
      exact ret_same (h2 ⟨fun z => q (by have z : c = [] := z; rw [z]; rfl), hl, cl, fun y hy => hall y (List.mem_append_left _ hy), fun y hy => hall y (List.mem_append_right _ hy)⟩)
def c_Row___getitem__ (C O : Addr) : Con := fun ds μ Φ Ψ => ∃ (r : Rw) (i : Int), ds = [rwO C r, .int i] ∧ RwOk r ∧ (i < 0 → Ψ (.mk O none) μ) ∧ (∀ n : Nat, i = (n : Int) → Φ (.int (ent r n)) μ)
theorem len_Row___getitem__ {C O ds μ Φ Ψ} (h : c_Row___getitem__ C O ds μ Φ Ψ) : ds.length = 2 := by obtain ⟨_, _, rfl, _⟩ := h; rfl
theorem ok_Row___getitem__ (T : Txt P w K mg) : FnOk P w K mg base (L2N.CX P w) 2 T.f_Row___getitem__ T.d_Row___getitem__ ["self", "at"] (spOf K (c_Row___getitem__ T.c_Row T.c_OutOfRange)) := by
  refine def_okC T.F_Row___getitem__ sc_Row___getitem__ _ (fun ds μ Φ Ψ h => len_Row___getitem__ h) (fun cdv A outer s H E B hW hr =>
    have tk : L2N.Takes (cxOf (L2N.CX P w) P w K mg base N_Row___getitem__ "Row.__getitem__" (defScope s_Row___getitem__) T.f_Row___getitem__ cdv A outer s H E) (fun cls d _ H => E cls d H) := L2N.takes_of rfl rfl rfl rfl
    ⟨_, (pss_cons (ps_if (pt_cmpR op_lt (pv 1) pe_int (nomark _)) (pss_one (L2N.ps_raise rfl tk (L2N.pmk_own PySem.F.excBase_ValueError T.x_OutOfRange T.g_OutOfRange T.k_OutOfRange (raises_own T.e_OutOfRange T.t_OutOfRange) rfl))) pss_nil)
      (pss_cons (ps_if (pt_cmpR op_lt (pv 1) (pe_callB call_len_seq (by rfl) T.z_len PySem.boot_len (pa_cons (pe_fld (pv 0) rfl) pa_nil)) (nomark _)) (pss_one (ps_ret (pe_ix ix_tup (pe_fld (pv 0) rfl) (pv 1) (fun _ _ => rfl)))) pss_nil)
      (pss_one (ps_ret (pe_ix ix_tup (pe_fld (pv 0) rfl) (pe_op op_mod (pe_op op_sub (pv 1) (pe_callB call_len_seq (by rfl) T.z_len PySem.boot_len (pa_cons (pe_fld (pv 0) rfl) pa_nil))) (pe_callB call_len_seq (by rfl) T.z_len PySem.boot_len (pa_cons (pe_fld (pv 0) rfl) pa_nil))) (fun _ _ => rfl)))))),
      (sSeq (sIfS (sTest (sOp roBl0 sVar sInt)) (sRaise0W (W := fun cls d _ H => E cls d H) (C := T.c_OutOfRange) (by exact hW)) sNext)
      (sSeq (sIfS (sTest (sOp roBl0 sVar (sCB rcLen (sCons (sFldO (NS := NS_Row) (i := 0) T.cls_Row T.na_Row_head rfl (by decide) sVar) sNil)))) (sRet (sOp roIxT (sFldO (NS := NS_Row) (i := 0) T.cls_Row T.na_Row_head rfl (by decide) sVar) sVar)) sNext)
      (sRet (sOp roIxT (sFldO (NS := NS_Row) (i := 1) T.cls_Row T.na_Row_cycle rfl (by decide) sVar) (sOp roInt (sOp roInt0 sVar (sCB rcLen (sCons (sFldO (NS := NS_Row) (i := 0) T.cls_Row T.na_Row_head rfl (by decide) sVar) sNil))) (sCB rcLen (sCons (sFldO (NS := NS_Row) (i := 1) T.cls_Row T.na_Row_cycle rfl (by decide) sVar) sNil)))))))⟩) (fun ds μ Φ Ψ h => ?hv)
  case hv =>
    obtain ⟨r, i, rfl, hr, h1, h2⟩ := h
    have e1 : rwO T.c_Row r = D.obj T.c_Row NSA [.tup (r.h.map .int), .tup (r.c.map .int)] := rfl
    refine seq_cut fun M hM => ?_
    rw [e1]
    walk_at "wp"
    refine ⟨fun q => ⟨_, Sub.refl, h1 q⟩, fun q => ?_⟩
    obtain ⟨n, rfl⟩ : ∃ n : Nat, i = (n : Int) := ⟨i.toNat, by omega⟩
    have h2 := h2 n rfl
    show M [some (.obj T.c_Row NSA [.tup (r.h.map .int), .tup (r.c.map .int)]), some (.int n)] μ
    rw [hM]; clear hM M
    refine seq_cut fun M hM => ?_
    walk_at "wp"
    have hcn : 0 < r.c.length := List.length_pos_iff.mpr hr.c0
    refine ⟨fun q => ⟨_, atI_nat (v := .int (ent r n)) ?_, ret_same h2⟩, fun q => ?_⟩
    · have hn : n < r.h.length := by omega
      rw [List.getElem?_map, List.getElem?_eq_getElem hn]
      unfold ent
      rw [if_pos hn, List.getD_eq_getElem?_getD, List.getElem?_eq_getElem hn]; rfl
    · have hn : ¬ n < r.h.length := by omega
      have hm := Nat.mod_lt (n - r.h.length) hcn
      rw [hM]; clear hM M
      walk_at "wps"
      have em : ((n : Int) - (r.h.length : Int)) % (r.c.length : Int) = (((n - r.h.length) % r.c.length : Nat) : Int) := by
        rw [show (n : Int) - (r.h.length : Int) = ((n - r.h.length : Nat) : Int) by omega]; rfl
      rw [em]
      refine ⟨by omega, _, atI_nat (v := .int (ent r n)) ?_, ret_same h2⟩
      rw [List.getElem?_map, self_at hm]
      unfold ent
      rw [if_neg hn, cyc_mod]; rfl
end
end LW
set_option Elab.async false
set_option linter.all false
set_option maxRecDepth 100000
namespace LW
open PySem PySem.Spec L2 DW
def blwQ (m : Int) : D → Bool
  | .int i => decide (0 ≤ i ∧ i < m)
  | _ => false
/-- a place's width against the number of terms behind it -/
def fitW (ws : List Int) (x : D) (n : Nat) : Bool := match x with
  | .int i => if 0 ≤ i ∧ i < 100 then decide (n = wd ws i.toNat) else true
  | _ => true
def qForm (ws : List Int) (r : Nat) : D → Bool
  | .tup (.str w :: xs) => if w = "tell" then decide (xs.length = 1) else if w = "look" then (match xs with
    | x :: y :: ys => decide (0 < r) && fitW ws x (ys.length + 1)
    | _ => false) else false
  | _ => false
def fstQ (f : D → Option (List Int)) : Nat → List D → Option (List Int)
  | _, [] => none
  | i, x :: xs => match f x with
    | some p => some ((i : Int) :: p)
    | none => fstQ f (i + 1) xs
theorem fstQ_step {f : D → Option (List Int)} {xs : List D} {i s : Nat} {x : D} {X : Option (List Int)} (hi : xs[i]? = some x) (e : fstQ f (s + i) (xs.drop i) = X) :
    (∃ p, f x = some p ∧ X = some (((s + i : Nat) : Int) :: p)) ∨ (f x = none ∧ fstQ f (s + (i + 1)) (xs.drop (i + 1)) = X) := by
  obtain ⟨b1, b2⟩ := List.getElem?_eq_some_iff.mp hi
  rw [List.drop_eq_getElem_cons b1, b2] at e
  simp only [fstQ] at e
  cases hp : f x with
  | none => rw [hp] at e; exact .inr ⟨rfl, e⟩
  | some p => rw [hp] at e; exact .inl ⟨p, rfl, e.symm⟩
/-- behind a right form -/
def wqI (oc : Nat) (f : D → Option (List Int)) : D → Option (List Int)
  | .tup (.str w :: x :: xs) => if w = "tell" then (if blwQ oc x = true then none else some [1]) else if blwQ 100 x = true then fstQ f 2 xs else some [1]
  | _ => none
def wq (ws : List Int) (oc : Nat) : Nat → D → Option (List Int)
  | 0, d => if qForm ws 0 d = true then wqI oc (fun _ => none) d else some []
  | r + 1, d => if qForm ws (r + 1) d = true then wqI oc (wq ws oc r) d else some []
/-- heads are words; so wide, so deep looked at -/
def qh (d : D) : Prop := (∀ ds, d = .tup ds → ds.length ≤ 1000) ∧ ((∃ i, d = .int i) ∨ (∃ s, d = .str s) ∨ (d = .tup []) ∨ ∃ w xs, d = .tup (.str w :: xs))
def qpl : Nat → D → Prop
  | 0, d => qh d ∧ ∀ w xs, d = .tup (.str w :: xs) → ∀ y ∈ xs, (∃ i, y = .int i) ∨ (∃ s, y = .str s) ∨ ∃ ds, y = .tup ds
  | r + 1, d => qh d ∧ ∀ w xs, d = .tup (.str w :: xs) → ∀ y ∈ xs, qpl r y
theorem qh_leaf {d : D} (h : qh d) : (∃ i, d = .int i) ∨ (∃ s, d = .str s) ∨ ∃ ds, d = .tup ds := by
  rcases h.2 with h | h | h | ⟨w, xs, h⟩
  · exact .inl h
  · exact .inr (.inl h)
  · exact .inr (.inr ⟨_, h⟩)
  · exact .inr (.inr ⟨_, h⟩)
theorem qpl_h : ∀ {r : Nat} {d : D}, qpl r d → qh d
  | 0, _, h => h.1
  | _ + 1, _, h => h.1
theorem qpl_leaf {r : Nat} {w : Str} {xs : List D} (h : qpl r (.tup (.str w :: xs))) : ∀ y ∈ xs, (∃ i, y = .int i) ∨ (∃ s, y = .str s) ∨ ∃ ds, y = .tup ds := by
  cases r with
  | zero => exact h.2 w xs rfl
  | succ r => exact fun y hy => qh_leaf (qpl_h (h.2 w xs rfl y hy))
/-- what a path may be -/
theorem fstQ_ok {f : D → Option (List Int)} {m : Nat} : ∀ {xs : List D} {i : Nat} {p : List Int}, (∀ x ∈ xs, ∀ q, f x = some q → q.length ≤ m ∧ ∀ z ∈ q, 0 ≤ z ∧ z ≤ 2000) → i + xs.length ≤ 2000 → fstQ f i xs = some p → p.length ≤ m + 1 ∧ ∀ z ∈ p, 0 ≤ z ∧ z ≤ 2000
  | [], _, _, _, _, e => by cases e
  | x :: xs, i, p, h, hl, e => by
    simp only [fstQ] at e
    rw [List.length_cons] at hl
    cases hf : f x with
    | none => rw [hf] at e; exact fstQ_ok (fun y hy => h y (List.mem_cons_of_mem _ hy)) (by omega) e
    | some q =>
      rw [hf] at e
      cases e
      obtain ⟨h1, h2⟩ := h x List.mem_cons_self q hf
      refine ⟨by rw [List.length_cons]; omega, fun z hz => ?_⟩
      rcases List.mem_cons.mp hz with rfl | hz
      · omega
      · exact h2 z hz
theorem wqI_ok {oc m : Nat} {f : D → Option (List Int)} {d : D} {p : List Int} (hl : ∀ ds, d = .tup ds → ds.length ≤ 1000) (hf : ∀ x q, f x = some q → (∀ w xs, d = .tup (.str w :: xs) → x ∈ xs → q.length ≤ m ∧ ∀ z ∈ q, 0 ≤ z ∧ z ≤ 2000)) (e : wqI oc f d = some p) : p.length ≤ m + 1 ∧ ∀ z ∈ p, 0 ≤ z ∧ z ≤ 2000 := by
  unfold wqI at e
  split at e
  · rename_i w x xs
    have one : p = [1] → p.length ≤ m + 1 ∧ ∀ z ∈ p, 0 ≤ z ∧ z ≤ 2000 := fun h => by rw [h]; simp
    split at e
    · split at e
      · cases e
      · cases e; exact one rfl
    · split at e
      · have := hl _ rfl
        simp only [List.length_cons] at this
        exact fstQ_ok (fun y hy q hq => hf y q hq w _ rfl (List.mem_cons_of_mem _ hy)) (by omega) e
      · cases e; exact one rfl
  · cases e
theorem wq_ok {ws : List Int} {oc : Nat} : ∀ {r : Nat} {d : D} {p : List Int}, qpl r d → wq ws oc r d = some p → p.length ≤ r + 1 ∧ ∀ z ∈ p, 0 ≤ z ∧ z ≤ 2000
  | 0, d, p, h, e => by
    simp only [wq] at e
    split at e
    · exact wqI_ok (m := 0) h.1.1 (fun x q hq => by cases hq) e
    · cases e; simp
  | r + 1, d, p, h, e => by
    simp only [wq] at e
    split at e
    · exact wqI_ok (m := r + 1) h.1.1 (fun x q hq w xs hd hx => wq_ok (h.2 w xs hd x hx) hq) e
    · cases e; simp
end LW
set_option Elab.async false
set_option linter.all false
set_option maxRecDepth 100000
namespace LW
open PySem PySem.Spec L2 DW
def qFol (ws : List Int) (f : Nat → Int) : QT → Option (List Nat × Nat)
  | .tell o => some ([], o)
  | .look p ts => if f p < (wd ws p : Int) then ((qFols ws f ts).getD (f p).toNat none).map fun q => (p :: q.1, q.2) else none
where qFols (ws : List Int) (f : Nat → Int) : List QT → List (Option (List Nat × Nat))
  | [] => []
  | t :: ts => qFol ws f t :: qFols ws f ts
theorem qfols_map {ws : List Int} {f : Nat → Int} : ∀ ts : List QT, qFol.qFols ws f ts = ts.map (qFol ws f)
  | [] => rfl
  | t :: ts => by rw [qFol.qFols, qfols_map ts]; rfl
theorem qFol_look {ws : List Int} {f : Nat → Int} {p : Nat} {ts : List QT} {t : QT} (hf : f p < (wd ws p : Int)) (h : ts[(f p).toNat]? = some t) : qFol ws f (.look p ts) = (qFol ws f t).map fun q => (p :: q.1, q.2) := by
  rw [qFol, if_pos hf, qfols_map, List.getD_eq_getElem?_getD, List.getElem?_map, h]; rfl
theorem qFol_no {ws : List Int} {f : Nat → Int} {p : Nat} {ts : List QT} (hf : ¬ f p < (wd ws p : Int)) : qFol ws f (.look p ts) = none := by
  rw [qFol, if_neg hf]
/-- a query's own term is right: its first wrong part is the too deep one -/
theorem qd_tell {o : Nat} : qD (.tell o) = .tup [.str "tell", .int (o : Int)] := by rw [qD]
theorem qd_look {p : Nat} {ts : List QT} : qD (.look p ts) = .tup (.str "look" :: .int (p : Int) :: ts.map qD) := by rw [qD, qDs_map]
theorem qpl_q {ws : List Int} {oc : Nat} (hw : WsOk ws) : ∀ {r : Nat} {t : QT}, QOk ws oc t → qpl r (qD t) := by
  intro r
  have hd : ∀ t : QT, QOk ws oc t → qh (qD t) := fun t ht => by
    cases t with
    | tell o => rw [qd_tell]; exact ⟨fun ds h => by cases h; simp, .inr (.inr (.inr ⟨_, _, rfl⟩))⟩
    | look p ts =>
      rw [qd_look]
      have := hw.wd1 p
      exact ⟨fun ds h => by cases h; simp only [List.length_cons, List.length_map]; have := ht.2.1; omega, .inr (.inr (.inr ⟨_, _, rfl⟩))⟩
  have num : ∀ (r : Nat) (i : Int), qpl r (.int i) := fun r i => by
    cases r with
    | zero => exact ⟨⟨nofun, .inl ⟨_, rfl⟩⟩, nofun⟩
    | succ r => exact ⟨⟨nofun, .inl ⟨_, rfl⟩⟩, nofun⟩
  induction r with
  | zero =>
    intro t ht
    refine ⟨hd t ht, fun w xs he y hy => ?_⟩
    cases t with
    | tell o => rw [qd_tell] at he; cases he; rw [List.mem_singleton.mp hy]; exact .inl ⟨_, rfl⟩
    | look p ts =>
      rw [qd_look] at he; cases he
      rcases List.mem_cons.mp hy with rfl | hy
      · exact .inl ⟨_, rfl⟩
      · obtain ⟨t, _, rfl⟩ := List.mem_map.mp hy
        cases t with
        | tell o => exact .inr (.inr ⟨_, qd_tell⟩)
        | look p ts => exact .inr (.inr ⟨_, qd_look⟩)
  | succ r ih =>
    intro t ht
    refine ⟨hd t ht, fun w xs he y hy => ?_⟩
    cases t with
    | tell o => rw [qd_tell] at he; cases he; rw [List.mem_singleton.mp hy]; exact num _ _
    | look p ts =>
      rw [qd_look] at he; cases he
      obtain ⟨_, _, h3⟩ := ht
      rw [qoks_iff] at h3
      rcases List.mem_cons.mp hy with rfl | hy
      · exact num _ _
      · obtain ⟨t, htm, rfl⟩ := List.mem_map.mp hy
        exact ih (h3 t htm)
theorem fstQ_none {f : D → Option (List Int)} : ∀ {xs : List D} {i : Nat}, (∀ x ∈ xs, f x = none) → fstQ f i xs = none
  | [], _, _ => rfl
  | x :: xs, i, h => by simp only [fstQ]; rw [h x List.mem_cons_self]; exact fstQ_none fun y hy => h y (List.mem_cons_of_mem _ hy)
theorem form_tell {ws : List Int} {r : Nat} {x : D} : qForm ws r (.tup [.str "tell", x]) = true := by
  simp only [qForm]
  rw [if_pos trivial]; rfl
theorem form_look {ws : List Int} (hw : WsOk ws) {r p : Nat} {ts : List QT} (hp : p < 100) (hl : ts.length = wd ws p) : qForm ws r (.tup (.str "look" :: .int (p : Int) :: ts.map qD)) = decide (0 < r) := by
  have h1 := hw.wd1 p
  simp only [qForm]
  rw [if_neg (by decide), if_pos trivial]
  cases ts with
  | nil => simp at hl; omega
  | cons t ts =>
    rw [List.length_cons] at hl
    show (decide (0 < r) && fitW ws (.int (p : Int)) ((ts.map qD).length + 1)) = _
    have : fitW ws (.int (p : Int)) ((ts.map qD).length + 1) = true := by
      unfold fitW
      simp only
      rw [if_pos (by omega), List.length_map, Int.toNat_natCast, hl]; simp
    rw [this, Bool.and_true]
theorem wqI_tell {oc o : Nat} {f : D → Option (List Int)} : wqI oc f (.tup [.str "tell", .int (o : Int)]) = if o < oc then none else some [1] := by
  simp only [wqI]
  rw [if_pos trivial]
  by_cases h : o < oc
  · rw [if_pos h, if_pos (by simp only [blwQ]; exact decide_eq_true (by omega))]
  · rw [if_neg h, if_neg (by simp only [blwQ, decide_eq_true_eq]; omega)]
theorem wqI_look {oc p : Nat} {f : D → Option (List Int)} {xs : List D} (hp : p < 100) : wqI oc f (.tup (.str "look" :: .int (p : Int) :: xs)) = fstQ f 2 xs := by
  simp only [wqI]
  rw [if_neg (by decide), if_pos (by simp only [blwQ]; exact decide_eq_true (by omega))]
/-- right terms, not too deep, are not wrong -/
theorem wq_none {ws : List Int} {oc : Nat} (hw : WsOk ws) : ∀ {r : Nat} {t : QT}, QOk ws oc t → qDep t ≤ r → wq ws oc r (qD t) = none := by
  intro r
  induction r with
  | zero =>
    intro t ht hd
    cases t with
    | tell o => rw [qd_tell, wq, if_pos form_tell, wqI_tell, if_pos (show o < oc from ht)]
    | look p ts => rw [qDep] at hd; omega
  | succ r ih =>
    intro t ht hd
    cases t with
    | tell o => rw [qd_tell, wq, if_pos form_tell, wqI_tell, if_pos (show o < oc from ht)]
    | look p ts =>
      obtain ⟨hp, hl, h3⟩ := ht
      rw [qoks_iff] at h3
      rw [qDep] at hd
      rw [qd_look, wq, if_pos (by rw [form_look hw hp hl]; exact decide_eq_true (by omega)), wqI_look hp]
      refine fstQ_none fun x hx => ?_
      obtain ⟨t, htm, rfl⟩ := List.mem_map.mp hx
      exact ih (h3 t htm) (by have := qdeps_le htm; omega)
end LW
set_option Elab.async false
set_option linter.all false
set_option maxRecDepth 100000
set_option maxHeartbeats 4000000
namespace LW
open PySem PySem.Spec L2 DW PyProof.Rows
local macro_rules | `(tactic| walk_at "wp") => `(tactic| try simp only [u_tryM, u_cls0, u_cls1, u_isET, w_isET2, w_isET3, w_isET4, u_truT, u_iZ3, w_zip3E, u_lcO, u_restE, v_rng1, u_rngV, w_rngE, u_cval, w_isiO, u_par, u_iR3, u_makeSD, u_getXN, rngB_len, u_star, u_rev2L, u_callR, u_binXI, u_callX, u_getX, u_restF, u_binX, u_invX, w_neB, u_methXN, u_makeSN, u_tupR1, u_lc2, u_iZM, w_zipLT, w_zipTL, u_cntL, u_lstR1O, u_fld, w_fld, w_someE, u_setF, u_methX, w_objE, u_makeS, u_sortSet, u_lstR1, u_iZipL, u_iEnL, u_idx, u_popAt, u_cntT, u_idxT, u_callF, w_maxL, w_minL, w_ixDc, w_inDc, w_repL, w_listLs, w_tplT, w_tplP, u_isE, w_isE, u_kitER, u_kitET, u_excE, u_xf, w_xf1, u_slS, u_raise1, u_iEn, w_listStr, w_lenStr, w_catStr, w_ixStr, w_inStr, w_strE, w_strI, w_strS, u_rest, cut_to, cut_from1, Int.zero_add, u_revT, w_repT, u_tupG, u_try, u_gPlain, u_gThen, u_gNil, u_yield, u_gWhile, u_while, u_isX, u_kitR, u_kitT, u_excOk, w_zipE, u_goalX, u_lc, rngD_len, Int.toNat_natCast, u_for, u_iT, u_iL, u_iR1, u_iR2, u_iZ, u_iS, w_lstE, dwipe, u_asg, u_asgS, u_ret, u_retN, u_if, u_next, u_break, u_cont, u_drop, u_raise, u_aug, u_var, u_c, u_op, u_un, u_test, u_and, u_or, u_not, u_yes, u_andV, u_orV, u_notV, u_ifE, u_chain, u_nil, u_cons, u_tup, u_lst, u_own, u_cb, u_call, u_callS, u_name, u_etup, u_enil, u_econs, u_sub, u_app, u_slT, u_slL, u_noPart, u_part, u_revL, ex_some, w_I0, w_I, w_uI, w_int, w_bl, w_isi, w_someb, w_eqI, w_neI, w_eqS, w_neS, w_lenT, w_lenL, w_lenS, w_tupL, w_tupT, w_ixT, w_ixL, w_ixS, w_catT, w_catL, w_all, w_any, w_min2, w_divmod, w_listS, w_listL, w_listT, w_isN, w_notN, w_tupE, w_intE, w_consE, w_hdE, w_cellS, w_set, at0, at1, at2, at3, i_tT, i_tI, i_tB, i_tS, i_nT, i_nI, i_nB, i_nS, i_iT, i_iI, i_iB, i_iS, i_bT, i_bI, i_bB, i_bS, i_sT, i_sI, i_sB, i_sS, v_itemsS, w_eqB, isNone, dstart, List.map, List.length, List.replicate, List.cons_append, List.nil_append, List.append_nil, List.getElem?_cons_zero, List.getElem?_cons_succ, List.set_cons_zero, List.set_cons_succ, ix40, ix42, ix43, true_implies, false_implies, and_true, true_and, Bool.not_true, Bool.not_false, decide_eq_true_eq, decide_eq_false_iff_not, List.length_map, Nat.reduceAdd, reduceCtorEq, v_ixH, v_items, v_itemsT, v_itemsL, v_len, v_tuple, v_list, v_listOwn, sset_same, sset_sset, Option.some.injEq, Cell.lst.injEq, Cell.frz.injEq, false_and, exists_false, or_false, false_or, exists_eq_left', ne_eq, not_false_eq_true, isTup, Bool.true_eq_false, Bool.false_eq_true])
local macro_rules | `(tactic| walk_at "wps") => `(tactic| try simp only [u_seq, u_tryM, u_cls0, u_cls1, u_isET, w_isET2, w_isET3, w_isET4, u_truT, u_iZ3, w_zip3E, u_lcO, u_restE, v_rng1, u_rngV, w_rngE, u_cval, w_isiO, u_par, u_iR3, u_makeSD, u_getXN, rngB_len, u_star, u_rev2L, u_callR, u_binXI, u_callX, u_getX, u_restF, u_binX, u_invX, w_neB, u_methXN, u_makeSN, u_tupR1, u_lc2, u_iZM, w_zipLT, w_zipTL, u_cntL, u_lstR1O, u_fld, w_fld, w_someE, u_setF, u_methX, w_objE, u_makeS, u_sortSet, u_lstR1, u_iZipL, u_iEnL, u_idx, u_popAt, u_cntT, u_idxT, u_callF, w_maxL, w_minL, w_ixDc, w_inDc, w_repL, w_listLs, w_tplT, w_tplP, u_isE, w_isE, u_kitER, u_kitET, u_excE, u_xf, w_xf1, u_slS, u_raise1, u_iEn, w_listStr, w_lenStr, w_catStr, w_ixStr, w_inStr, w_strE, w_strI, w_strS, u_rest, cut_to, cut_from1, Int.zero_add, u_revT, w_repT, u_tupG, u_try, u_gPlain, u_gThen, u_gNil, u_yield, u_gWhile, u_while, u_isX, u_kitR, u_kitT, u_excOk, w_zipE, u_goalX, u_lc, rngD_len, Int.toNat_natCast, u_for, u_iT, u_iL, u_iR1, u_iR2, u_iZ, u_iS, w_lstE, dwipe, u_asg, u_asgS, u_ret, u_retN, u_if, u_next, u_break, u_cont, u_drop, u_raise, u_aug, u_var, u_c, u_op, u_un, u_test, u_and, u_or, u_not, u_yes, u_andV, u_orV, u_notV, u_ifE, u_chain, u_nil, u_cons, u_tup, u_lst, u_own, u_cb, u_call, u_callS, u_name, u_etup, u_enil, u_econs, u_sub, u_app, u_slT, u_slL, u_noPart, u_part, u_revL, ex_some, w_I0, w_I, w_uI, w_int, w_bl, w_isi, w_someb, w_eqI, w_neI, w_eqS, w_neS, w_lenT, w_lenL, w_lenS, w_tupL, w_tupT, w_ixT, w_ixL, w_ixS, w_catT, w_catL, w_all, w_any, w_min2, w_divmod, w_listS, w_listL, w_listT, w_isN, w_notN, w_tupE, w_intE, w_consE, w_hdE, w_cellS, w_set, at0, at1, at2, at3, i_tT, i_tI, i_tB, i_tS, i_nT, i_nI, i_nB, i_nS, i_iT, i_iI, i_iB, i_iS, i_bT, i_bI, i_bB, i_bS, i_sT, i_sI, i_sB, i_sS, v_itemsS, w_eqB, isNone, dstart, List.map, List.length, List.replicate, List.cons_append, List.nil_append, List.append_nil, List.getElem?_cons_zero, List.getElem?_cons_succ, List.set_cons_zero, List.set_cons_succ, ix40, ix42, ix43, true_implies, false_implies, and_true, true_and, Bool.not_true, Bool.not_false, decide_eq_true_eq, decide_eq_false_iff_not, List.length_map, Nat.reduceAdd, reduceCtorEq, v_ixH, v_items, v_itemsT, v_itemsL, v_len, v_tuple, v_list, v_listOwn, sset_same, sset_sset, Option.some.injEq, Cell.lst.injEq, Cell.frz.injEq, false_and, exists_false, or_false, false_or, exists_eq_left', ne_eq, not_false_eq_true, isTup, Bool.true_eq_false, Bool.false_eq_true])
section
variable {P : Program} {w : World} {K : Fg} {mg : Str → Option Value} {base : Heap}
def WsB (ws : List Int) : Prop := 1 ≤ ws.length ∧ ws.length ≤ 6 ∧ ∀ x ∈ ws, 1 ≤ x ∧ x ≤ 4
instance (ws : List Int) : Decidable (WsB ws) := inferInstanceAs (Decidable (_ ∧ _))
theorem WsB.ok {ws : List Int} (h : WsB ws) : WsOk ws := ⟨h.1, h.2.1, h.2.2⟩
theorem WsOk.b {ws : List Int} (h : WsOk ws) : WsB ws := ⟨h.l0, h.l1, h.w⟩
def c_are_widths : Con := fun ds μ Φ _ => ∃ ws : List Int, ds = [.tup (ws.map .int)] ∧ ws.length ≤ 1000 ∧ Φ (.bl (decide (WsB ws))) μ
theorem len_are_widths {ds μ Φ Ψ} (h : c_are_widths ds μ Φ Ψ) : ds.length = 1 := by obtain ⟨i, rfl, _⟩ := h; rfl
theorem ok_are_widths (T : Txt P w K mg) : FnOk P w K mg base (L2N.CX P w) 2 T.f_are_widths T.d_are_widths ["widths"] (spOf K c_are_widths) := by
  refine def_okC T.F_are_widths sc_are_widths _ (fun ds μ Φ Ψ h => len_are_widths h) (fun cdv A outer s H E B hW hr =>
    have tk : L2N.Takes (cxOf (L2N.CX P w) P w K mg base N_are_widths "are_widths" (defScope s_are_widths) T.f_are_widths cdv A outer s H E) (fun cls d _ H => E cls d H) := L2N.takes_of rfl rfl rfl rfl
    ⟨_, (pss_cons (ps_if (PW.pt (pw_or (pt_not (pt_val (pe_callB call_isi (by rfl) T.z_isinstance (by decide +kernel) (pa_cons (pv 0) (pa_cons (pe_bltn (v := .ty "tuple") rfl T.z_tuple (by decide +kernel) rfl) pa_nil))))) (pw_or1 (pt_not (pt_chain op_le op_le pe_int (pe_callB call_len_seq (by rfl) T.z_len PySem.boot_len (pa_cons (pv 0) pa_nil)) (pe_glob (v := .int 6) rfl T.g_MOST_WIDTHS.choose_spec ⟨_, rfl⟩)))))) (pss_one (ps_ret pe_bl)) pss_nil)
      (pss_one (ps_ret (pe_callB (cr_all rfl) (by rfl) T.z_all (by decide +kernel) (pa_cons (pe_lc (own := [("width", 1)]) rfl sc_are_widths.nd (pi_tup (pv 0)) (blkOk_by (N := N_are_widths) (sc := defScope s_are_widths) (by decide +kernel)) (fun _ _ _ _ _ => (pg_name (i := 1) sc_are_widths.nd rfl (Or.inl rfl))) (fun _ _ _ _ _ => pts_nil) (fun _ _ _ _ _ => (pe_and (pe_call (ok_is_number T) hr rfl T.g_is_number T.F_is_number.kp T.b_is_number .nil passN (pa_cons (pv 1) pa_nil)) (pe_one (pe_chain op_le op_le pe_int (pv 1) (pe_glob (v := .int 4) rfl T.g_WIDEST.choose_spec ⟨_, rfl⟩)))))) pa_nil))))),
      (sSeq (sIfS (sOr (sNot (sB (sCB (rcIsi (T := "tuple")) (sCons sVar (sCons sHd sNil))))) (sNot (sTest (sChain roBl0 roBl0 sInt (sCB rcLen (sCons sVar sNil)) sInt)))) (sRet sBl) sNext)
      (sRet (sCB rcAll (sCons (sLc (siT sVar) (gwName List.mem_cons_self) (fun _ _ _ => sName) (fun _ _ _ => sYes) (fun _ _ _ => (sAndV (sCall (sCons sVar sNil)) (sChain roBl0 roBl0 sInt sVar sInt)))) sNil))))⟩) (fun ds μ Φ Ψ h => ?hv)
  case hv =>
    obtain ⟨ws, rfl, hl, h⟩ := h
    walk_at "wps"
    have bad : ¬ (1 ≤ ws.length ∧ ws.length ≤ 6) → ∃ μ2, DW.Sub μ2 μ ∧ Φ (.bl false) μ2 := fun q => ret_same (by rw [decide_eq_false (fun z => q ⟨z.1, z.2.1⟩)] at h; exact h)
    refine ⟨fun q1 => ⟨fun q2 => bad fun z => ?_, fun q2 => ?_⟩, fun q1 => bad fun z => q1 (by omega)⟩
    · simp at q2; omega
    · simp at q2
      refine lcZ (fun x => .bl (decide (1 ≤ x ∧ x ≤ 4))) (by omega) (fun x μ2 X hx hsub hk => ?_) ?_
      · walk_at "wps"
        simp only [w_is_number]
        walk_at "wps"
        refine ⟨fun c1 => ?_, fun c1 => ?_⟩
        · simpa [c1] using hk
        · rw [decide_eq_false (fun z => c1 z.1)] at hk; exact hk
      · have e : ws.map (fun x => D.bl (decide (1 ≤ x ∧ x ≤ 4))) = (ws.map fun x => decide (1 ≤ x ∧ x ≤ 4)).map D.bl := by rw [List.map_map]; rfl
        rw [e, w_all]
        refine ret_same ?_
        have e2 : (ws.map fun x => decide (1 ≤ x ∧ x ≤ 4)).all id = decide (WsB ws) := by
          rw [List.all_map, Bool.eq_iff_iff, List.all_eq_true, decide_eq_true_eq]
          exact ⟨fun z => ⟨by omega, by omega, fun x hx => of_decide_eq_true (z x hx)⟩, fun z x hx => decide_eq_true (z.2.2 x hx)⟩
        rw [e2]; exact h
def c_require_form (O : Addr) : Con := fun ds μ Φ Ψ => ∃ (ws : List Int) (oc : Int), ds = [.tup (ws.map .int), .int oc] ∧ ws.length ≤ 1000 ∧ ((WsB ws ∧ 1 ≤ oc ∧ oc ≤ 4) → Φ .non μ) ∧ (¬ (WsB ws ∧ 1 ≤ oc ∧ oc ≤ 4) → Ψ (.mk O none) μ)
theorem len_require_form {O ds μ Φ Ψ} (h : c_require_form O ds μ Φ Ψ) : ds.length = 2 := by obtain ⟨i, _, rfl, _⟩ := h; rfl
theorem ok_require_form (T : Txt P w K mg) : FnOk P w K mg base (L2N.CX P w) 3 T.f_require_form T.d_require_form ["widths", "outcomes"] (spOf K (c_require_form T.c_OutOfRange)) := by
  refine def_okC T.F_require_form sc_require_form _ (fun ds μ Φ Ψ h => len_require_form h) (fun cdv A outer s H E B hW hr =>
    have tk : L2N.Takes (cxOf (L2N.CX P w) P w K mg base N_require_form "require_form" (defScope s_require_form) T.f_require_form cdv A outer s H E) (fun cls d _ H => E cls d H) := L2N.takes_of rfl rfl rfl rfl
    ⟨_, (pss_one (ps_if (PW.pt (pw_or (pt_not (pt_val (pe_call (ok_has_outcomes T) (hr.mono (by decide)) rfl T.g_has_outcomes T.F_has_outcomes.kp T.b_has_outcomes .nil passN (pa_cons (pv 1) pa_nil)))) (pw_or1 (pt_not (pt_val (pe_call (ok_are_widths T) hr rfl T.g_are_widths T.F_are_widths.kp T.b_are_widths .nil passN (pa_cons (pv 0) pa_nil))))))) (pss_one (L2N.ps_raise rfl tk (L2N.pmk_own PySem.F.excBase_ValueError T.x_OutOfRange T.g_OutOfRange T.k_OutOfRange (raises_own T.e_OutOfRange T.t_OutOfRange) rfl))) pss_nil)),
      (sIfS (sOr (sNot (sB (sCall (sCons sVar sNil)))) (sNot (sB (sCall (sCons sVar sNil))))) (sRaise0W (W := fun cls d _ H => E cls d H) (C := T.c_OutOfRange) (by exact hW)) sNext)⟩) (fun ds μ Φ Ψ h => ?hv)
  case hv =>
    obtain ⟨ws, oc, rfl, hl, h1, h2⟩ := h
    walk_at "wps"
    simp only [w_has_outcomes]
    walk_at "wps"
    by_cases o : 1 ≤ oc ∧ oc ≤ 4
    case neg =>
      rw [decide_eq_false o]
      walk_at "wps"
      exact ⟨_, Sub.refl, h2 fun z => o z.2⟩
    rw [decide_eq_true o]
    walk_at "wps"
    refine ⟨ws, rfl, hl, ?_⟩
    by_cases b : WsB ws
    · rw [decide_eq_true b]
      walk_at "wps"
      exact ret_same (h1 ⟨b, o⟩)
    · rw [decide_eq_false b]
      walk_at "wps"
      exact ⟨_, Sub.refl, h2 fun z => b z.1⟩
def c_has_query_form : Con := fun ds μ Φ _ => ∃ (ws : List Int) (lv r : Nat) (d : D), ds = [d, .tup (ws.map .int), .int (lv : Int)] ∧ WsOk ws ∧ lv + r = 20 ∧ qh d ∧ (∀ w xs, d = .tup (.str w :: xs) → ∀ y ∈ xs, leaf3 y) ∧ Φ (.bl (qForm ws r d)) μ
theorem len_has_query_form {ds μ Φ Ψ} (h : c_has_query_form ds μ Φ Ψ) : ds.length = 3 := by obtain ⟨i, _, _, _, rfl, _⟩ := h; rfl
theorem ok_has_query_form (T : Txt P w K mg) : FnOk P w K mg base (L2N.CX P w) 3 T.f_has_query_form T.d_has_query_form ["term", "widths", "level"] (spOf K c_has_query_form) := by
  refine def_okC T.F_has_query_form sc_has_query_form _ (fun ds μ Φ Ψ h => len_has_query_form h) (fun cdv A outer s H E B hW hr =>
    have tk : L2N.Takes (cxOf (L2N.CX P w) P w K mg base N_has_query_form "has_query_form" (defScope s_has_query_form) T.f_has_query_form cdv A outer s H E) (fun cls d _ H => E cls d H) := L2N.takes_of rfl rfl rfl rfl
    ⟨_, (pss_cons (ps_if (PW.pt (pw_or (pt_not (pt_val (pe_callB call_isi (by rfl) T.z_isinstance (by decide +kernel) (pa_cons (pv 0) (pa_cons (pe_bltn (v := .ty "tuple") rfl T.z_tuple (by decide +kernel) rfl) pa_nil))))) (pw_or1 (pt_cmpR op_eq (pe_callB call_len_seq (by rfl) T.z_len PySem.boot_len (pa_cons (pv 0) pa_nil)) pe_int (nomark _))))) (pss_one (ps_ret pe_bl)) pss_nil)
      (pss_cons (ps_if (pt_cmpR op_eq (pe_ix ix_tup (pv 0) pe_int (fun _ _ => rfl)) pe_str (nomark _)) (pss_one (ps_ret (pe_cmpR op_eq (pe_callB call_len_seq (by rfl) T.z_len PySem.boot_len (pa_cons (pv 0) pa_nil)) pe_int (nomark _)))) pss_nil)
      (pss_cons (ps_if (PW.pt (pw_or (pt_cmpR op_ne (pe_ix ix_tup (pv 0) pe_int (fun _ _ => rfl)) pe_str (nomark _)) (pw_or (pt_cmpR op_le (pe_callB call_len_seq (by rfl) T.z_len PySem.boot_len (pa_cons (pv 0) pa_nil)) (pe_glob (v := .int 2) rfl T.g_ITEMS_BEFORE.choose_spec ⟨_, rfl⟩) (nomark _)) (pw_or1 (pt_cmpR op_ge (pv 2) (ClX.pe_cval (pe_glob (v := .ref T.c_Query) rfl T.g_Query rfl)) (nomark _)))))) (pss_one (ps_ret pe_bl)) pss_nil)
      (pss_one (ps_ret (pe_or (pe_not (pe_call (ok_is_below T) hr rfl T.g_is_below T.F_is_below.kp T.b_is_below .nil passN (pa_cons (pe_ix ix_tup (pv 0) pe_int (fun _ _ => rfl)) (pa_cons (pe_glob (v := .int 100) rfl T.g_PLACES.choose_spec ⟨_, rfl⟩) pa_nil)))) (pe_one (pe_cmpR op_eq (pe_callB call_len_seq (by rfl) T.z_len PySem.boot_len (pa_cons (pe_call (ok_terms_behind T) (hr.mono (by decide)) rfl T.g_terms_behind T.F_terms_behind.kp T.b_terms_behind .nil passN (pa_cons (pv 0) pa_nil)) pa_nil)) (pe_call (ok_width_at T) (hr.mono (by decide)) rfl T.g_width_at T.F_width_at.kp T.b_width_at .nil passN (pa_cons (pv 1) (pa_cons (pe_ix ix_tup (pv 0) pe_int (fun _ _ => rfl)) pa_nil))) (nomark _))))))))),
      (sSeq (sIfS (sOr (sNot (sB (sCB (rcIsi (T := "tuple")) (sCons sVar (sCons sHd sNil))))) (sTest (sOp roEq (sCB rcLen (sCons sVar sNil)) sInt))) (sRet sBl) sNext)
      (sSeq (sIfS (sTest (sOp roEq (sOp roIxT sVar sInt) sStr)) (sRet (sOp roEq (sCB rcLen (sCons sVar sNil)) sInt)) sNext)
      (sSeq (sIfS (sOr (sTest (sOp roNe (sOp roIxT sVar sInt) sStr)) (sOr (sTest (sOp roBl0 (sCB rcLen (sCons sVar sNil)) sInt)) (sTest (sOp roBl0 sVar (sCVal (n := 20) T.rd_Query T.cv_Query_MOST_LEVELS sHd))))) (sRet sBl) sNext)
      (sRet (sOrV (sNotV (sCall (sCons (sOp roIxT sVar sInt) (sCons sInt sNil)))) (sOp roEq (sCB rcLen (sCons (sCall (sCons sVar sNil)) sNil)) (sCall (sCons sVar (sCons (sOp roIxT sVar sInt) sNil)))))))))⟩) (fun ds μ Φ Ψ h => ?hv)
  case hv =>
    obtain ⟨ws, lv, r, d, rfl, hw, hlr, ⟨hlen, hd⟩, hy, h⟩ := h
    rcases hd with ⟨i, rfl⟩ | ⟨s, rfl⟩ | rfl | ⟨w', xs, rfl⟩
    · walk_at "wps"
      exact ret_same h
    · walk_at "wps"
      exact ret_same h
    · walk_at "wps"
      exact ⟨fun _ => ret_same h, fun z => absurd rfl z⟩
    · have hl := hlen _ rfl
      rw [List.length_cons] at hl
      refine seq_cut fun M hM => ?_
      walk_at "wp"
      refine ⟨fun z => by omega, fun _ => ?_⟩
      rw [hM]; clear hM M
      refine seq_cut fun M hM => ?_
      walk_at "wp"
      simp only [qForm] at h
      refine ⟨fun q => ?_, fun q => ?_⟩
      · rw [if_pos q] at h
        refine ret_same ?_
        rw [show decide (((xs.length + 1 : Nat) : Int) = 2) = decide (xs.length = 1) from decide_eq_decide.mpr (by omega)]
        exact h
      rw [if_neg q] at h
      rw [hM]; clear hM M
      refine seq_cut fun M hM => ?_
      walk_at "wp"
      refine ⟨fun z => ?_, fun z => ?_⟩
      · simp at z
        rw [if_neg z] at h
        exact ret_same h
      simp only [Bool.not_eq_false', decide_eq_true_eq] at z
      rw [if_pos z] at h
      match xs, hl, hy, hlen, h with
      | [], _, _, _, h => exact ⟨fun _ => ret_same h, fun q => absurd (show ((0 + 1 : Nat) : Int) ≤ 2 by decide) q⟩
      | [x], _, _, _, h => exact ⟨fun _ => ret_same h, fun q => absurd (show ((1 + 1 : Nat) : Int) ≤ 2 by decide) q⟩
      | x :: y :: ys, hl, hy, _, h =>
        have h : Φ (.bl (decide (0 < r) && fitW ws x (ys.length + 1))) μ := h
        refine ⟨fun q => by simp only [List.length_cons] at q; omega, fun _ => ⟨fun q => ?_, fun q => ?_⟩⟩
        · rw [show decide (0 < r) = false from decide_eq_false (by omega), Bool.false_and] at h
          exact ret_same h
        rw [show decide (0 < r) = true from decide_eq_true (by omega), Bool.true_and] at h
        have hx : leaf3 x := hy _ _ rfl x (by simp)
        rw [hM]; clear hM M
        walk_at "wps"
        refine ⟨x, 100, rfl, hx, ?_⟩
        rcases hx with ⟨v, rfl⟩ | ⟨u, rfl⟩ | ⟨es, rfl⟩
        case inr.inl =>
          simp only [blw]
          walk_at "wps"
          exact ret_same h
        case inr.inr =>
          simp only [blw]
          walk_at "wps"
          exact ret_same h
        simp only [fitW] at h
        simp only [blw]
        by_cases hv : 0 ≤ v ∧ v < 100
        case neg =>
          rw [if_neg hv] at h
          rw [decide_eq_false hv]
          walk_at "wps"
          exact ret_same h
        rw [if_pos hv] at h
        rw [decide_eq_true hv]
        walk_at "wps"
        obtain ⟨p, rfl⟩ : ∃ p : Nat, v = (p : Int) := ⟨v.toNat, by omega⟩
        refine ⟨_, rfl, _, .tup _, ws, p, rfl, hw, ?_⟩
        walk_at "wps"
        rw [List.drop_succ_cons, List.drop_succ_cons, List.drop_zero, List.length_cons]
        rw [Int.toNat_natCast] at h
        rw [show decide (((ys.length + 1 : Nat) : Int) = (wd ws p : Int)) = decide (ys.length + 1 = wd ws p) from decide_eq_decide.mpr (by omega)]
        exact ret_same h
theorem form_cons {ws : List Int} {r : Nat} {d : D} (h : qForm ws r d = true) : ∃ w x xs, d = .tup (.str w :: x :: xs) := by
  unfold qForm at h
  split at h
  · rename_i w xs
    split at h
    · have := of_decide_eq_true h
      match xs, this with
      | [x], _ => exact ⟨w, x, [], rfl⟩
    · split at h
      · split at h
        · rename_i x y ys
          exact ⟨w, x, y :: ys, rfl⟩
        · cases h
      · cases h
  · cases h
theorem blw_eq {m : Int} {d : D} : blw m d = blwQ m d := by cases d <;> rfl
def c_wrong_query (n : Nat) : Con := fun ds μ Φ _ => ∃ (ws : List Int) (oc lv r : Nat) (d : D), ds = [d, .tup (ws.map .int), .int (oc : Int), .int (lv : Int)] ∧ WsOk ws ∧ lv + r = 20 ∧ r + 1 ≤ n ∧ qpl r d ∧ Φ (pd (wq ws oc r d)) μ
theorem len_wrong_query {n ds μ Φ Ψ} (h : c_wrong_query n ds μ Φ Ψ) : ds.length = 4 := by obtain ⟨i, _, _, _, _, rfl, _⟩ := h; rfl
theorem step_wrong_query (T : Txt P w K mg) {k : Nat} (hk : 4 ≤ k) (n : Nat) (ih_wrong_query : FnOk P w K mg base (L2N.CX P w) k T.f_wrong_query T.d_wrong_query ["term", "widths", "outcomes", "level"] (spOf K (c_wrong_query n))) : FnOk P w K mg base (L2N.CX P w) (k + 1) T.f_wrong_query T.d_wrong_query ["term", "widths", "outcomes", "level"] (spOf K (c_wrong_query (n + 1))) := by
  refine def_okC T.F_wrong_query sc_wrong_query _ (fun ds μ Φ Ψ h => len_wrong_query h) (fun cdv A outer s H E B hW hr =>
    have tk : L2N.Takes (cxOf (L2N.CX P w) P w K mg base N_wrong_query "wrong_query" (defScope s_wrong_query) T.f_wrong_query cdv A outer s H E) (fun cls d _ H => E cls d H) := L2N.takes_of rfl rfl rfl rfl
    ⟨_, (pss_cons (ps_if (pt_not (pt_val (pe_call (ok_has_query_form T) (hr.mono (by omega)) rfl T.g_has_query_form T.F_has_query_form.kp T.b_has_query_form .nil passN (pa_cons (pv 0) (pa_cons (pv 1) (pa_cons (pv 3) pa_nil)))))) (pss_one (ps_ret (pe_tupN pa_nil))) pss_nil)
      (pss_cons (ps_if (pt_cmpR op_eq (pe_ix ix_tup (pv 0) pe_int (fun _ _ => rfl)) pe_str (nomark _)) (pss_one (ps_ret (pe_ifExp (pt_val (pe_call (ok_is_below T) (hr.mono (by omega)) rfl T.g_is_below T.F_is_below.kp T.b_is_below .nil passN (pa_cons (pe_ix ix_tup (pv 0) pe_int (fun _ _ => rfl)) (pa_cons (pv 2) pa_nil)))) pe_non (pe_tupN (pa_cons pe_int pa_nil))))) pss_nil)
      (pss_cons (ps_if (pt_not (pt_val (pe_call (ok_is_below T) (hr.mono (by omega)) rfl T.g_is_below T.F_is_below.kp T.b_is_below .nil passN (pa_cons (pe_ix ix_tup (pv 0) pe_int (fun _ _ => rfl)) (pa_cons (pe_glob (v := .int 100) rfl T.g_PLACES.choose_spec ⟨_, rfl⟩) pa_nil))))) (pss_one (ps_ret (pe_tupN (pa_cons pe_int pa_nil)))) pss_nil)
      (pss_cons (ps_for (passes_of rfl) rfl (pi_enumTg (n := 2) (by rfl) T.z_enumerate (pe_glob (v := .int 2) rfl T.g_ITEMS_BEFORE.choose_spec ⟨_, rfl⟩) (pa_cons (pe_call (ok_terms_behind T) (hr.mono (by omega)) rfl T.g_terms_behind T.F_terms_behind.kp T.b_terms_behind .nil passN (pa_cons (pv 0) pa_nil)) pa_nil) (by decide) (by decide)) (pg_tup (n := 2) rfl (pgs_cons (pg_name (i := 4) sc_wrong_query.nd rfl (Or.inl rfl)) (pgs_cons (pg_name (i := 5) sc_wrong_query.nd rfl (Or.inl rfl)) pgs_nil))) (pss_cons (ps_set (i := 6) sc_wrong_query.nd rfl (Or.inl rfl) (pe_call ih_wrong_query hr rfl T.g_wrong_query T.F_wrong_query.kp T.b_wrong_query .nil passN (pa_cons (pv 5) (pa_cons (pv 1) (pa_cons (pv 2) (pa_cons (pe_op op_add (pv 3) pe_int) pa_nil))))))
      (pss_one (ps_if (pt_cmpR op_notN (pv 6) pe_non (nomark _)) (pss_one (ps_ret (pe_op op_catN (pe_tupN (pa_cons (pv 4) pa_nil)) (pv 6)))) pss_nil))))
      (pss_one (ps_ret pe_non)))))),
      (sSeq (sIfS (sNot (sB (sCall (sCons sVar (sCons sVar (sCons sVar sNil)))))) (sRet (sTup sNil)) sNext)
      (sSeq (sIfS (sTest (sOp roEq (sOp roIxT sVar sInt) sStr)) (sRet (sIf (sB (sCall (sCons (sOp roIxT sVar sInt) (sCons sVar sNil)))) sNon (sTup (sCons sInt sNil)))) sNext)
      (sSeq (sIfS (sNot (sB (sCall (sCons (sOp roIxT sVar sInt) (sCons sInt sNil))))) (sRet (sTup (sCons sInt sNil))) sNext)
      (sSeq (sFor (siEnumT (sCall (sCons sVar sNil))) (fun _ _ _ => (sgTup (sgCons sName (sgCons sName sgNil)))) (fun _ _ _ => (sSeq (sAsg (sCall (sCons sVar (sCons sVar (sCons sVar (sCons (sOp roInt0 sVar sInt) sNil))))) sName)
      (sIfS (sTest (sOp roNotN sVar sNon)) (sRet (sOp roCatT (sTup (sCons sVar sNil)) sVar)) sNext))))
      (sRet sNon)))))⟩) (fun ds μ Φ Ψ h => ?hv)
  case hv =>
    obtain ⟨ws, oc, lv, r, d, rfl, hw, hlr, hn, hq, h⟩ := h
    refine seq_cut fun M hM => ?_
    walk_at "wp"
    refine ⟨ws, lv, r, d, rfl, hw, hlr, qpl_h hq, fun w' xs e y hy => ?_, ?_⟩
    · subst e; exact qpl_leaf hq y hy
    by_cases hf : qForm ws r d = true
    case neg =>
      have e : wq ws oc r d = some [] := by cases r <;> (simp only [wq]; rw [if_neg hf])
      rw [e] at h
      rw [Bool.eq_false_iff.mpr hf]
      walk_at "wp"
      exact ⟨by decide, ret_same h⟩
    rw [hf]
    walk_at "wp"
    rw [hM]; clear hM M
    obtain ⟨w', x, xs, rfl⟩ : ∃ w' x xs, d = .tup (.str w' :: x :: xs) := form_cons hf
    have hx : leaf3 x := qpl_leaf hq x (by simp)
    have e0 : wq ws oc r (.tup (.str w' :: x :: xs)) = wqI oc (match r with | 0 => fun _ => none | r + 1 => wq ws oc r) (.tup (.str w' :: x :: xs)) := by cases r <;> (simp only [wq]; rw [if_pos hf])
    rw [e0] at h
    simp only [wqI] at h
    refine seq_cut fun M hM => ?_
    walk_at "wp"
    refine ⟨fun q => ?_, fun q => ?_⟩
    · rw [if_pos q] at h
      refine ⟨x, oc, rfl, hx, ?_⟩
      rw [blw_eq]
      cases hb : blwQ oc x with
      | true =>
        rw [hb] at h
        walk_at "wp"
        exact ret_same h
      | false =>
        rw [hb] at h
        walk_at "wp"
        exact ⟨by decide, ret_same h⟩
    rw [if_neg q] at h
    have r0 : r ≠ 0 := by
      rintro rfl
      simp only [qForm] at hf
      rw [if_neg q] at hf
      split at hf
      · cases xs <;> simp at hf
      · cases hf
    obtain ⟨r, rfl⟩ : ∃ m, r = m + 1 := ⟨r - 1, by omega⟩
    rw [hM]; clear hM M
    refine seq_cut fun M hM => ?_
    walk_at "wp"
    refine ⟨x, 100, rfl, hx, ?_⟩
    rw [blw_eq]
    cases hb : blwQ 100 x with
    | false =>
      rw [hb] at h
      walk_at "wp"
      exact ⟨by decide, ret_same h⟩
    | true =>
      rw [hb, if_pos rfl] at h
      simp only at h
      walk_at "wp"
      rw [hM]; clear hM M
      refine seq_cut fun M hM => ?_
      walk_at "wp"
      refine ⟨_, rfl, _, rfl, ?_⟩
      rw [List.drop_succ_cons, List.drop_succ_cons, List.drop_zero]
      refine ⟨fun i δ' μ' => μ' = μ ∧ fstQ (wq ws oc r) (2 + i) (xs.drop i) = fstQ (wq ws oc r) 2 xs ∧ ∃ x4 x5 x6 : Option D, δ' = [some (.tup (.str w' :: x :: xs)), some (.tup (ws.map .int)), some (.int (oc : Int)), some (.int (lv : Int)), x4, x5, x6], ⟨rfl, by rw [List.drop_zero], none, none, none, rfl⟩, ?_, ?_⟩
      · rintro i d δ' μ' hi ⟨rfl, hp, x4, x5, x6, rfl⟩
        have hil : i < xs.length := by have := (List.getElem?_eq_some_iff.mp hi).1; rw [List.length_map, List.length_range] at this; exact this
        rw [List.getElem?_map, List.getElem?_range hil] at hi
        cases hi
        have hz : xs[i]? = some xs[i] := List.getElem?_eq_getElem hil
        have hpz := hq.2 w' _ rfl xs[i] (List.mem_cons_of_mem _ (List.getElem_mem hil))
        have eg : xs.getD i D.non = xs[i] := by rw [List.getD_eq_getElem?_getD, hz]; rfl
        refine ⟨_, rfl, rfl, _, _, rfl, _, _, rfl, rfl, ?_⟩
        rw [eg]
        walk_at "wps"
        refine ⟨ws, oc, lv + 1, r, xs[i], rfl, hw, by omega, by omega, hpz, ?_⟩
        rcases fstQ_step hz hp with ⟨p, h1, h2⟩ | ⟨h1, h2⟩
        · rw [h1]
          rw [h2] at h
          have hk := (wq_ok hpz h1).1
          simp only [pd]
          walk_at "wps"
          refine ⟨by decide, by omega, ret_same ?_⟩
          rw [show (2 : Int) + (i : Int) = ((2 + i : Nat) : Int) by omega]
          exact h
        · rw [h1]
          simp only [pd]
          walk_at "wps"
          exact ⟨h2, _, _, _, rfl⟩
      · rintro δ' μ' ⟨rfl, hp, x4, x5, x6, rfl⟩
        rw [hM]; clear hM M
        rw [List.length_range, List.drop_length] at hp
        rw [← hp] at h
        walk_at "wps"
        exact ret_same h
end
section
variable {P : Program} {w : World} {K : Fg} {mg : Str → Option Value} {base : Heap}
section
variable {P : Program} {w : World} {K : Fg} {mg : Str → Option Value} {base : Heap}
theorem okN_wrong_query (T : Txt P w K mg) : ∀ n, FnOk P w K mg base (L2N.CX P w) (4 + n) T.f_wrong_query T.d_wrong_query ["term", "widths", "outcomes", "level"] (spOf K (c_wrong_query n))
  | 0 => fn_never fun ds μ Φ Ψ h => by obtain ⟨_, _, _, _, _, _, _, _, h, _⟩ := h; omega
  | n + 1 => step_wrong_query T (k := 4 + n) (by omega) n (okN_wrong_query T n)
theorem ok_wrong_query (T : Txt P w K mg) : FnOk P w K mg base (L2N.CX P w) 30 T.f_wrong_query T.d_wrong_query ["term", "widths", "outcomes", "level"] (spOf K (c_wrong_query 21)) := (okN_wrong_query T 21).mono (by decide)
theorem okN_places_of (T : Txt P w K mg) : ∀ n, FnOk P w K mg base (L2N.CX P w) (4 + n) T.f_places_of T.d_places_of ["term"] (spOf K (c_places_of n))
  | 0 => fn_never fun ds μ Φ Ψ h => by obtain ⟨_, _, _, _, _, h, _⟩ := h; omega
  | n + 1 => step_places_of T (k := 4 + n) (by omega) n (okN_places_of T n)
theorem ok_places_of (T : Txt P w K mg) : FnOk P w K mg base (L2N.CX P w) 30 T.f_places_of T.d_places_of ["term"] (spOf K (c_places_of 21)) := (okN_places_of T 21).mono (by decide)
end
def few (ws : List Int) (t : QT) : Prop := (qPl t).length ≤ 300 ∧ wpr ws (qMs (qPl t)) ≤ 256
instance (ws : List Int) (t : QT) : Decidable (few ws t) := inferInstanceAs (Decidable (_ ∧ _))
/-- a right term of a query, of a size that can be looked at -/
structure QSz (ws : List Int) (oc : Nat) (t : QT) : Prop where
  ok : QOk ws oc t
  dep : qDep t ≤ 20
  len : (qPl t).length ≤ 5000
  ms : (qMs (qPl t)).length ≤ 60
def c_Query___init__ (C Q O L : Addr) : Con := fun ds μ Φ Ψ => ∃ (x : Addr) (ws : List Int) (oc : Int) (d : D), ds = [.hd (.ref x), d, .tup (ws.map .int), .int oc] ∧ ws.length ≤ 1000 ∧ qpl 20 d ∧ μ x = some (.ins C [] []) ∧
  (¬ (WsB ws ∧ 1 ≤ oc ∧ oc ≤ 4) → Ψ (.mk O none) μ) ∧
  (WsB ws → 1 ≤ oc → oc ≤ 4 → ∀ p, wq ws oc.toNat 20 d = some p → Ψ (.mk Q (some (["path"], [.tup (p.map .int)]))) μ) ∧
  (WsB ws → 1 ≤ oc → oc ≤ 4 → wq ws oc.toNat 20 d = none → ∃ t, d = qD t ∧ QSz ws oc.toNat t ∧ (few ws t → Φ .non (sset μ x (.ins C NS_Query [d, .tup (ws.map .int), .int oc]))) ∧ (¬ few ws t → Ψ (.mk L none) μ))
theorem len_Query___init__ {C Q O L ds μ Φ Ψ} (h : c_Query___init__ C Q O L ds μ Φ Ψ) : ds.length = 4 := by obtain ⟨_, _, _, _, rfl, _⟩ := h; rfl
theorem ok_Query___init__ (T : Txt P w K mg) : FnOk P w K mg base (L2N.CX P w) 32 T.f_Query___init__ T.d_Query___init__ ["self", "term", "widths", "outcomes"] (spOf K (c_Query___init__ T.c_Query T.c_InvalidQuery T.c_OutOfRange T.c_TooLarge)) := by
  refine def_okC T.F_Query___init__ sc_Query___init__ _ (fun ds μ Φ Ψ h => len_Query___init__ h) (fun cdv A outer s H E B hW hr =>
    have tk : L2N.Takes (cxOf (L2N.CX P w) P w K mg base N_Query___init__ "Query.__init__" (defScope s_Query___init__) T.f_Query___init__ cdv A outer s H E) (fun cls d _ H => E cls d H) := L2N.takes_of rfl rfl rfl rfl
    ⟨_, (pss_cons (ps_expr (pe_callS (ok_require_form T) (hr.mono (by decide)) rfl T.g_require_form T.F_require_form.kp T.b_require_form (fun σ => L2N.passAt tk σ) (pa_cons (pv 2) (pa_cons (pv 3) pa_nil))))
      (pss_cons (ps_set (i := 4) sc_Query___init__.nd rfl (Or.inl rfl) (pe_call (ok_wrong_query T) (hr.mono (by decide)) rfl T.g_wrong_query T.F_wrong_query.kp T.b_wrong_query .nil passN (pa_cons (pv 1) (pa_cons (pv 2) (pa_cons (pv 3) (pa_cons pe_int pa_nil))))))
      (pss_cons (ps_if (pt_cmpR op_notN (pv 4) pe_non (nomark _)) (pss_one (L2N.ps_raise rfl tk (pmk_sup T.ox_InvalidQuery T.ic_InvalidQuery T.ti_InvalidQuery T.no_InvalidQuery T.in_InvalidQuery (hr.mono (by decide)) T.bi_InvalidQuery passN rfl T.g_InvalidQuery (pa_cons (pv 4) pa_nil)))) pss_nil)
      (pss_cons (ps_expr (pe_callS (ok_require_few T) (hr.mono (by decide)) rfl T.g_require_few T.F_require_few.kp T.b_require_few (fun σ => L2N.passAt tk σ) (pa_cons (pe_call (ok_places_of T) (hr.mono (by decide)) rfl T.g_places_of T.F_places_of.kp T.b_places_of .nil passN (pa_cons (pv 1) pa_nil)) (pa_cons (pv 2) pa_nil))))
      (pss_cons (ps_fld (pv 0) (pv 1) rfl)
      (pss_cons (ps_fld (pv 0) (pv 2) rfl)
      (pss_one (ps_fld (pv 0) (pv 3) rfl)))))))),
      (sSeq (sDrop (sCallSW (W := fun cls d _ H => E cls d H) (by exact hW) (sCons sVar (sCons sVar sNil))))
      (sSeq (sAsg (sCall (sCons sVar (sCons sVar (sCons sVar (sCons sInt sNil))))) sName)
      (sSeq (sIfS (sTest (sOp roNotN sVar sNon)) (sRaise1 (W := fun cls d _ H => E cls d H) (C := T.c_InvalidQuery) (fld := "path") (by exact hW) okdPath_ok sVar) sNext)
      (sSeq (sDrop (sCallSW (W := fun cls d _ H => E cls d H) (by exact hW) (sCons (sCall (sCons sVar sNil)) (sCons sVar sNil))))
      (sSeq (sSetF T.cls_Query T.na_Query_term sVar sVar)
      (sSeq (sSetF T.cls_Query T.na_Query_widths sVar sVar)
      (sSetF T.cls_Query T.na_Query_outcomes sVar sVar)))))))⟩) (fun ds μ Φ Ψ h => ?hv)
  case hv =>
    obtain ⟨x, ws, oc, d, rfl, hl, hq, hx, h1, h2, h3⟩ := h
    refine seq_cut fun M hM => ?_
    walk_at "wp"
    refine ⟨ws, oc, rfl, hl, fun z => ?_, fun z => ⟨_, Sub.refl, h1 z⟩⟩
    obtain ⟨hb, o1, o4⟩ := z
    have hw := hb.ok
    obtain ⟨n, rfl⟩ : ∃ n : Nat, oc = (n : Int) := ⟨oc.toNat, by omega⟩
    rw [Int.toNat_natCast] at h2 h3
    rw [hM]; clear hM M
    refine seq_cut fun M hM => ?_
    walk_at "wp"
    refine ⟨ws, n, 0, 20, d, rfl, hw, rfl, by decide, hq, ?_⟩
    rw [hM]; clear hM M
    refine seq_cut fun M hM => ?_
    cases e : wq ws n 20 d with
    | some p =>
      have hk := wq_ok hq e
      simp only [pd]
      walk_at "wp"
      refine ⟨⟨p, rfl, fun i hm => ?_, by omega⟩, μ, Sub.refl, h2 hb o1 o4 p e⟩
      have := hk.2 i hm
      exact Nat.lt_of_lt_of_le (PySem.Flt.log2_lt_of (n := i.natAbs) (by decide : 0 < 100) (by omega)) (by decide)
    | none =>
      obtain ⟨t, rfl, sz, hf, hg⟩ := h3 hb o1 o4 e
      simp only [pd]
      walk_at "wp"
      rw [hM]; clear hM M
      refine seq_cut fun M hM => ?_
      walk_at "wp"
      refine ⟨ws, n, t, rfl, sz.ok, by have := sz.dep; omega, sz.len, ws, qPl t, rfl, hw, sz.len, sz.ms, QOk.pl t sz.ok, fun w1 w2 => ?_, fun w => ⟨_, Sub.refl, hg w⟩⟩
      rw [hM]; clear hM M
      walk_at "wps"
      refine ⟨_, _, _, rfl, hx, by decide, by decide, _, _, _, rfl, sset_same, by decide, by decide, _, _, _, rfl, sset_same, by decide, by decide, ?_⟩
      rw [sset_sset, sset_sset]
      exact ret_same (hf ⟨w1, w2⟩)
theorem ent_nn {r : Rw} (h : RwOk r) (i : Nat) : 0 ≤ ent r i := by
  unfold ent
  split
  · rename_i q
    rw [List.getD_eq_getElem?_getD, List.getElem?_eq_getElem q]
    exact h.hp _ (List.getElem_mem q)
  · have hc : 0 < r.c.length := List.length_pos_iff.mpr h.c0
    unfold cyc
    have q := Nat.mod_lt (i - r.h.length) hc
    rw [List.getD_eq_getElem?_getD, List.getElem?_eq_getElem q]
    exact h.cp _ (List.getElem_mem q)
theorem nI_app (a b : List Nat) : nI (a ++ b) = nI a ++ nI b := by unfold nI; rw [List.map_append]
def c_followed (C R O : Addr) : Con := fun ds μ Φ Ψ => ∃ (ws : List Int) (oc : Nat) (t : QT) (r : Rw), ds = [qO C t ws oc, rwO R r] ∧ WsOk ws ∧ QOk ws oc t ∧ qDep t ≤ 30 ∧ RwOk r ∧
  (∀ q, qFol ws (ent r) t = some q → Φ (.tup [.tup (nI q.1), .int (q.2 : Int)]) μ) ∧ (qFol ws (ent r) t = none → Ψ (.mk O none) μ)
theorem len_followed {C R O ds μ Φ Ψ} (h : c_followed C R O ds μ Φ Ψ) : ds.length = 2 := by obtain ⟨i, _, _, _, rfl, _⟩ := h; rfl
theorem ok_followed (T : Txt P w K mg) : FnOk P w K mg base (L2N.CX P w) 4 T.f_followed T.d_followed ["query", "row"] (spOf K (c_followed T.c_Query T.c_Row T.c_OutOfRange)) := by
  refine def_okC T.F_followed sc_followed _ (fun ds μ Φ Ψ h => len_followed h) (fun cdv A outer s H E B hW hr =>
    have tk : L2N.Takes (cxOf (L2N.CX P w) P w K mg base N_followed "followed" (defScope s_followed) T.f_followed cdv A outer s H E) (fun cls d _ H => E cls d H) := L2N.takes_of rfl rfl rfl rfl
    ⟨_, (pss_cons (ps_set (i := 2) sc_followed.nd rfl (Or.inl rfl) (pe_tupN pa_nil))
      (pss_cons (ps_set (i := 3) sc_followed.nd rfl (Or.inl rfl) (pe_fld (pv 0) rfl))
      (pss_cons (ps_while (passes_of rfl) (pt_cmpR op_eq (pe_ix ix_tup (pv 3) pe_int (fun _ _ => rfl)) pe_str (nomark _)) (pss_cons (ps_set (i := 4) sc_followed.nd rfl (Or.inl rfl) (pe_getX T.me_Row___getitem__ T.fn_Row___getitem__ (ok_Row___getitem__ T) (hr.mono (by decide)) T.b_Row___getitem__ (fun σ => L2N.passAt tk σ) (pv 1) (pe_ix ix_tup (pv 3) pe_int (fun _ _ => rfl)) (fun _ _ => rfl)))
      (pss_cons (ps_if (pt_not (pt_val (pe_call (ok_is_below T) (hr.mono (by decide)) rfl T.g_is_below T.F_is_below.kp T.b_is_below .nil passN (pa_cons (pv 4) (pa_cons (pe_call (ok_width_at T) (hr.mono (by decide)) rfl T.g_width_at T.F_width_at.kp T.b_width_at .nil passN (pa_cons (pe_fld (pv 0) rfl) (pa_cons (pe_ix ix_tup (pv 3) pe_int (fun _ _ => rfl)) pa_nil))) pa_nil))))) (pss_one (L2N.ps_raise rfl tk (L2N.pmk_own PySem.F.excBase_ValueError T.x_OutOfRange T.g_OutOfRange T.k_OutOfRange (raises_own T.e_OutOfRange T.t_OutOfRange) rfl))) pss_nil)
      (pss_cons (ps_set (i := 2) sc_followed.nd rfl (Or.inl rfl) (pe_op op_catN (pv 2) (pe_tupN (pa_cons (pe_ix ix_tup (pv 3) pe_int (fun _ _ => rfl)) pa_nil))))
      (pss_one (ps_set (i := 3) sc_followed.nd rfl (Or.inl rfl) (pe_ix ix_tup (pv 3) (pe_op op_add (pe_glob (v := .int 2) rfl T.g_ITEMS_BEFORE.choose_spec ⟨_, rfl⟩) (pv 4)) (fun _ _ => rfl))))))))
      (pss_one (ps_ret (pe_tupN (pa_cons (pv 2) (pa_cons (pe_ix ix_tup (pv 3) pe_int (fun _ _ => rfl)) pa_nil)))))))),
      (sSeq (sAsg (sTup sNil) sName)
      (sSeq (sAsg (sFldO (NS := NS_Query) (i := 0) T.cls_Query T.na_Query_term rfl (by decide) sVar) sName)
      (sSeq (sWhile (sTest (sOp roEq (sOp roIxT sVar sInt) sStr)) (sSeq (sAsg (sGetX (NS := NS_Row) (W := fun cls d _ H => E cls d H) (by exact hW) sVar (sOp roIxT sVar sInt)) sName)
      (sSeq (sIfS (sNot (sB (sCall (sCons sVar (sCons (sCall (sCons (sFldO (NS := NS_Query) (i := 1) T.cls_Query T.na_Query_widths rfl (by decide) sVar) (sCons (sOp roIxT sVar sInt) sNil))) sNil))))) (sRaise0W (W := fun cls d _ H => E cls d H) (C := T.c_OutOfRange) (by exact hW)) sNext)
      (sSeq (sAsg (sOp roCatT sVar (sTup (sCons (sOp roIxT sVar sInt) sNil))) sName)
      (sAsg (sOp roIxT sVar (sOp roInt0 sInt sVar)) sName)))))
      (sRet (sTup (sCons sVar (sCons (sOp roIxT sVar sInt) sNil)))))))⟩) (fun ds μ Φ Ψ h => ?hv)
  case hv =>
    obtain ⟨ws, oc, t, r, rfl, hw, hok, hdp, hr, h1, h2⟩ := h
    have e1 : qO T.c_Query t ws oc = D.obj T.c_Query NS_Query [qD t, .tup (ws.map .int), .int (oc : Int)] := rfl
    refine seq_cut fun M hM => ?_
    walk_at "wp"
    refine ⟨by omega, ?_⟩
    rw [hM]; clear hM M
    refine seq_cut fun M hM => ?_
    rw [e1]
    walk_at "wp"
    rw [hM]; clear hM M
    refine seq_cut fun M hM => ?_
    walk_at "wp"
    refine ⟨fun m δ μ' => μ' = μ ∧ ∃ (s : QT) (pl : List Nat) (x : Option D), δ = [some (.obj T.c_Query NS_Query [qD t, .tup (ws.map .int), .int (oc : Int)]), some (rwO T.c_Row r), some (.tup (nI pl)), some (qD s), x] ∧ QOk ws oc s ∧ qFol ws (ent r) t = (qFol ws (ent r) s).map (fun q => (pl ++ q.1, q.2)) ∧ qDep s ≤ m ∧ pl.length + qDep s ≤ 30, ⟨qDep t, rfl, t, [], none, rfl, hok, by cases qFol ws (ent r) t <;> rfl, Nat.le_refl _, by simp; omega⟩, ?_⟩
    rintro m δ μ' ⟨rfl, s, pl, x, rfl, hs, ha, hm, hb⟩
    cases s with
    | tell o =>
      have := h1 (pl, o) (by rw [ha, qFol]; simp)
      rw [qD]
      walk_at "wp"
      rw [hM]
      walk_at "wp"
      exact ⟨fun z => absurd z (by decide), fun _ => ⟨by omega, ret_same this⟩⟩
    | look p ts =>
      obtain ⟨hp, hlen, hts⟩ := hs
      rw [qoks_iff] at hts
      rw [qDep] at hm hb
      have hw1 := hw.wd1 p
      have hn := ent_nn hr p
      rw [qD]
      walk_at "wp"
      refine ⟨?_, fun z => absurd trivial z⟩
      refine seq_cut fun N hN => ?_
      walk_at "wp"
      refine ⟨_, rfl, r, (p : Int), rfl, hr, fun z => absurd z (by omega), fun q hq => ?_⟩
      obtain rfl : p = q := Int.ofNat.inj hq
      rw [hN]; clear hN N
      refine seq_cut fun N hN => ?_
      walk_at "wp"
      refine ⟨ws, p, rfl, hw, ?_⟩
      simp only [w_is_below]
      walk_at "wp"
      by_cases hlt : ent r p < (wd ws p : Int)
      case neg =>
        rw [decide_eq_false (fun z => hlt z.2)]
        walk_at "wp"
        exact ⟨_, Sub.refl, h2 (by rw [ha, qFol_no hlt]; rfl)⟩
      rw [decide_eq_true ⟨hn, hlt⟩]
      walk_at "wp"
      rw [hN]; clear hN N
      walk_at "wps"
      obtain ⟨e, he⟩ : ∃ e : Nat, ent r p = (e : Int) := ⟨(ent r p).toNat, by omega⟩
      have hel : e < ts.length := by omega
      have hge : ts[(ent r p).toNat]? = some ts[e] := by rw [he, Int.toNat_natCast]; exact List.getElem?_eq_getElem hel
      have hd := qdeps_le (List.getElem_mem hel)
      rw [he]
      refine ⟨by decide, by rw [nI_len]; omega, qD ts[e], ?_, qDep.qDeps ts, by omega, ts[e], pl ++ [p], some (.int (e : Int)), ?_, hts _ (List.getElem_mem hel), ?_, hd, by rw [List.length_append, List.length_singleton]; omega⟩
      · rw [show (2 : Int) + (e : Int) = ((e + 1 + 1 : Nat) : Int) by omega]
        exact atI_nat (by rw [List.getElem?_cons_succ, List.getElem?_cons_succ, qDs_map, List.getElem?_map, List.getElem?_eq_getElem hel]; rfl)
      · rw [nI_app]; rfl
      · rw [ha, qFol_look hlt hge]
        cases qFol ws (ent r) ts[e] with
        | none => rfl
        | some q => simp
def c_looked_places (C R O : Addr) : Con := fun ds μ Φ Ψ => ∃ (ws : List Int) (oc : Nat) (t : QT) (r : Rw), ds = [qO C t ws oc, rwO R r] ∧ WsOk ws ∧ QOk ws oc t ∧ qDep t ≤ 30 ∧ RwOk r ∧
  (∀ q, qFol ws (ent r) t = some q → Φ (.tup (nI q.1)) μ) ∧ (qFol ws (ent r) t = none → Ψ (.mk O none) μ)
theorem len_looked_places {C R O ds μ Φ Ψ} (h : c_looked_places C R O ds μ Φ Ψ) : ds.length = 2 := by obtain ⟨i, _, _, _, rfl, _⟩ := h; rfl
theorem ok_looked_places (T : Txt P w K mg) : FnOk P w K mg base (L2N.CX P w) 5 T.f_looked_places T.d_looked_places ["query", "row"] (spOf K (c_looked_places T.c_Query T.c_Row T.c_OutOfRange)) := by
  refine def_okC T.F_looked_places sc_looked_places _ (fun ds μ Φ Ψ h => len_looked_places h) (fun cdv A outer s H E B hW hr =>
    have tk : L2N.Takes (cxOf (L2N.CX P w) P w K mg base N_looked_places "looked_places" (defScope s_looked_places) T.f_looked_places cdv A outer s H E) (fun cls d _ H => E cls d H) := L2N.takes_of rfl rfl rfl rfl
    ⟨_, (pss_one (ps_ret (pe_ix ix_tup (pe_callS (ok_followed T) hr rfl T.g_followed T.F_followed.kp T.b_followed (fun σ => L2N.passAt tk σ) (pa_cons (pv 0) (pa_cons (pv 1) pa_nil))) pe_int (fun _ _ => rfl)))),
      (sRet (sOp roIxT (sCallSW (W := fun cls d _ H => E cls d H) (by exact hW) (sCons sVar (sCons sVar sNil))) sInt))⟩) (fun ds μ Φ Ψ h => ?hv)
  case hv =>
    obtain ⟨ws, oc, t, r, rfl, hw, hok, hdp, hr, h1, h2⟩ := h
    walk_at "wps"
    refine ⟨ws, oc, t, r, rfl, hw, hok, hdp, hr, fun q hq => ?_, fun hq => ⟨_, Sub.refl, h2 hq⟩⟩
    walk_at "wps"
    exact ret_same (h1 q hq)
def c_Query___call__ (C R O : Addr) : Con := fun ds μ Φ Ψ => ∃ (ws : List Int) (oc : Nat) (t : QT) (r : Rw), ds = [qO C t ws oc, rwO R r] ∧ WsOk ws ∧ QOk ws oc t ∧ qDep t ≤ 30 ∧ RwOk r ∧
  (∀ q, qFol ws (ent r) t = some q → Φ (.int (q.2 : Int)) μ) ∧ (qFol ws (ent r) t = none → Ψ (.mk O none) μ)
theorem len_Query___call__ {C R O ds μ Φ Ψ} (h : c_Query___call__ C R O ds μ Φ Ψ) : ds.length = 2 := by obtain ⟨i, _, _, _, rfl, _⟩ := h; rfl
theorem ok_Query___call__ (T : Txt P w K mg) : FnOk P w K mg base (L2N.CX P w) 5 T.f_Query___call__ T.d_Query___call__ ["self", "row"] (spOf K (c_Query___call__ T.c_Query T.c_Row T.c_OutOfRange)) := by
  refine def_okC T.F_Query___call__ sc_Query___call__ _ (fun ds μ Φ Ψ h => len_Query___call__ h) (fun cdv A outer s H E B hW hr =>
    have tk : L2N.Takes (cxOf (L2N.CX P w) P w K mg base N_Query___call__ "Query.__call__" (defScope s_Query___call__) T.f_Query___call__ cdv A outer s H E) (fun cls d _ H => E cls d H) := L2N.takes_of rfl rfl rfl rfl
    ⟨_, (pss_one (ps_ret (pe_ix ix_tup (pe_callS (ok_followed T) hr rfl T.g_followed T.F_followed.kp T.b_followed (fun σ => L2N.passAt tk σ) (pa_cons (pv 0) (pa_cons (pv 1) pa_nil))) pe_int (fun _ _ => rfl)))),
      (sRet (sOp roIxT (sCallSW (W := fun cls d _ H => E cls d H) (by exact hW) (sCons sVar (sCons sVar sNil))) sInt))⟩) (fun ds μ Φ Ψ h => ?hv)
  case hv =>
    obtain ⟨ws, oc, t, r, rfl, hw, hok, hdp, hr, h1, h2⟩ := h
    walk_at "wps"
    refine ⟨ws, oc, t, r, rfl, hw, hok, hdp, hr, fun q hq => ?_, fun hq => ⟨_, Sub.refl, h2 hq⟩⟩
    walk_at "wps"
    exact ret_same (h1 q hq)
end
section
variable {P : Program} {w : World} {K : Fg} {mg : Str → Option Value} {base : Heap}
theorem fdp_of {k : Nat} {d : D} (h : Tm k d) : ∀ {j : Nat}, k ≤ j → fdp j d = none := by
  induction h with
  | word => intro j _; cases j <;> simp [fdp]
  | num => intro j _; cases j <;> simp [fdp]
  | @tup k l hx ih =>
    intro j hj
    obtain ⟨j', rfl⟩ : ∃ j', j = j' + 1 := ⟨j - 1, by omega⟩
    rw [fdp]
    exact fdpl_none fun x hx2 => ih x hx2 (by omega)
/-- the term of a whole query -/
def qryT (oc : Int) (ws : D) (d : D) : D := .tup [.str (Str.ofString "query"), .int oc, ws, d]
theorem qry_l : TL.tl (Str.ofString "query") = [113, 117, 101, 114, 121] := by decide +kernel
theorem tm_num {k : Nat} {i : Int} (h0 : 0 ≤ i) (h1 : i < 100000) : Tm k (.int i) ∧ (txt (.int i)).length ≤ 9 := ⟨.num h0 (by omega), by rw [txt]; exact num_len h0 (by omega)⟩
theorem ws_tm {ws : List Int} (h : WsOk ws) : Tm 1 (.tup (ws.map .int)) ∧ (txt (.tup (ws.map .int))).length ≤ 62 := by
  have hl := h.l1
  refine ⟨.tup fun d hd => ?_, ?_⟩
  · obtain ⟨x, hx, rfl⟩ := List.mem_map.mp hd
    have := h.w x hx
    exact (tm_num (by omega) (by omega)).1
  · have := txts_le (B := 9) (l := ws.map D.int) fun d hd => by
      obtain ⟨x, hx, rfl⟩ := List.mem_map.mp hd
      have := h.w x hx
      exact (tm_num (k := 0) (by omega) (by omega)).2
    rw [List.length_map] at this
    rw [txt]; simp only [List.length_cons, List.length_append, List.length_nil]; omega
theorem qryT_tm {oc : Int} {ws d : D} {j : Nat} (o0 : 0 ≤ oc) (o1 : oc < 100000) (hw : Tm j ws) (h : Tm j d) : Tm (j + 1) (qryT oc ws d) ∧ (txt (qryT oc ws d)).length ≤ (txt ws).length + (txt d).length + 30 := by
  have hc : Tm j (.str (Str.ofString "query")) := .word (by rw [qry_l]; decide) (by rw [qry_l]; decide) (by rw [qry_l]; decide)
  refine ⟨.tup fun x hx => ?_, ?_⟩
  · simp only [List.mem_cons, List.not_mem_nil, or_false] at hx
    rcases hx with rfl | rfl | rfl | rfl
    · exact hc
    · exact (tm_num o0 o1).1
    · exact hw
    · exact h
  · have h2 := (tm_num (k := 0) o0 o1).2
    have h4 : (txt (.str (Str.ofString "query"))).length = 5 := by rw [txt, qry_l]; rfl
    unfold qryT
    rw [txt, txts, txtr, txtr, txtr, txtr]
    simp only [List.length_cons, List.length_append, List.length_nil]
    omega
def c_Query_text (C : Addr) : Con := fun ds μ Φ _ => ∃ (ws : List Int) (oc : Nat) (t : QT), ds = [qO C t ws oc] ∧ WsOk ws ∧ oc < 100000 ∧ Tm 28 (qD t) ∧ (txt (qD t)).length ≤ 89000 ∧ Φ (.str (S (txt (qryT oc (.tup (ws.map .int)) (qD t))))) μ
theorem len_Query_text {C ds μ Φ Ψ} (h : c_Query_text C ds μ Φ Ψ) : ds.length = 1 := by obtain ⟨_, _, _, rfl, _⟩ := h; rfl
theorem ok_Query_text (T : Txt P w K mg) : FnOk P w K mg base (L2N.CX P w) 42 T.f_Query_text T.d_Query_text ["self"] (spOf K (c_Query_text T.c_Query)) := by
  refine def_okC T.F_Query_text sc_Query_text _ (fun ds μ Φ Ψ h => len_Query_text h) (fun cdv A outer s H E B hW hr =>
    have tk : L2N.Takes (cxOf (L2N.CX P w) P w K mg base N_Query_text "Query.text" (defScope s_Query_text) T.f_Query_text cdv A outer s H E) (fun cls d _ H => E cls d H) := L2N.takes_of rfl rfl rfl rfl
    ⟨_, (pss_one (ps_ret (pe_callS (ok_write_term T) hr rfl T.g_write_term T.F_write_term.kp T.b_write_term (fun σ => L2N.passAt tk σ) (pa_cons (pe_tupN (pa_cons pe_str (pa_cons (pe_fld (pv 0) rfl) (pa_cons (pe_fld (pv 0) rfl) (pa_cons (pe_fld (pv 0) rfl) pa_nil))))) pa_nil)))),
      (sRet (sCallSW (W := fun cls d _ H => E cls d H) (by exact hW) (sCons (sTup (sCons sStr (sCons (sFldO (NS := NS_Query) (i := 2) T.cls_Query T.na_Query_outcomes rfl (by decide) sVar) (sCons (sFldO (NS := NS_Query) (i := 1) T.cls_Query T.na_Query_widths rfl (by decide) sVar) (sCons (sFldO (NS := NS_Query) (i := 0) T.cls_Query T.na_Query_term rfl (by decide) sVar) sNil))))) sNil)))⟩) (fun ds μ Φ Ψ h => ?hv)
  case hv =>
    obtain ⟨ws, oc, t, rfl, hw, o1, ht, hl, h⟩ := h
    have hwt := ws_tm hw
    obtain ⟨t1, t2⟩ := qryT_tm (oc := oc) (by omega) (by omega) (hwt.1.mono (show 1 ≤ 28 by decide)) ht
    unfold qO
    walk_at "wps"
    exact ⟨by decide, 29, _, by decide, rfl, t1, by unfold qryT at t2; omega, fun _ => ret_same h, fun p hp => by have := fdp_of t1 (j := 30) (by decide); unfold qryT at this; rw [this] at hp; cases hp⟩
theorem td_tm {k : Nat} {d : D} (h : Tm k d) : TD d := by
  cases h with
  | word h0 h1 => exact .str _ (by omega)
  | num => exact .int _
  | tup => exact .tup _
def hdOk : D → Bool
  | .tup [.str s, .int _, _, _] => decide (s = Str.ofString "query")
  | _ => false
def isH : D → Bool
  | .str s => decide (s = Str.ofString "query")
  | _ => false
theorem isH_eq {a : D} (h : isH a = true) : a = .str (Str.ofString "query") := by
  unfold isH at h
  split at h
  · rw [of_decide_eq_true h]
  · cases h
/-- no tuple at its head -/
def hdPl : D → Bool
  | .tup (.tup _ :: _) => false
  | _ => true
theorem ok_nil : okdPath (.tup []) := ⟨[], rfl, by simp, by decide⟩
def c_read_headed (X E : Addr) : Con := fun ds μ Φ Ψ => ∃ t : Str, ds = [.str t, .str (Str.ofString "query"), .int 4, .int 1] ∧ (TL.tl t).length ≤ 100000 ∧ (∀ x, Rd 1 (TL.tl t) x [] → hdPl x = true) ∧ (∀ x, Rd 1 (TL.tl t) x [] → hdOk x = true → Φ x μ) ∧ (∀ x, Rd 1 (TL.tl t) x [] → hdOk x = false → Ψ (.mk E (some (["path"], [.tup []]))) μ) ∧ (∀ b, b ≤ (TL.tl t).length → BadT (TL.tl t) b → Ψ (.mk X (some (["position"], [.int b]))) μ)
theorem len_read_headed {X E ds μ Φ Ψ} (h : c_read_headed X E ds μ Φ Ψ) : ds.length = 4 := by obtain ⟨_, rfl, _⟩ := h; rfl
theorem ok_read_headed (T : Txt P w K mg) : FnOk P w K mg base (L2N.CX P w) 72 T.f_read_headed T.d_read_headed ["text", "head", "many", "numbers"] (spOf K (c_read_headed T.c_InvalidText T.c_InvalidTerm)) := by
  refine def_okC T.F_read_headed sc_read_headed _ (fun ds μ Φ Ψ h => len_read_headed h) (fun cdv A outer s H E B hW hr =>
    have tk : L2N.Takes (cxOf (L2N.CX P w) P w K mg base N_read_headed "read_headed" (defScope s_read_headed) T.f_read_headed cdv A outer s H E) (fun cls d _ H => E cls d H) := L2N.takes_of rfl rfl rfl rfl
    ⟨_, (pss_cons (ps_set (i := 4) sc_read_headed.nd rfl (Or.inl rfl) (pe_callS (ok_read_term T) hr rfl T.g_read_term T.F_read_term.kp T.b_read_term (fun σ => L2N.passAt tk σ) (pa_cons (pv 0) pa_nil)))
      (pss_cons (ps_if (PW.pt (pw_or (pt_not (pt_val (pe_callB call_isi (by rfl) T.z_isinstance (by decide +kernel) (pa_cons (pv 4) (pa_cons (pe_bltn (v := .ty "tuple") rfl T.z_tuple (by decide +kernel) rfl) pa_nil))))) (pw_or (pt_cmpR op_ne (pe_callB call_len_seq (by rfl) T.z_len PySem.boot_len (pa_cons (pv 4) pa_nil)) (pv 2) (nomark _)) (pw_or1 (pt_cmpR op_ne (pe_ix ix_tup (pv 4) pe_int (fun _ _ => rfl)) (pv 1) (nomark _)))))) (pss_one (L2N.ps_raise rfl tk (pmk_sup T.ox_InvalidTerm T.ic_InvalidTerm T.ti_InvalidTerm T.no_InvalidTerm T.in_InvalidTerm (hr.mono (by decide)) T.bi_InvalidTerm passN rfl T.g_InvalidTerm (pa_cons (pe_tupN pa_nil) pa_nil)))) pss_nil)
      (pss_cons (ps_for (passes_of rfl) rfl (pi_tup (pe_slice sl_tupN (pv 4) (po_some pe_int) (po_some (pe_op op_add (pv 3) pe_int)))) (pg_name (i := 5) sc_read_headed.nd rfl (Or.inl rfl)) (pss_one (ps_if (pt_not (pt_val (pe_call (ok_is_number T) (hr.mono (by decide)) rfl T.g_is_number T.F_is_number.kp T.b_is_number .nil passN (pa_cons (pv 5) pa_nil)))) (pss_one (L2N.ps_raise rfl tk (pmk_sup T.ox_InvalidTerm T.ic_InvalidTerm T.ti_InvalidTerm T.no_InvalidTerm T.in_InvalidTerm (hr.mono (by decide)) T.bi_InvalidTerm passN rfl T.g_InvalidTerm (pa_cons (pe_tupN pa_nil) pa_nil)))) pss_nil)))
      (pss_one (ps_ret (pv 4)))))),
      (sSeq (sAsg (sCallSW (W := fun cls d _ H => E cls d H) (by exact hW) (sCons sVar sNil)) sName)
      (sSeq (sIfS (sOr (sNot (sB (sCB (rcIsi (T := "tuple")) (sCons sVar (sCons sHd sNil))))) (sOr (sTest (sOp roNe (sCB rcLen (sCons sVar sNil)) sVar)) (sTest (sOp roNe (sOp roIxT sVar sInt) sVar)))) (sRaise1 (W := fun cls d _ H => E cls d H) (C := T.c_InvalidTerm) (fld := "path") (by exact hW) okdPath_ok (sTup sNil)) sNext)
      (sSeq (sFor (siT (sSlT sVar (sPart sInt) (sPart (sOp roInt0 sVar sInt)))) (fun _ _ _ => sName) (fun _ _ _ => (sIfS (sNot (sB (sCall (sCons sVar sNil)))) (sRaise1 (W := fun cls d _ H => E cls d H) (C := T.c_InvalidTerm) (fld := "path") (by exact hW) okdPath_ok (sTup sNil)) sNext)))
      (sRet sVar))))⟩) (fun ds μ Φ Ψ h => ?hv)
  case hv =>
    obtain ⟨t, rfl, hl, h0, h1, h2, h3⟩ := h
    refine seq_cut fun M hM => ?_
    walk_at "wp"
    refine ⟨t, rfl, hl, fun x hx => ?_, fun b hb hbad => ⟨_, Sub.refl, h3 b hb hbad⟩⟩
    have ht : Tm 30 x := hx.tm (by decide)
    walk_at "wp"
    rw [hM]; clear hM M
    refine seq_cut fun M hM => ?_
    have bad : hdOk x = false → ∃ μ2, DW.Sub μ2 μ ∧ Ψ (.mk T.c_InvalidTerm (some (["path"], [.tup []]))) μ2 := fun q => ⟨_, Sub.refl, h2 x hx q⟩
    have ok0 := ok_nil
    cases ht with
    | word =>
      walk_at "wp"
      exact ⟨by decide, ok0, bad rfl⟩
    | num =>
      walk_at "wp"
      exact ⟨by decide, ok0, bad rfl⟩
    | @tup k' l hl2 =>
      by_cases h4 : l.length = 4
      case neg =>
        have : hdOk (.tup l) = false := by
          match l, h4 with
          | [], _ => rfl
          | [_], _ => simp [hdOk]
          | [_, _], _ => simp [hdOk]
          | [_, _, _], _ => simp [hdOk]
          | [_, _, _, _], h => exact absurd rfl h
          | _ :: _ :: _ :: _ :: _ :: _, _ => simp [hdOk]
        walk_at "wp"
        refine ⟨fun _ => ⟨by decide, ok0, bad this⟩, fun z => ?_⟩
        simp only [Bool.not_eq_false', decide_eq_true_eq] at z
        omega
      obtain ⟨a, b, c, d, rfl⟩ : ∃ a b c d, l = [a, b, c, d] := by
        match l, h4 with
        | [a, b, c, d], _ => exact ⟨a, b, c, d, rfl⟩
      have hb := td_tm (hl2 b (by simp))
      have hp := h0 _ hx
      have hnx : hdOk (.tup [a, b, c, d]) = (isH a && isI b) := by
        cases hl2 a (by simp) <;> cases hb <;> simp [hdOk, isI, isH]
      by_cases e : isH a = true
      case neg =>
        have bad2 := bad (by rw [hnx, Bool.eq_false_iff.mpr e]; rfl)
        cases hl2 a (by simp) with
        | word =>
          walk_at "wp"
          refine ⟨fun _ => ⟨by decide, ok0, bad2⟩, fun _ => ⟨fun _ => ⟨by decide, ok0, bad2⟩, fun z => ?_⟩⟩
          simp only [Bool.not_eq_false'] at z
          exact absurd z e
        | num =>
          walk_at "wp"
          exact ⟨fun _ => ⟨by decide, ok0, bad2⟩, fun _ => ⟨false, rfl, true, rfl, fun _ => ⟨by decide, ok0, bad2⟩, nofun⟩⟩
        | tup => simp [hdPl] at hp
      have ea := isH_eq e
      subst ea
      walk_at "wp"
      refine ⟨fun z => by simp at z, fun _ => ⟨fun z => by simp at z, fun _ => ?_⟩⟩
      rw [hM]; clear hM M
      refine seq_cut fun M hM => ?_
      walk_at "wp"
      have ec : DW.cutD [D.str (Str.ofString "query"), b, c, d] (some 1) (some (1 + 1)) = [b] := rfl
      rw [ec]
      have hs : isH (D.str (Str.ofString "query")) = true := e
      rw [hs, Bool.true_and] at hnx
      refine ⟨fun i δ' μ' => μ' = μ ∧ (1 ≤ i → isI b = true) ∧ ∃ x5, δ' = [some (D.str t), some (D.str (Str.ofString "query")), some (D.int 4), some (D.int 1), some (D.tup [D.str (Str.ofString "query"), b, c, d]), x5], ⟨rfl, fun z => absurd z (by decide), none, rfl⟩, ?_, ?_⟩
      · rintro i y δ' μ' hi ⟨rfl, i1, x5, rfl⟩
        have hy : TD y := by
          rw [List.mem_singleton.mp (List.mem_of_getElem? hi)]; exact hb
        walk_at "wps"
        refine ⟨y, rfl, hy.leaf, ?_⟩
        have il := (List.getElem?_eq_some_iff.mp hi).1
        simp only [List.length_cons, List.length_nil] at il
        cases hn : isI y with
        | false =>
          walk_at "wps"
          refine ⟨by decide, ok0, bad ?_⟩
          rw [hnx]
          obtain rfl : i = 0 := by omega
          cases hi; rw [hn]
        | true =>
          walk_at "wps"
          refine ⟨fun _ => ?_, _, rfl⟩
          obtain rfl : i = 0 := by omega
          cases hi; exact hn
      · rintro δ' μ' ⟨rfl, i1, x5, rfl⟩
        rw [hM]; clear hM M
        walk_at "wps"
        exact ret_same (h1 _ hx (by rw [hnx, i1 (by simp)]))
def headD : D → Option (Int × D × D)
  | .tup [.str s, .int n, a, d] => if s = Str.ofString "query" then some (n, a, d) else none
  | _ => none
theorem hd_ok {x : D} (h : hdOk x = true) : ∃ n a r, x = .tup [.str (Str.ofString "query"), .int n, a, r] := by
  unfold hdOk at h
  split at h
  · rename_i s n a r
    exact ⟨n, a, r, by rw [of_decide_eq_true h]⟩
  · cases h
theorem hd_none {x : D} (h : hdOk x = false) : headD x = none := by
  unfold headD
  split
  · rename_i s n a row
    simp only [hdOk, decide_eq_false_iff_not] at h
    rw [if_neg h]
  · rfl
/-- reading a text that has the form of a query: only whole queries are asked for, and terms whose widths are no tuple -/
def c_Query_read (C Q O L X E : Addr) : Con := fun ds μ Φ Ψ => ∃ t : Str, ds = [.str t] ∧ (TL.tl t).length ≤ 100000 ∧ (∀ x, Rd 1 (TL.tl t) x [] → hdPl x = true) ∧
  (∀ x, Rd 1 (TL.tl t) x [] → headD x = none → Ψ (.mk E (some (["path"], [.tup []]))) μ) ∧
  (∀ x n a d, Rd 1 (TL.tl t) x [] → headD x = some (n, a, d) → ((∃ i, a = .int i) ∧ Ψ (.mk E (some (["path"], [.tup []]))) μ) ∨
    ∃ (ws : List Int) (oc : Nat) (q : QT), a = .tup (ws.map .int) ∧ n = (oc : Int) ∧ d = qD q ∧ WsOk ws ∧ 1 ≤ oc ∧ oc ≤ 4 ∧ QSz ws oc q ∧ few ws q ∧ Φ (qO C q ws oc) μ) ∧
  (∀ b, b ≤ (TL.tl t).length → BadT (TL.tl t) b → Ψ (.mk X (some (["position"], [.int b]))) μ)
theorem len_Query_read {C Q O L X E ds μ Φ Ψ} (h : c_Query_read C Q O L X E ds μ Φ Ψ) : ds.length = 1 := by obtain ⟨_, rfl, _⟩ := h; rfl
theorem ok_Query_read (T : Txt P w K mg) : FnOk P w K mg base (L2N.CX P w) 74 T.f_Query_read T.d_Query_read ["text"] (spOf K (c_Query_read T.c_Query T.c_InvalidQuery T.c_OutOfRange T.c_TooLarge T.c_InvalidText T.c_InvalidTerm)) := by
  refine def_okC T.F_Query_read sc_Query_read _ (fun ds μ Φ Ψ h => len_Query_read h) (fun cdv A outer s H E B hW hr =>
    have tk : L2N.Takes (cxOf (L2N.CX P w) P w K mg base N_Query_read "Query.read" (defScope s_Query_read) T.f_Query_read cdv A outer s H E) (fun cls d _ H => E cls d H) := L2N.takes_of rfl rfl rfl rfl
    ⟨_, (pss_cons (ps_set (i := 1) sc_Query_read.nd rfl (Or.inl rfl) (pe_callS (ok_read_headed T) (hr.mono (by decide)) rfl T.g_read_headed T.F_read_headed.kp T.b_read_headed (fun σ => L2N.passAt tk σ) (pa_cons (pv 0) (pa_cons pe_str (pa_cons pe_int (pa_cons pe_int pa_nil))))))
      (pss_cons (ps_if (pt_not (pt_val (pe_callB call_isi (by rfl) T.z_isinstance (by decide +kernel) (pa_cons (pe_ix ix_tup (pv 1) pe_int (fun _ _ => rfl)) (pa_cons (pe_bltn (v := .ty "tuple") rfl T.z_tuple (by decide +kernel) rfl) pa_nil))))) (pss_one (L2N.ps_raise rfl tk (pmk_sup T.ox_InvalidTerm T.ic_InvalidTerm T.ti_InvalidTerm T.no_InvalidTerm T.in_InvalidTerm (hr.mono (by decide)) T.bi_InvalidTerm passN rfl T.g_InvalidTerm (pa_cons (pe_tupN pa_nil) pa_nil)))) pss_nil)
      (pss_one (ps_ret (pe_makeS T.mk_Query (ok_Query___init__ T) (hr.mono (by decide)) rfl T.g_Query T.b_Query___init__ (fun σ => L2N.passAt tk σ) (pa_cons (pe_ix ix_tup (pv 1) pe_int (fun _ _ => rfl)) (pa_cons (pe_ix ix_tup (pv 1) pe_int (fun _ _ => rfl)) (pa_cons (pe_ix ix_tup (pv 1) pe_int (fun _ _ => rfl)) pa_nil)))))))),
      (sSeq (sAsg (sCallSW (W := fun cls d _ H => E cls d H) (by exact hW) (sCons sVar (sCons sStr (sCons sInt (sCons sInt sNil))))) sName)
      (sSeq (sIfS (sNot (sB (sCB (rcIsi (T := "tuple")) (sCons (sOp roIxT sVar sInt) (sCons sHd sNil))))) (sRaise1 (W := fun cls d _ H => E cls d H) (C := T.c_InvalidTerm) (fld := "path") (by exact hW) okdPath_ok (sTup sNil)) sNext)
      (sRet (sMakeSW (W := fun cls d _ H => E cls d H) (by exact hW) (sCons (sOp roIxT sVar sInt) (sCons (sOp roIxT sVar sInt) (sCons (sOp roIxT sVar sInt) sNil)))))))⟩) (fun ds μ Φ Ψ h => ?hv)
  case hv =>
    obtain ⟨t, rfl, hl, h0, h1, h2, h3⟩ := h
    refine seq_cut fun M hM => ?_
    walk_at "wp"
    refine ⟨t, rfl, hl, h0, fun x hx hok => ?_, fun x hx hno => ⟨_, Sub.refl, h1 x hx (hd_none hno)⟩, fun b hb hbad => ⟨_, Sub.refl, h3 b hb hbad⟩⟩
    obtain ⟨n, a, r, rfl⟩ := hd_ok hok
    have ok0 := ok_nil
    rw [hM]; clear hM M
    rcases h2 _ n a r hx (by simp [headD]) with ⟨⟨i, rfl⟩, h⟩ | ⟨ws, oc, q, rfl, rfl, rfl, hw, o1, o4, sz, hf, h⟩
    · walk_at "wps"
      exact ⟨by decide, ok0, _, Sub.refl, h⟩
    · walk_at "wps"
      refine fun y hy => ⟨y, ws, oc, qD q, rfl, by have := hw.l1; omega, qpl_q hw sz.ok, sset_same, fun z => absurd ⟨hw.b, by omega, by omega⟩ z, fun _ _ _ p hp => ?_, fun _ _ _ _ => ⟨q, rfl, ?_, fun _ => ⟨rfl, NS_Query, _, sset_same, ?_⟩, fun z => absurd hf z⟩⟩
      · rw [Int.toNat_natCast, wq_none hw sz.ok sz.dep] at hp; cases hp
      · rw [Int.toNat_natCast]; exact sz
      · rw [sset_sset, sdel_sset hy]
        exact ret_same h
end
section
variable {P : Program} {w : World} {K : Fg} {mg : Str → Option Value} {base : Heap}
structure StC_c (ns : List Int) (c : List D) : Prop where
  ex : ∃ seed idx rest : Int, c = [.int seed, .lst (ns.map .int), .int idx, .int rest] ∧ 0 ≤ seed ∧ seed < 2147483647 ∧ 0 ≤ idx ∧ 0 ≤ rest
def c__law_pick : Con := fun ds μ Φ _ => ∃ st ns c n, ds = [.hd (.ref st), .int n] ∧ μ st = some (.lst c) ∧ StC_c ns c ∧ 0 < n ∧ n.natAbs.log2 < 9000 ∧ ∀ r c', 0 ≤ r → r < n → StC_c ns c' → Φ (.int r) (sset μ st (.lst c'))
theorem len__law_pick {ds μ Φ Ψ} (h : c__law_pick ds μ Φ Ψ) : ds.length = 2 := by obtain ⟨i, _, _, _, rfl, _⟩ := h; rfl
theorem pick_cell {ns : List Int} {idx : Int} {P : D → Prop} (h0 : 0 ≤ idx) (h1 : idx < ns.length) (k : ∀ z, P (.int z)) : ∃ d, atI (ns.map D.int) idx = some d ∧ P d := by
  obtain ⟨j, rfl⟩ : ∃ j : Nat, idx = (j : Int) := ⟨idx.toNat, by omega⟩
  have hj : j < ns.length := by omega
  exact ⟨.int ns[j], atI_nat (by rw [List.getElem?_map, List.getElem?_eq_getElem hj]; rfl), k _⟩
theorem ok__law_pick {cx : CXT} (T : Txt P w K mg) : FnOk P w K mg base cx 1 T.f__law_pick T.d__law_pick ["_law_state", "_law_limit"] (spOf K c__law_pick) := by
  refine def_okC T.F__law_pick sc__law_pick _ (fun ds μ Φ Ψ h => len__law_pick h) (fun cdv A outer s H E B hW hr =>
    ⟨_, (pss_cons (ps_if (pt_cmpR op_ge (pe_ix ix_list (pv 0) pe_int (fun _ _ => rfl)) (pv 1) (nomark _)) (pss_cons (ps_set (i := 4) sc__law_pick.nd rfl (Or.inl rfl) (pe_callTy call_int1 (by rfl) T.z_int (by decide +kernel) (pa_cons (pe_ix ix_list (pv 0) pe_int (fun _ _ => rfl)) pa_nil)))
      (pss_cons (ps_asg (pe_op op_fdivW (pv 4) (pv 1)) (pg_sub (pv 0) pe_int set_list))
      (pss_one (ps_ret (pe_op op_mod (pv 4) (pv 1)))))) pss_nil)
      (pss_cons (ps_set (i := 2) sc__law_pick.nd rfl (Or.inl rfl) pe_int)
      (pss_cons (ps_if (pt_cmpR op_lt (pe_ix ix_list (pv 0) pe_int (fun _ _ => rfl)) (pe_callB call_len_seq (by rfl) T.z_len PySem.boot_len (pa_cons (pe_ix ix_list (pv 0) pe_int (fun _ _ => rfl)) pa_nil)) (nomark _)) (pss_cons (ps_set (i := 2) sc__law_pick.nd rfl (Or.inl rfl) (pe_callTy call_int1 (by rfl) T.z_int (by decide +kernel) (pa_cons (pe_ix ix_list (pe_ix ix_list (pv 0) pe_int (fun _ _ => rfl)) (pe_ix ix_list (pv 0) pe_int (fun _ _ => rfl)) (fun _ _ => rfl)) pa_nil)))
      (pss_cons (ps_asg (pe_op op_add (pe_ix ix_list (pv 0) pe_int (fun _ _ => rfl)) pe_int) (pg_sub (pv 0) pe_int set_list))
      (pss_cons (ps_if (pt_cmpR op_lt (pv 2) pe_int (nomark _)) (pss_one (ps_set (i := 2) sc__law_pick.nd rfl (Or.inl rfl) (pe_op op_sub pe_int (pv 2)))) pss_nil)
      (pss_one (ps_if (pt_cmpR op_ge (pv 2) (pe_op op_pow pe_int pe_int) (nomark _)) (pss_cons (ps_asg (pe_op op_fdivW (pv 2) (pv 1)) (pg_sub (pv 0) pe_int set_list))
      (pss_one (ps_ret (pe_op op_mod (pv 2) (pv 1))))) pss_nil))))) pss_nil)
      (pss_cons (ps_set (i := 3) sc__law_pick.nd rfl (Or.inl rfl) (pe_op op_mod (pe_op op_mulX (pe_op op_add (pe_op op_add (pe_callTy call_int1 (by rfl) T.z_int (by decide +kernel) (pa_cons (pe_ix ix_list (pv 0) pe_int (fun _ _ => rfl)) pa_nil)) (pe_op op_mod (pv 2) pe_int)) pe_int) pe_int) pe_int))
      (pss_cons (ps_asg (pe_op op_mod (pe_op op_add (pe_op op_mulX (pv 3) pe_int) pe_int) pe_int) (pg_sub (pv 0) pe_int set_list))
      (pss_one (ps_ret (pe_op op_mod (pe_op op_fdivW (pe_callTy call_int1 (by rfl) T.z_int (by decide +kernel) (pa_cons (pe_ix ix_list (pv 0) pe_int (fun _ _ => rfl)) pa_nil)) pe_int) (pv 1))))))))),
      (sSeq (sIfS (sTest (sOp roBl0 (sOp roIxL sVar sInt) sVar)) (sSeq (sAsg (sCB rcInt (sCons (sOp roIxL sVar sInt) sNil)) sName)
      (sSeq (sAsgS (sOp roInt sVar sVar) sVar sInt)
      (sRet (sOp roInt sVar sVar)))) sNext)
      (sSeq (sAsg sInt sName)
      (sSeq (sIfS (sTest (sOp roBl0 (sOp roIxL sVar sInt) (sCB rcLen (sCons (sOp roIxL sVar sInt) sNil)))) (sSeq (sAsg (sCB rcInt (sCons (sOp roIxL (sOp roIxL sVar sInt) (sOp roIxL sVar sInt)) sNil)) sName)
      (sSeq (sAsgS (sOp roInt0 (sOp roIxL sVar sInt) sInt) sVar sInt)
      (sSeq (sIfS (sTest (sOp roBl0 sVar sInt)) (sAsg (sOp roInt0 sInt sVar) sName) sNext)
      (sIfS (sTest (sOp roBl0 sVar (sOp roInt sInt sInt))) (sSeq (sAsgS (sOp roInt sVar sVar) sVar sInt)
      (sRet (sOp roInt sVar sVar))) sNext)))) sNext)
      (sSeq (sAsg (sOp roInt (sOp roInt (sOp roInt0 (sOp roInt0 (sCB rcInt (sCons (sOp roIxL sVar sInt) sNil)) (sOp roInt sVar sInt)) sInt) sInt) sInt) sName)
      (sSeq (sAsgS (sOp roInt (sOp roInt0 (sOp roInt sVar sInt) sInt) sInt) sVar sInt)
      (sRet (sOp roInt (sOp roInt (sCB rcInt (sCons (sOp roIxL sVar sInt) sNil)) sInt) sVar)))))))⟩) (fun ds μ Φ Ψ h => ?hv)
  case hv =>
    obtain ⟨st, ns, c, n, rfl, hc, ⟨seed, idx, rest, rfl, h1, h2, h3, h4⟩, hn, hl, h⟩ := h
    have hmod : ∀ a : Int, 0 ≤ a % n ∧ a % n < n := fun a => ⟨Int.emod_nonneg _ (by omega), Int.emod_lt_of_pos _ hn⟩
    have hM : ∀ a : Int, 0 ≤ a % 2147483647 ∧ a % 2147483647 < 2147483647 := fun a => ⟨Int.emod_nonneg _ (by omega), Int.emod_lt_of_pos _ (by omega)⟩
    -- what stands at the end, whatever the cell is
    have tail : ∀ (μ' : Sto) (cell idx' : Int) (x4 : Option D), (∀ c', sset μ' st (.lst c') = sset μ st (.lst c')) → μ' st = some (.lst [.int seed, .lst (ns.map .int), .int idx', .int rest]) → 0 ≤ idx' → (dSeq
      (dAsg
        (dOp (oI (fun x j => 0 < j) fun i j => D.int (i % j))
          (dOp (oI CMulX fun i j => D.int (i * j))
            (dOp (oI0 fun i j => D.int (i + j))
              (dOp (oI0 fun i j => D.int (i + j)) (dCB cInt (dCons (dOp oIxL (dVar 0) (dC (D.int 0))) dNil))
                (dOp (oI (fun x j => 0 < j) fun i j => D.int (i % j)) (dVar 2) (dC (D.int 2147483647))))
              (dC (D.int 1)))
            (dC (D.int 48271)))
          (dC (D.int 2147483647)))
        (eName 3))
      (dSeq
        (dAsgS
          (dOp (oI (fun x j => 0 < j) fun i j => D.int (i % j))
            (dOp (oI0 fun i j => D.int (i + j)) (dOp (oI CMulX fun i j => D.int (i * j)) (dVar 3) (dC (D.int 69621)))
              (dC (D.int 12345)))
            (dC (D.int 2147483647)))
          (dVar 0) (dC (D.int 0)))
        (dRet
          (dOp (oI (fun x j => 0 < j) fun i j => D.int (i % j))
            (dOp (oI CDivW fun i j => D.int (i / j)) (dCB cInt (dCons (dOp oIxL (dVar 0) (dC (D.int 0))) dNil))
              (dC (D.int 7)))
            (dVar 1))))) (goalX Ψ) (goalE Φ) [some (.hd (.ref st)), some (.int n), some (.int cell), none, x4] μ' := by
      intro μ' cell idx' x4 hs hc' hi'
      have b1 := hM cell
      have b2 := hM ((seed + cell % 2147483647 + 1) * 48271)
      have b3 := hM ((seed + cell % 2147483647 + 1) * 48271 % 2147483647 * 69621 + 12345)
      clear hM hc
      walk_at "wps"
      simp only [hc']
      walk_at "wp"
      simp only [hc']
      walk_at "wp"
      refine ⟨by decide, mulx 33 17 (by omega) (by decide) (by decide), by decide, mulx 31 18 (by omega) (by decide) (by decide), by decide, wide_div (b := 3) (by decide) (by decide) (by decide) (by decide), hn, ?_⟩
      rw [hs]
      exact ret_same (h _ _ (hmod _).1 (hmod _).2 ⟨_, _, _, rfl, b3.1, b3.2, hi', h4⟩)
    refine q_seq fun nx hnx => ?_
    walk_at "wp"
    simp only [hc]
    walk_at "wp"
    refine ⟨fun c1 => ?_, fun c1 => ?_⟩
    · walk_at "wps"
      simp only [hc]
      walk_at "wp"
      simp only [hc]
      walk_at "wp"
      exact ⟨⟨hn, hl⟩, hn, ret_same (h _ _ (hmod _).1 (hmod _).2 ⟨_, _, _, rfl, h1, h2, h3, Int.ediv_nonneg h4 (by omega)⟩)⟩
    · subst hnx
      refine q_seq fun nx hnx => ?_
      walk_at "wp"
      subst hnx
      refine q_seq fun nx hnx => ?_
      walk_at "wp"
      simp only [hc]
      walk_at "wp"
      refine ⟨fun c2 => ?_, fun c2 => ?_⟩
      · refine q_seq fun nx2 hnx2 => ?_
        walk_at "wp"
        simp only [hc]
        walk_at "wp"
        refine pick_cell h3 c2 fun z => ?_
        walk_at "wp"
        subst hnx2
        refine q_seq fun nx2 hnx2 => ?_
        walk_at "wp"
        simp only [hc]
        walk_at "wp"
        simp only [hc]
        walk_at "wp"
        subst hnx2
        have hc2 : sset μ st (.lst [.int seed, .lst (ns.map .int), .int (idx + 1), .int rest]) st = some (.lst [.int seed, .lst (ns.map .int), .int (idx + 1), .int rest]) := sset_same
        have fin : ∀ z : Int, 0 ≤ z → dIfS (dTest (dOp (oI0 fun i j => D.bl (decide (j ≤ i))) (dVar 2) (dOp (oI CPow fun i j => D.int (i ^ j.toNat)) (dC (D.int 10)) (dC (D.int 18))))) (dSeq (dAsgS (dOp (oI CDivW fun i j => D.int (i / j)) (dVar 2) (dVar 1)) (dVar 0) (dC (D.int 3))) (dRet (dOp (oI (fun x j => 0 < j) fun i j => D.int (i % j)) (dVar 2) (dVar 1)))) dNext
            (goalX Ψ) ⟨nx, (goalE Φ).rt, (goalE Φ).bk, (goalE Φ).ct⟩ [some (.hd (.ref st)), some (.int n), some (.int z), none, none] (sset μ st (.lst [.int seed, .lst (ns.map .int), .int (idx + 1), .int rest])) := by
          intro z hz
          walk_at "wp"
          refine ⟨⟨by decide, by decide, by decide⟩, fun c3 => ?_, fun c3 => ?_⟩
          · walk_at "wps"
            exact ⟨⟨hn, hl⟩, hn, ret_same (h _ _ (hmod _).1 (hmod _).2 ⟨_, _, _, rfl, h1, h2, by omega, Int.ediv_nonneg hz (by omega)⟩)⟩
          · subst hnx
            exact tail _ z (idx + 1) none (fun c' => sset_sset) sset_same (by omega)
        refine q_seq fun nx2 hnx2 => ?_
        walk_at "wp"
        subst hnx2
        refine ⟨fun c3 => ?_, fun c3 => ?_⟩
        · exact fin _ (by omega)
        · exact fin _ (by omega)
      · subst hnx
        exact tail μ 11 idx none (fun _ => rfl) hc h3
def c__law_start : Con := fun ds μ Φ _ => ∃ ns, ds = [.scr ns] ∧ ns.length ≤ 63 ∧ ∀ p c, μ p = none → StC_c ns c → Φ (.hd (.ref p)) (sset μ p (.lst c))
theorem len__law_start {ds μ Φ Ψ} (h : c__law_start ds μ Φ Ψ) : ds.length = 1 := by obtain ⟨i, rfl, _⟩ := h; rfl
theorem ok__law_start {cx : CXT} (T : Txt P w K mg) : FnOk P w K mg base cx 1 T.f__law_start T.d__law_start ["_law_script"] (spOf K c__law_start) := by
  refine def_okC T.F__law_start sc__law_start _ (fun ds μ Φ Ψ h => len__law_start h) (fun cdv A outer s H E B hW hr =>
    ⟨_, (pss_cons (ps_set (i := 1) sc__law_start.nd rfl (Or.inl rfl) pe_int)
      (pss_cons (ps_for (passes_of rfl) rfl (pi_range1 rfl T.z_range (pa_cons (pe_callB call_len_seq (by rfl) T.z_len PySem.boot_len (pa_cons (pv 0) pa_nil)) pa_nil)) (pg_name (i := 2) sc__law_start.nd rfl (Or.inl rfl)) (pss_one (ps_set (i := 1) sc__law_start.nd rfl (Or.inl rfl) (pe_op op_mod (pe_op op_add (pe_op op_add (pe_op op_add (pe_op op_mulX (pv 1) pe_int) (pe_op op_mod (pe_callTy call_int1 (by rfl) T.z_int (by decide +kernel) (pa_cons (pe_ix ix_list (pv 0) (pv 2) (fun _ _ => rfl)) pa_nil)) pe_int)) (pv 2)) pe_int) pe_int))))
      (pss_one (ps_ret (pe_lst (pa_cons (pv 1) (pa_cons (pe_callTy call_list_of (by rfl) T.z_list (by decide +kernel) (pa_cons (pv 0) pa_nil)) (pa_cons pe_int (pa_cons pe_int pa_nil))))))))),
      (sSeq (sAsg sInt sName)
      (sSeq (sFor (siR1 (sCB rcLen (sCons sVar sNil))) (fun _ _ _ => sName) (fun _ _ _ => (sAsg (sOp roInt (sOp roInt0 (sOp roInt0 (sOp roInt0 (sOp roInt sVar sInt) (sOp roInt (sCB rcInt (sCons (sOp roIxL sVar sVar) sNil)) sInt)) sVar) sInt) sInt) sName)))
      (sRet (sOwn (sCons sVar (sCons (sCB rcList (sCons sVar sNil)) (sCons sInt (sCons sInt sNil))))))))⟩) (fun ds μ Φ Ψ h => ?hv)
  case hv =>
    obtain ⟨ns, rfl, hl, h⟩ := h
    have hM : ∀ a : Int, 0 ≤ a % 2147483647 ∧ a % 2147483647 < 2147483647 := fun a => ⟨Int.emod_nonneg _ (by omega), Int.emod_lt_of_pos _ (by omega)⟩
    walk_at "wps"
    refine ⟨by omega, by omega, fun i δ' μ' => μ' = μ ∧ ∃ seed x, 0 ≤ seed ∧ seed < 2147483647 ∧ δ' = [some (.scr ns), some (.int seed), x], ⟨rfl, 7, none, by omega, by omega, rfl⟩, ?_, ?_⟩
    · rintro i d δ' μ' hi ⟨rfl, seed, x, h1, h2, rfl⟩
      obtain ⟨hj, rfl⟩ := rngD_get hi
      walk_at "wps"
      refine ⟨mulx 31 17 (by omega) (by decide) (by decide), .int ns[i], ?_, ?_⟩
      · exact atI_nat (by rw [List.getElem?_map, List.getElem?_eq_getElem hj]; rfl)
      · walk_at "wps"
        exact ⟨by decide, by decide, _, _, (hM _).1, (hM _).2, rfl⟩ -- (hM _).1, (hM _).2, rfl⟩
    · rintro δ' μ' ⟨rfl, seed, x, h1, h2, rfl⟩
      walk_at "wps"
      exact ⟨by decide, fun p hp => ret_same (h p _ hp ⟨seed, 0, 0, rfl, h1, h2, by omega, by omega⟩)⟩
theorem log_small_c {n : Nat} (h : n ≤ 8000) : (n : Int).natAbs.log2 < 9000 := by rw [Int.natAbs_natCast]; have := Nat.log2_le_self n; omega
theorem lcP {Ψ : XP} {Φ : DK} {n : Nat} {φ : DE} {δw : DEnv} {μ1 : Sto} {m : Nat} {st : Addr} {ns : List Int} {c : List D} (Pd : Nat → Int → Prop) (hm : m ≤ 1000) (hst : μ1 st = some (.lst c)) (h0 : StC_c ns c)
    (hs : ∀ (i : Nat) (μ2 : Sto) (X : DK) (c : List D), i < m → μ2 st = some (.lst c) → StC_c ns c → (∀ (y : Int) c', StC_c ns c' → Pd i y → X (.int y) (sset μ2 st (.lst c'))) → φ Ψ (δw.set n (some (.int (i : Int)))) μ2 X)
    (hd : ∀ (l : List Int) c, l.length = m → (∀ (i : Nat) (h : i < l.length), Pd i l[i]) → StC_c ns c → Φ (.lst (l.map .int)) (sset μ1 st (.lst c))) : LcG (eName n) dYes φ δw Ψ (rngD 0 m) μ1 Φ := by
  refine lcG_drawN (StC_c ns) (fun i acc => ∃ l : List Int, acc = l.map .int ∧ l.length = i ∧ ∀ (j : Nat) (h : j < l.length), Pd j l[j]) (by rw [rngD_len]; omega) hst h0 ⟨[], rfl, rfl, fun j h => by simp at h⟩ (fun i d μ2 X acc c2 hi hs2 sc ⟨l, e, hl, hP⟩ hla hx => ?_) (fun acc c2 ⟨l, e, hl, hP⟩ hla sc => ?_)
  · obtain ⟨hj, rfl⟩ := rngD_get hi
    rw [Int.zero_add]
    refine hs i μ2 X c2 hj hs2 sc fun y c' sc' hy => hx _ c' sc' ⟨l ++ [y], by rw [e, List.map_append]; rfl, by rw [List.length_append, hl]; rfl, fun j h => ?_⟩
    by_cases z : j < l.length
    · rw [List.getElem_append_left z]; exact hP j z
    · rw [List.length_append, List.length_singleton] at h
      have : j = l.length := by omega
      subst this
      rw [List.getElem_append_right (Nat.le_refl _)]
      simp only [Nat.sub_self, List.getElem_cons_zero]
      rw [hl]; exact hy
  · rw [rngD_len] at hl
    rw [e]
    exact hd l c2 hl hP sc
theorem all_of_get {l : List Int} {P : Int → Prop} (h : ∀ (i : Nat) (h : i < l.length), P l[i]) : ∀ x ∈ l, P x := fun x hx => by
  obtain ⟨i, hi, rfl⟩ := List.mem_iff_getElem.mp hx
  exact h i hi
def c__law_width : Con := fun ds μ Φ _ => ∃ (ws : List Int) (p : Nat), ds = [.tup (ws.map .int), .int (p : Int)] ∧ WsOk ws ∧ Φ (.int (wd ws p : Int)) μ
theorem len__law_width {ds μ Φ Ψ} (h : c__law_width ds μ Φ Ψ) : ds.length = 2 := by obtain ⟨i, _, rfl, _⟩ := h; rfl
theorem ok__law_width {cx : CXT} (T : Txt P w K mg) : FnOk P w K mg base cx 1 T.f__law_width T.d__law_width ["_law_widths_here", "_law_place"] (spOf K c__law_width) := by
  refine def_okC T.F__law_width sc__law_width _ (fun ds μ Φ Ψ h => len__law_width h) (fun cdv A outer s H E B hW hr =>
    ⟨_, (pss_one (ps_ret (pe_ix ix_tup (pv 0) (pe_op op_mod (pe_callTy call_int1 (by rfl) T.z_int (by decide +kernel) (pa_cons (pv 1) pa_nil)) (pe_callB call_len_seq (by rfl) T.z_len PySem.boot_len (pa_cons (pv 0) pa_nil))) (fun _ _ => rfl)))),
      (sRet (sOp roIxT sVar (sOp roInt (sCB rcInt (sCons sVar sNil)) (sCB rcLen (sCons sVar sNil)))))⟩) (fun ds μ Φ Ψ h => ?hv)
  case hv =>
    obtain ⟨ws, p, rfl, hw, h⟩ := h
    have h0 := hw.l0
    obtain ⟨x, hx, e, x1, x2⟩ := hw.at_ p
    walk_at "wps"
    have em : (p : Int) % (ws.length : Int) = ((p % ws.length : Nat) : Int) := rfl
    rw [em]
    refine ⟨by omega, _, atI_nat (v := .int x) (by rw [List.getElem?_map, hx]; rfl), ret_same ?_⟩
    rw [e]; exact h
def c__law_widths : Con := fun ds μ Φ _ => ∃ st ns c, ds = [.hd (.ref st)] ∧ μ st = some (.lst c) ∧ StC_c ns c ∧ ∀ ws c', WsOk ws → StC_c ns c' → Φ (.tup (ws.map .int)) (sset μ st (.lst c'))
theorem len__law_widths {ds μ Φ Ψ} (h : c__law_widths ds μ Φ Ψ) : ds.length = 1 := by obtain ⟨_, _, _, rfl, _⟩ := h; rfl
theorem ok__law_widths {cx : CXT} (T : Txt P w K mg) : FnOk P w K mg base cx 2 T.f__law_widths T.d__law_widths ["_law_state"] (spOf K c__law_widths) := by
  refine def_okC T.F__law_widths sc__law_widths _ (fun ds μ Φ Ψ h => len__law_widths h) (fun cdv A outer s H E B hW hr =>
    ⟨_, (pss_cons (ps_set (i := 1) sc__law_widths.nd rfl (Or.inr rfl) (pe_op op_add pe_int (pe_call (ok__law_pick T) hr rfl T.g__law_pick T.F__law_pick.kp T.b__law_pick .nil passN (pa_cons (pv 0) (pa_cons pe_int pa_nil)))))
      (pss_cons (ps_set (i := 2) sc__law_widths.nd rfl (Or.inl rfl) (pe_op op_add pe_int (pe_call (ok__law_pick T) hr rfl T.g__law_pick T.F__law_pick.kp T.b__law_pick .nil passN (pa_cons (pv 0) (pa_cons (pe_ix ix_list (pe_lst (pa_cons pe_int (pa_cons pe_int (pa_cons pe_int pa_nil)))) (pe_call (ok__law_pick T) hr rfl T.g__law_pick T.F__law_pick.kp T.b__law_pick .nil passN (pa_cons (pv 0) (pa_cons pe_int pa_nil))) (fun _ _ => rfl)) pa_nil)))))
      (pss_one (ps_ret (pe_callTy call_tupleN (by rfl) T.z_tuple (by decide +kernel) (pa_cons (pe_lc (own := [("_law_k", 3)]) rfl sc__law_widths.nd (pi_range1 rfl T.z_range (pa_cons (pv 2) pa_nil)) (blkOk_by (N := N__law_widths) (sc := defScope s__law_widths) (by decide +kernel)) (fun _ _ _ _ _ => (pg_name (i := 3) sc__law_widths.nd rfl (Or.inl rfl))) (fun _ _ _ _ _ => pts_nil) (fun _ _ _ _ _ => (pe_op op_add pe_int (pe_call (ok__law_pick T) hr rfl T.g__law_pick T.F__law_pick.kp T.b__law_pick .nil passN (pa_cons (pv 0) (pa_cons (pv 1) pa_nil)))))) pa_nil)))))),
      (sSeq (sAsg (sOp roInt0 sInt (sCall (sCons sVar (sCons sInt sNil)))) sName)
      (sSeq (sAsg (sOp roInt0 sInt (sCall (sCons sVar (sCons (sOp roIxL (sLst (sCons sInt (sCons sInt (sCons sInt sNil)))) (sCall (sCons sVar (sCons sInt sNil)))) sNil)))) sName)
      (sRet (sCB rcTuple (sCons (sLc (siR1 sVar) (gwName List.mem_cons_self) (fun _ _ _ => sName) (fun _ _ _ => sYes) (fun _ _ _ => (sOp roInt0 sInt (sCall (sCons sVar (sCons sVar sNil)))))) sNil)))))⟩) (fun ds μ Φ Ψ h => ?hv)
  case hv =>
    obtain ⟨st, ns, c, rfl, hc, sc, h⟩ := h
    refine seq_cut fun M hM => ?_
    walk_at "wp"
    refine ⟨st, ns, c, 3, rfl, hc, sc, by decide, by decide, fun y c1 y0 y1 sc => ?_⟩
    walk_at "wp"
    obtain ⟨top, ht, t1, t2⟩ : ∃ top : Nat, (2 : Int) + y = (top : Int) ∧ 2 ≤ top ∧ top ≤ 4 := ⟨(2 + y).toNat, by omega, by omega, by omega⟩
    rw [ht, hM]; clear hM M
    refine seq_cut fun M hM => ?_
    walk_at "wp"
    refine ⟨by decide, st, ns, c1, 3, rfl, sset_same, sc, by decide, by decide, fun y c2 y0 y1 sc => ?_⟩
    rw [sset_sset]
    obtain ⟨n, hn, n1, n6⟩ : ∃ m : Nat, atI [D.int 2, D.int 3, D.int 6] y = some (.int m) ∧ 1 ≤ m ∧ m ≤ 6 := by
      obtain ⟨q, rfl⟩ : ∃ q : Nat, y = (q : Int) := ⟨y.toNat, by omega⟩
      rcases (show q = 0 ∨ q = 1 ∨ q = 2 by omega) with rfl | rfl | rfl
      · exact ⟨2, atI_nat (j := 0) rfl, by decide, by decide⟩
      · exact ⟨3, atI_nat (j := 1) rfl, by decide, by decide⟩
      · exact ⟨6, atI_nat (j := 2) rfl, by decide, by decide⟩
    walk_at "wp"
    refine ⟨_, hn, st, ns, c2, n, rfl, sset_same, sc, by omega, log_small_c (by omega), fun y c3 y0 y1 sc => ?_⟩
    rw [sset_sset]
    obtain ⟨m, hm, m1, m6⟩ : ∃ s : Nat, (1 : Int) + y = (s : Int) ∧ 1 ≤ s ∧ s ≤ 6 := ⟨(1 + y).toNat, by omega, by omega, by omega⟩
    walk_at "wp"
    rw [hm, hM]; clear hM M
    walk_at "wps"
    refine ⟨by omega, by omega, lcP (fun _ y => 1 ≤ y ∧ y ≤ 4) (by omega) sset_same sc (fun i μ2 X c7 hi hs7 sc7 hx7 => ?_) (fun l c7 hl hP sc => ?_)⟩
    · walk_at "wps"
      exact ⟨st, ns, c7, top, rfl, hs7, sc7, by omega, log_small_c (by omega), fun y c8 y0 y1 sc8 => by walk_at "wps"; exact hx7 (1 + y) c8 sc8 ⟨by omega, by omega⟩⟩
    · rw [sset_sset]
      exact ⟨_, .lst _, ret_same (h l c7 ⟨by omega, by omega, all_of_get hP⟩ sc)⟩
def sdR (r : Rw) : D := .lst [.tup (r.h.map .int), .tup (r.c.map .int)]
def c__law_entry : Con := fun ds μ Φ _ => ∃ (r : Rw) (p : Nat), ds = [sdR r, .int (p : Int)] ∧ RwOk r ∧ Φ (.int (ent r p)) μ
theorem len__law_entry {ds μ Φ Ψ} (h : c__law_entry ds μ Φ Ψ) : ds.length = 2 := by obtain ⟨_, _, rfl, _⟩ := h; rfl
theorem ok__law_entry {cx : CXT} (T : Txt P w K mg) : FnOk P w K mg base cx 1 T.f__law_entry T.d__law_entry ["_law_row_here", "_law_place"] (spOf K c__law_entry) := by
  refine def_okC T.F__law_entry sc__law_entry _ (fun ds μ Φ Ψ h => len__law_entry h) (fun cdv A outer s H E B hW hr =>
    ⟨_, (pss_cons (ps_if (pt_cmpR op_lt (pv 1) (pe_callB call_len_seq (by rfl) T.z_len PySem.boot_len (pa_cons (pe_ix ix_list (pv 0) pe_int (fun _ _ => rfl)) pa_nil)) (nomark _)) (pss_one (ps_ret (pe_ix ix_tup (pe_ix ix_list (pv 0) pe_int (fun _ _ => rfl)) (pv 1) (fun _ _ => rfl)))) pss_nil)
      (pss_one (ps_ret (pe_ix ix_tup (pe_ix ix_list (pv 0) pe_int (fun _ _ => rfl)) (pe_op op_mod (pe_callTy call_int1 (by rfl) T.z_int (by decide +kernel) (pa_cons (pe_op op_sub (pv 1) (pe_callB call_len_seq (by rfl) T.z_len PySem.boot_len (pa_cons (pe_ix ix_list (pv 0) pe_int (fun _ _ => rfl)) pa_nil))) pa_nil)) (pe_callB call_len_seq (by rfl) T.z_len PySem.boot_len (pa_cons (pe_ix ix_list (pv 0) pe_int (fun _ _ => rfl)) pa_nil))) (fun _ _ => rfl))))),
      (sSeq (sIfS (sTest (sOp roBl0 sVar (sCB rcLen (sCons (sOp roIxL sVar sInt) sNil)))) (sRet (sOp roIxT (sOp roIxL sVar sInt) sVar)) sNext)
      (sRet (sOp roIxT (sOp roIxL sVar sInt) (sOp roInt (sCB rcInt (sCons (sOp roInt0 sVar (sCB rcLen (sCons (sOp roIxL sVar sInt) sNil))) sNil)) (sCB rcLen (sCons (sOp roIxL sVar sInt) sNil))))))⟩) (fun ds μ Φ Ψ h => ?hv)
  case hv =>
    obtain ⟨r, n, rfl, hr, h2⟩ := h
    have hcn : 0 < r.c.length := List.length_pos_iff.mpr hr.c0
    unfold sdR
    refine seq_cut fun M hM => ?_
    walk_at "wp"
    refine ⟨fun q => ⟨_, atI_nat (v := .int (ent r n)) ?_, ret_same h2⟩, fun q => ?_⟩
    · have hn : n < r.h.length := by omega
      rw [List.getElem?_map, List.getElem?_eq_getElem hn]
      unfold ent
      rw [if_pos hn, List.getD_eq_getElem?_getD, List.getElem?_eq_getElem hn]; rfl
    · have hn : ¬ n < r.h.length := by omega
      have hm := Nat.mod_lt (n - r.h.length) hcn
      rw [hM]; clear hM M
      walk_at "wps"
      have em : ((n : Int) - (r.h.length : Int)) % (r.c.length : Int) = (((n - r.h.length) % r.c.length : Nat) : Int) := by
        rw [show (n : Int) - (r.h.length : Int) = ((n - r.h.length : Nat) : Int) by omega]; rfl
      rw [em]
      refine ⟨by omega, _, atI_nat (v := .int (ent r n)) ?_, ret_same h2⟩
      rw [List.getElem?_map, self_at hm]
      unfold ent
      rw [if_neg hn, cyc_mod]; rfl
end
section
variable {P : Program} {w : World} {K : Fg} {mg : Str → Option Value} {base : Heap}
theorem nin_N {z : Nat} {l : List Nat} {y : D} {μ : Sto} {X : DK} (h : Items μ y (nI l) ∧ X (.bl (!l.contains z)) μ) : oIn true (.int (z : Int)) y μ X := by
  obtain ⟨hi, h⟩ := h
  refine ⟨_, hi, rfl, by rw [nI_ints]; exact flat_I _, ?_⟩
  have e : inD (.int (z : Int)) (nI l) = l.contains z := by
    rw [nI_ints, inD_I, Bool.eq_iff_iff, List.contains_iff_mem, List.contains_iff_mem, List.mem_map]
    exact ⟨fun ⟨q, hq, e⟩ => by obtain rfl : q = z := Int.ofNat.inj e; exact hq, fun q => ⟨z, q, rfl⟩⟩
  rw [if_pos rfl, e]
  exact h
def c__law_places : Con := fun ds μ Φ _ => ∃ (st : Addr) (ns : List Int) (c : List D) (ws : List Int), ds = [.hd (.ref st), .tup (ws.map .int)] ∧ μ st = some (.lst c) ∧ StC_c ns c ∧ WsOk ws ∧
  ∀ (ps : List Nat) c', ps.Nodup → (∀ p ∈ ps, p < 100) → ps.length ≤ 4 → wpl ws ps ≤ 81 → ps ≠ [] → StC_c ns c' → Φ (.lst (nI ps)) (sset μ st (.lst c'))
theorem len__law_places {ds μ Φ Ψ} (h : c__law_places ds μ Φ Ψ) : ds.length = 2 := by obtain ⟨_, _, _, _, rfl, _⟩ := h; rfl
theorem ok__law_places {cx : CXT} (T : Txt P w K mg) : FnOk P w K mg base cx 2 T.f__law_places T.d__law_places ["_law_state", "_law_widths_here"] (spOf K c__law_places) := by
  refine def_okC T.F__law_places sc__law_places _ (fun ds μ Φ Ψ h => len__law_places h) (fun cdv A outer s H E B hW hr =>
    ⟨_, (pss_cons (ps_set (i := 2) sc__law_places.nd rfl (Or.inl rfl) (pe_lst pa_nil))
      (pss_cons (ps_set (i := 3) sc__law_places.nd rfl (Or.inl rfl) pe_int)
      (pss_cons (ps_for (passes_of rfl) rfl (pi_range1 rfl T.z_range (pa_cons (pe_op op_add pe_int (pe_call (ok__law_pick T) hr rfl T.g__law_pick T.F__law_pick.kp T.b__law_pick .nil passN (pa_cons (pv 0) (pa_cons pe_int pa_nil)))) pa_nil)) (pg_name (i := 4) sc__law_places.nd rfl (Or.inl rfl)) (pss_cons (ps_set (i := 5) sc__law_places.nd rfl (Or.inl rfl) (pe_call (ok__law_pick T) hr rfl T.g__law_pick T.F__law_pick.kp T.b__law_pick .nil passN (pa_cons (pv 0) (pa_cons (pe_ix ix_list (pe_lst (pa_cons pe_int (pa_cons pe_int (pa_cons pe_int pa_nil)))) (pe_call (ok__law_pick T) hr rfl T.g__law_pick T.F__law_pick.kp T.b__law_pick .nil passN (pa_cons (pv 0) (pa_cons pe_int pa_nil))) (fun _ _ => rfl)) pa_nil))))
      (pss_one (ps_if (PW.pt (pw_and (pt_cmpR op_notIn_seq (pv 5) (pv 2) (by with_unfolding_all rfl)) (pw_and1 (pt_cmpR op_le (pe_op op_mulX (pv 3) (pe_call (ok__law_width T) hr rfl T.g__law_width T.F__law_width.kp T.b__law_width .nil passN (pa_cons (pv 1) (pa_cons (pv 5) pa_nil)))) pe_int (nomark _))))) (pss_cons (ps_expr (pe_bm PySem.F.plainAttrs_list PySem.F.slot_list_append PySem.F.type_list_append mt_append (pv 2) (pa_cons (pv 5) pa_nil)))
      (pss_one (ps_set (i := 3) sc__law_places.nd rfl (Or.inl rfl) (pe_op op_mulX (pv 3) (pe_call (ok__law_width T) hr rfl T.g__law_width T.F__law_width.kp T.b__law_width .nil passN (pa_cons (pv 1) (pa_cons (pv 5) pa_nil))))))) pss_nil))))
      (pss_one (ps_ret (pv 2)))))),
      (sSeq (sAsg (sOwn sNil) sName)
      (sSeq (sAsg sInt sName)
      (sSeq (sFor (siR1 (sOp roInt0 sInt (sCall (sCons sVar (sCons sInt sNil))))) (fun _ _ _ => sName) (fun _ _ _ => (sSeq (sAsg (sCall (sCons sVar (sCons (sOp roIxL (sLst (sCons sInt (sCons sInt (sCons sInt sNil)))) (sCall (sCons sVar (sCons sInt sNil)))) sNil))) sName)
      (sIfS (sAnd (sTest (sOp (roIn (neg := true)) sVar sVar)) (sTest (sOp roBl0 (sOp roInt sVar (sCall (sCons sVar (sCons sVar sNil)))) sInt))) (sSeq (sDrop (sApp sVar sVar))
      (sAsg (sOp roInt sVar (sCall (sCons sVar (sCons sVar sNil)))) sName)) sNext))))
      (sRet sRest))))⟩) (fun ds μ Φ Ψ h => ?hv)
  case hv =>
    obtain ⟨st, ns, c0, ws, rfl, hc0, sc0, hw, h⟩ := h
    refine seq_cut fun M hM => ?_
    walk_at "wp"
    refine ⟨by omega, fun p hp => ?_⟩
    have hps : p ≠ st := fun z => by rw [z, hc0] at hp; cases hp
    rw [hM]; clear hM M
    walk_at "wps"
    refine ⟨st, ns, c0, 4, rfl, by rw [sset_ne hps.symm, hc0], sc0, by decide, by decide, fun z c z0 z1 sc => ?_⟩
    walk_at "wps"
    obtain ⟨n, hn, n1, n4⟩ : ∃ n : Nat, 1 + z = (n : Int) ∧ 1 ≤ n ∧ n ≤ 4 := ⟨(1 + z).toNat, by omega, by omega, by omega⟩
    rw [hn]
    have hnn : (n : Int).toNat = n := Int.toNat_natCast n
    refine ⟨by omega, by omega, fun i δ' μ' => ∃ (acc : List Nat) (c' : List D) (x y : Option D), δ' = [some (.hd (.ref st)), some (.tup (ws.map .int)), some (.hd (.ref p)), some (.int ((wpl ws acc : Nat) : Int)), x, y] ∧ μ' p = some (.lst (nI acc)) ∧ μ' st = some (.lst c') ∧ (∀ a, a ≠ p → a ≠ st → μ' a = μ a) ∧ StC_c ns c' ∧ acc.Nodup ∧ (∀ q ∈ acc, q < 100) ∧ acc.length ≤ i ∧ wpl ws acc ≤ 81 ∧ (1 ≤ i → acc ≠ []), ⟨[], c, none, none, rfl, by rw [sset_ne hps, sset_same]; rfl, sset_same, fun a a1 a2 => by rw [sset_ne a2, sset_ne a1], sc, List.nodup_nil, by simp, Nat.le_refl _, by show 1 ≤ 81; decide, fun z => by omega⟩, ?_, ?_⟩
    · rintro i d δ' μ' hi ⟨acc, c2, x, y, rfl, w1, w2, w3, w4, w5, w6, w7, w8, w9⟩
      obtain ⟨hj, rfl⟩ := rngD_get hi
      walk_at "wp"
      refine ⟨by decide, st, ns, c2, 3, rfl, w2, w4, by decide, by decide, fun y c3 y0 y1 sc => ?_⟩
      obtain ⟨l, hl, l1, l100⟩ : ∃ l : Nat, atI [D.int 4, D.int 7, D.int 100] y = some (.int l) ∧ 1 ≤ l ∧ l ≤ 100 := by
        obtain ⟨q, rfl⟩ : ∃ q : Nat, y = (q : Int) := ⟨y.toNat, by omega⟩
        rcases (show q = 0 ∨ q = 1 ∨ q = 2 by omega) with rfl | rfl | rfl
        · exact ⟨4, atI_nat (j := 0) rfl, by decide, by decide⟩
        · exact ⟨7, atI_nat (j := 1) rfl, by decide, by decide⟩
        · exact ⟨100, atI_nat (j := 2) rfl, by decide, by decide⟩
      walk_at "wp"
      refine ⟨_, hl, st, ns, c3, l, rfl, sset_same, sc, by omega, log_small_c (by omega), fun y c4 y0 y1 sc => ?_⟩
      rw [sset_sset]
      obtain ⟨pl, rfl⟩ : ∃ pl : Nat, y = (pl : Int) := ⟨y.toNat, by omega⟩
      have hw1 := hw.wd1 pl
      have hpr : wpl ws acc ≤ 81 := w8
      have hp4 : (sset μ' st (.lst c4)) p = some (.lst (nI acc)) := by rw [sset_ne hps, w1]
      have stay : ∀ (a : Addr), a ≠ p → a ≠ st → (sset μ' st (.lst c4)) a = μ a := fun a a1 a2 => by rw [sset_ne a2, w3 a a1 a2]
      walk_at "wp"
      refine nin_N ⟨.own hp4, ?_⟩
      refine ⟨_, rfl, fun q => ?_, fun q => ?_⟩
      · have hnin : pl ∉ acc := by simpa using q
        refine ⟨ws, pl, rfl, hw, ?_⟩
        walk_at "wp"
        refine ⟨mulx 10 4 (by omega) (by omega) (by decide), fun q2 => ?_, fun q2 => ?_⟩
        · refine ⟨_, hp4, _, hp4, by rw [nI_len]; omega, ws, pl, rfl, hw, ?_⟩
          walk_at "wp"
          refine ⟨mulx 10 4 (by omega) (by omega) (by decide), acc ++ [pl], c4, _, _, by rw [wpl_snoc]; rfl, by unfold nI; rw [List.map_append]; rfl, by rw [sset_ne hps.symm, sset_same], fun a a1 a2 => by rw [sset_ne a1, stay a a1 a2], sc, ?_, ?_, by rw [List.length_append]; simp; omega, ?_, fun _ z => by simp at z⟩
          · exact List.nodup_append.mpr ⟨w5, by simp, fun a ha b hb => by rw [List.mem_singleton.mp hb]; exact fun e => hnin (e ▸ ha)⟩
          · intro q hq
            rcases List.mem_append.mp hq with z | z
            · exact w6 q z
            · rw [List.mem_singleton.mp z]; omega
          · rw [wpl_snoc]
            have : ((wpl ws acc * wd ws pl : Nat) : Int) ≤ (81 : Int) := by rw [Int.natCast_mul]; exact q2
            omega
        · refine ⟨acc, c4, _, _, rfl, hp4, rfl, stay, sc, w5, w6, by omega, w8, fun _ z => ?_⟩
          subst z
          apply q2
          show ((1 : Nat) : Int) * (wd ws pl : Int) ≤ (81 : Int)
          omega
      · have hin : pl ∈ acc := by simpa using q
        exact ⟨acc, c4, _, _, rfl, hp4, sset_same, stay, sc, w5, w6, by omega, w8, fun _ z => by rw [z] at hin; cases hin⟩
    · rintro δ' μ' ⟨acc, c2, x, y, rfl, w1, w2, w3, w4, w5, w6, w7, w8, w9⟩
      walk_at "wps"
      refine ⟨nI acc, w1, sset μ st (.lst c2), fun a x e => ?_, h acc c2 w5 w6 (by rw [hnn] at w7; omega) w8 (w9 (by rw [hnn]; omega)) w4⟩
      by_cases as : a = st
      · subst as
        rw [sset_same] at e
        cases e
        rw [sset_ne hps.symm, w2]
      · rw [sset_ne as] at e
        have ap : a ≠ p := fun z => by rw [z, hp] at e; cases e
        rw [sset_ne ap, w3 a ap as, e]
end
section
variable {P : Program} {w : World} {K : Fg} {mg : Str → Option Value} {base : Heap}
/-- how many looks a term of so many levels has at most -/
def lkN : Nat → Nat
  | 0 => 0
  | n + 1 => 1 + 4 * lkN n
def c__law_term (n : Nat) : Con := fun ds μ Φ _ => ∃ (st : Addr) (ns : List Int) (c : List D) (ws : List Int) (oc lv : Nat) (ps : List Nat), ds = [.hd (.ref st), .lst [.tup (ws.map .int), .int (oc : Int)], .lst (nI ps), .int (lv : Int)] ∧ μ st = some (.lst c) ∧ StC_c ns c ∧ WsOk ws ∧ 1 ≤ oc ∧ oc ≤ 4 ∧ ps ≠ [] ∧ ps.length ≤ 8 ∧ (∀ p ∈ ps, p < 100) ∧ lv < n ∧ lv ≤ 20 ∧
  ∀ t c', QOk ws oc t → qDep t ≤ lv → (∀ q ∈ qPl t, q ∈ ps) → (qPl t).length ≤ lkN lv → StC_c ns c' → Φ (qD t) (sset μ st (.lst c'))
theorem len__law_term {n ds μ Φ Ψ} (h : c__law_term n ds μ Φ Ψ) : ds.length = 4 := by obtain ⟨_, _, _, _, _, _, _, rfl, _⟩ := h; rfl
theorem step__law_term (T : Txt P w K mg) {k : Nat} (hk : 4 ≤ k) (n : Nat) (ih__law_term : FnOk P w K mg base (L2N.CX P w) k T.f__law_term T.d__law_term ["_law_state", "_law_size", "_law_places_here", "_law_levels"] (spOf K (c__law_term n))) : FnOk P w K mg base (L2N.CX P w) (k + 1) T.f__law_term T.d__law_term ["_law_state", "_law_size", "_law_places_here", "_law_levels"] (spOf K (c__law_term (n + 1))) := by
  refine def_okC T.F__law_term sc__law_term _ (fun ds μ Φ Ψ h => len__law_term h) (fun cdv A outer s H E B hW hr =>
    have tk : L2N.Takes (cxOf (L2N.CX P w) P w K mg base N__law_term "_law_term" (defScope s__law_term) T.f__law_term cdv A outer s H E) (fun cls d _ H => E cls d H) := L2N.takes_of rfl rfl rfl rfl
    ⟨_, (pss_cons (ps_if (PW.pt (pw_or (pt_cmpR op_eq (pv 3) pe_int (nomark _)) (pw_or1 (pt_cmpR op_eq (pe_call (ok__law_pick T) (hr.mono (by omega)) rfl T.g__law_pick T.F__law_pick.kp T.b__law_pick .nil passN (pa_cons (pv 0) (pa_cons pe_int pa_nil))) pe_int (nomark _))))) (pss_one (ps_ret (pe_tupN (pa_cons pe_str (pa_cons (pe_call (ok__law_pick T) (hr.mono (by omega)) rfl T.g__law_pick T.F__law_pick.kp T.b__law_pick .nil passN (pa_cons (pv 0) (pa_cons (pe_ix ix_list (pv 1) pe_int (fun _ _ => rfl)) pa_nil))) pa_nil))))) pss_nil)
      (pss_cons (ps_set (i := 4) sc__law_term.nd rfl (Or.inl rfl) (pe_ix ix_list (pv 2) (pe_call (ok__law_pick T) (hr.mono (by omega)) rfl T.g__law_pick T.F__law_pick.kp T.b__law_pick .nil passN (pa_cons (pv 0) (pa_cons (pe_callB call_len_seq (by rfl) T.z_len PySem.boot_len (pa_cons (pv 2) pa_nil)) pa_nil))) (fun _ _ => rfl)))
      (pss_cons (ps_set (i := 5) sc__law_term.nd rfl (Or.inl rfl) (pe_call (ok__law_width T) (hr.mono (by omega)) rfl T.g__law_width T.F__law_width.kp T.b__law_width .nil passN (pa_cons (pe_ix ix_list (pv 1) pe_int (fun _ _ => rfl)) (pa_cons (pv 4) pa_nil))))
      (pss_one (ps_ret (pe_op op_catN (pe_tupN (pa_cons pe_str (pa_cons (pv 4) pa_nil))) (pe_callTy call_tupleN (by rfl) T.z_tuple (by decide +kernel) (pa_cons (pe_lc (own := [("_law_x", 6)]) rfl sc__law_term.nd (pi_range1 rfl T.z_range (pa_cons (pv 5) pa_nil)) (blkOk_by (N := N__law_term) (sc := defScope s__law_term) (by decide +kernel)) (fun _ _ _ _ _ => (pg_name (i := 6) sc__law_term.nd rfl (Or.inl rfl))) (fun _ _ _ _ _ => pts_nil) (fun _ _ _ _ _ => (pe_call ih__law_term hr rfl T.g__law_term T.F__law_term.kp T.b__law_term .nil passN (pa_cons (pv 0) (pa_cons (pv 1) (pa_cons (pv 2) (pa_cons (pe_op op_sub (pv 3) pe_int) pa_nil))))))) pa_nil)))))))),
      (sSeq (sIfS (sOr (sTest (sOp roEq sVar sInt)) (sTest (sOp roEq (sCall (sCons sVar (sCons sInt sNil))) sInt))) (sRet (sTup (sCons sStr (sCons (sCall (sCons sVar (sCons (sOp roIxL sVar sInt) sNil))) sNil)))) sNext)
      (sSeq (sAsg (sOp roIxL sVar (sCall (sCons sVar (sCons (sCB rcLen (sCons sVar sNil)) sNil)))) sName)
      (sSeq (sAsg (sCall (sCons (sOp roIxL sVar sInt) (sCons sVar sNil))) sName)
      (sRet (sOp roCatT (sTup (sCons sStr (sCons sVar sNil))) (sCB rcTuple (sCons (sLc (siR1 sVar) (gwName List.mem_cons_self) (fun _ _ _ => sName) (fun _ _ _ => sYes) (fun _ _ _ => (sCall (sCons sVar (sCons sVar (sCons sVar (sCons (sOp roInt0 sVar sInt) sNil))))))) sNil)))))))⟩) (fun ds μ Φ Ψ h => ?hv)
  case hv =>
    obtain ⟨st, ns, c, ws, oc, lv, ps, rfl, hc, sc, hw, o1, o4, hne, h8, h100, hn, h20, h⟩ := h
    have hpl : 0 < ps.length := List.length_pos_iff.mpr hne
    have tell : ∀ (μ1 : Sto) (c1 : List D), (∀ c2, sset μ1 st (.lst c2) = sset μ st (.lst c2)) → μ1 st = some (.lst c1) → StC_c ns c1 → c__law_pick [.hd (.ref st), .int (oc : Int)] μ1 (fun y μ' => 2 ≤ 100000 ∧ ∃ μ2, DW.Sub μ2 μ' ∧ Φ (.tup [.str "tell", y]) μ2) fun _ _ => False := fun μ1 c1 hm hs sc => by
      refine ⟨st, ns, c1, oc, rfl, hs, sc, by omega, log_small_c (by omega), fun y c2 y0 y1 sc => ⟨by omega, ?_⟩⟩
      rw [hm]
      obtain ⟨o, rfl⟩ : ∃ o : Nat, y = (o : Int) := ⟨y.toNat, by omega⟩
      exact ret_same (h (.tell o) c2 (show o < oc by omega) (Nat.zero_le _) (fun q z => by simp [qPl] at z) (Nat.zero_le _) sc)
    refine seq_cut fun M hM => ?_
    walk_at "wp"
    refine ⟨fun _ => tell μ c (fun _ => rfl) hc sc, fun q => ⟨st, ns, c, 4, rfl, hc, sc, by decide, by decide, fun y c1 y0 y1 sc => ?_⟩⟩
    walk_at "wp"
    refine ⟨fun _ => tell _ c1 (fun _ => sset_sset) sset_same sc, fun _ => ?_⟩
    obtain ⟨lw, rfl⟩ : ∃ lw : Nat, lv = lw + 1 := ⟨lv - 1, by omega⟩
    rw [hM]; clear hM M tell
    refine seq_cut fun M hM => ?_
    walk_at "wp"
    refine ⟨st, ns, c1, ps.length, by rw [nI_len], sset_same, sc, by omega, log_small_c (by omega), fun y c2 y0 y1 sc => ?_⟩
    rw [sset_sset]
    obtain ⟨i, rfl⟩ : ∃ i : Nat, y = (i : Int) := ⟨y.toNat, by omega⟩
    have hi : i < ps.length := by omega
    have hw1 := hw.wd1 ps[i]
    have hp100 := h100 _ (List.getElem_mem hi)
    walk_at "wp"
    refine ⟨_, atI_nat (v := .int ((ps[i] : Nat) : Int)) (by unfold nI; rw [List.getElem?_map, List.getElem?_eq_getElem hi]; rfl), ?_⟩
    generalize hpi : ps[i] = p at *
    rw [hM]; clear hM M
    refine seq_cut fun M hM => ?_
    walk_at "wp"
    refine ⟨ws, p, rfl, hw, ?_⟩
    rw [hM]; clear hM M
    walk_at "wps"
    refine ⟨by omega, by omega, by omega, lcG_drawN (StC_c ns) (fun i acc => ∃ ts : List QT, acc = qDs ts ∧ ts.length = i ∧ (∀ t ∈ ts, QOk ws oc t ∧ qDep t ≤ lw ∧ (∀ q ∈ qPl t, q ∈ ps) ∧ (qPl t).length ≤ lkN lw)) (by rw [rngD_len]; omega) sset_same sc ⟨[], rfl, rfl, by simp⟩ (fun i d μ2 X acc c3 hi hs2 sc ⟨ts, e, hl, hT⟩ hla hx => ?_) (fun acc c3 ⟨ts, e, hl, hT⟩ hla sc => ?_)⟩
    · obtain ⟨hj, rfl⟩ := rngD_get hi
      walk_at "wps"
      refine ⟨st, ns, c3, ws, oc, lw, ps, by rw [show ((lw + 1 : Nat) : Int) - 1 = (lw : Int) by omega], hs2, sc, hw, o1, o4, hne, h8, h100, by omega, by omega, fun t c4 a b cc dd sc4 => hx _ c4 sc4 ⟨ts ++ [t], by rw [e, qDs_map, qDs_map, List.map_append]; rfl, by rw [List.length_append, hl]; rfl, fun s hs => ?_⟩⟩
      rcases List.mem_append.mp hs with z | z
      · exact hT s z
      · rw [List.mem_singleton.mp z]; exact ⟨a, b, cc, dd⟩
    · rw [rngD_len] at hl
      rw [sset_sset, e]
      have b1 := qpls_bound (k := lkN lw + 1) ts fun t ht => by have := (hT t ht).2.2.2; omega
      have b2 := qdeps_bound (k := lw) ts fun t ht => (hT t ht).2.1
      have b3 : ts.length * lkN lw ≤ 4 * lkN lw := Nat.mul_le_mul_right _ (by omega)
      rw [Nat.mul_add, Nat.mul_one] at b1
      refine ⟨_, .lst _, by rw [qDs_len]; omega, ret_same (h (.look p ts) c3 ⟨hp100, hl, qoks_iff.mpr fun t ht => (hT t ht).1⟩ (by rw [qDep]; omega) (fun q hq => ?_) (by rw [qPl, List.length_cons, lkN]; omega) sc)⟩
      rw [qPl] at hq
      rcases List.mem_cons.mp hq with z | z
      · rw [z, ← hpi]; exact List.getElem_mem _
      · obtain ⟨t, ht, hq2⟩ := qpls_mem.mp z
        exact (hT t ht).2.2.1 q hq2
end
section
variable {P : Program} {w : World} {K : Fg} {mg : Str → Option Value} {base : Heap}
def c__law_row : Con := fun ds μ Φ _ => ∃ (st : Addr) (ns : List Int) (c : List D) (ws : List Int), ds = [.hd (.ref st), .tup (ws.map .int)] ∧ μ st = some (.lst c) ∧ StC_c ns c ∧ WsOk ws ∧ ∀ r c', RwOk r → RFit ws r → StC_c ns c' → Φ (sdR r) (sset μ st (.lst c'))
theorem len__law_row {ds μ Φ Ψ} (h : c__law_row ds μ Φ Ψ) : ds.length = 2 := by obtain ⟨_, _, _, _, rfl, _⟩ := h; rfl
theorem wd_turn {ws : List Int} {m j e : Nat} : wd ws (m + j % (e * ws.length)) = wd ws (m + j) := by
  unfold wd
  have : (m + j % (e * ws.length)) % ws.length = (m + j) % ws.length := by
    rw [Nat.add_mod, Nat.add_mod m j]
    congr 2
    exact Nat.mod_mod_of_dvd _ ⟨e, Nat.mul_comm _ _⟩
  rw [this]
theorem row_fit {ws h c : List Int} {e : Nat} (hw : WsOk ws) (e1 : 1 ≤ e) (e2 : e ≤ 2) (hc : c.length = e * ws.length) (hh : ∀ (i : Nat) (q : i < h.length), 0 ≤ h[i] ∧ h[i] < (wd ws i : Int)) (hcc : ∀ (j : Nat) (q : j < c.length), 0 ≤ c[j] ∧ c[j] < (wd ws (h.length + j) : Int)) (h1 : h.length ≤ 1000) : RwOk ⟨h, c⟩ ∧ RFit ws ⟨h, c⟩ := by
  have h0 := hw.l0
  have h6 := hw.l1
  have hcl : 1 ≤ c.length ∧ c.length ≤ 12 := by
    rw [hc]
    rcases (show e = 1 ∨ e = 2 by omega) with rfl | rfl <;> omega
  refine ⟨⟨fun z => by have z : c = [] := z; rw [z] at hcl; simp at hcl, h1, by show c.length ≤ 1000; omega, fun x hx => ?_, fun x hx => ?_⟩, fun p => ?_⟩
  · obtain ⟨i, hi, rfl⟩ := List.mem_iff_getElem.mp hx; exact (hh i hi).1
  · obtain ⟨i, hi, rfl⟩ := List.mem_iff_getElem.mp hx; exact (hcc i hi).1
  · unfold ent
    by_cases z : p < h.length
    · show (if p < h.length then h.getD p 0 else _) < _
      rw [if_pos z, List.getD_eq_getElem?_getD, List.getElem?_eq_getElem z]
      exact (hh p z).2
    · show (if p < h.length then _ else cyc c (p - h.length)) < _
      rw [if_neg z]
      unfold cyc
      have q : (p - h.length) % c.length < c.length := Nat.mod_lt _ (by omega)
      rw [List.getD_eq_getElem?_getD, List.getElem?_eq_getElem q]
      have e : wd ws (h.length + (p - h.length) % c.length) = wd ws p := by rw [hc, wd_turn, show h.length + (p - h.length) = p by omega]
      rw [← e]
      exact (hcc _ q).2
theorem ok__law_row (T : Txt P w K mg) : FnOk P w K mg base (L2N.CX P w) 3 T.f__law_row T.d__law_row ["_law_state", "_law_widths_here"] (spOf K c__law_row) := by
  refine def_okC T.F__law_row sc__law_row _ (fun ds μ Φ Ψ h => len__law_row h) (fun cdv A outer s H E B hW hr =>
    have tk : L2N.Takes (cxOf (L2N.CX P w) P w K mg base N__law_row "_law_row" (defScope s__law_row) T.f__law_row cdv A outer s H E) (fun cls d _ H => E cls d H) := L2N.takes_of rfl rfl rfl rfl
    ⟨_, (pss_cons (ps_set (i := 2) sc__law_row.nd rfl (Or.inr rfl) (pe_call (ok__law_pick T) (hr.mono (by decide)) rfl T.g__law_pick T.F__law_pick.kp T.b__law_pick .nil passN (pa_cons (pv 0) (pa_cons pe_int pa_nil))))
      (pss_cons (ps_setLc (i := 3) (own := [("_law_p", 5)]) rfl sc__law_row.nd rfl rfl (sw_true rfl rfl rfl (by decide +kernel)) (pi_range1 rfl T.z_range (pa_cons (pv 2) pa_nil)) (blkOk_by (N := N__law_row) (sc := defScope s__law_row) (by decide +kernel)) (fun _ _ _ _ _ => (pg_name (i := 5) sc__law_row.nd rfl (Or.inl rfl))) (fun _ _ _ _ _ => pts_nil) (fun _ _ _ _ _ => (pe_call (ok__law_pick T) (hr.mono (by decide)) rfl T.g__law_pick T.F__law_pick.kp T.b__law_pick .nil passN (pa_cons (pv 0) (pa_cons (pe_call (ok__law_width T) (hr.mono (by decide)) rfl T.g__law_width T.F__law_width.kp T.b__law_width .nil passN (pa_cons (pv 1) (pa_cons (pv 5) pa_nil))) pa_nil)))))
      (pss_cons (ps_set (i := 4) sc__law_row.nd rfl (Or.inl rfl) (pe_op op_mulX (pe_callB call_len_seq (by rfl) T.z_len PySem.boot_len (pa_cons (pv 1) pa_nil)) (pe_op op_add pe_int (pe_call (ok__law_pick T) (hr.mono (by decide)) rfl T.g__law_pick T.F__law_pick.kp T.b__law_pick .nil passN (pa_cons (pv 0) (pa_cons pe_int pa_nil))))))
      (pss_one (ps_ret (pe_lst (pa_cons (pe_callTy call_tupleN (by rfl) T.z_tuple (by decide +kernel) (pa_cons (pv 3) pa_nil)) (pa_cons (pe_callTy call_tupleN (by rfl) T.z_tuple (by decide +kernel) (pa_cons (pe_lc (own := [("_law_j", 6)]) rfl sc__law_row.nd (pi_range1 rfl T.z_range (pa_cons (pv 4) pa_nil)) (blkOk_by (N := N__law_row) (sc := defScope s__law_row) (by decide +kernel)) (fun _ _ _ _ _ => (pg_name (i := 6) sc__law_row.nd rfl (Or.inl rfl))) (fun _ _ _ _ _ => pts_nil) (fun _ _ _ _ _ => (pe_call (ok__law_pick T) (hr.mono (by decide)) rfl T.g__law_pick T.F__law_pick.kp T.b__law_pick .nil passN (pa_cons (pv 0) (pa_cons (pe_call (ok__law_width T) (hr.mono (by decide)) rfl T.g__law_width T.F__law_width.kp T.b__law_width .nil passN (pa_cons (pv 1) (pa_cons (pe_op op_add (pv 2) (pv 6)) pa_nil))) pa_nil))))) pa_nil)) pa_nil)))))))),
      (sSeq (sAsg (sCall (sCons sVar (sCons sInt sNil))) sName)
      (sSeq (sAsg (sLc (siR1 sVar) (gwName List.mem_cons_self) (fun _ _ _ => sName) (fun _ _ _ => sYes) (fun _ _ _ => (sCall (sCons sVar (sCons (sCall (sCons sVar (sCons sVar sNil))) sNil))))) sName)
      (sSeq (sAsg (sOp roInt (sCB rcLen (sCons sVar sNil)) (sOp roInt0 sInt (sCall (sCons sVar (sCons sInt sNil))))) sName)
      (sRet (sLst (sCons (sCB rcTuple (sCons sVar sNil)) (sCons (sCB rcTuple (sCons (sLc (siR1 sVar) (gwName List.mem_cons_self) (fun _ _ _ => sName) (fun _ _ _ => sYes) (fun _ _ _ => (sCall (sCons sVar (sCons (sCall (sCons sVar (sCons (sOp roInt0 sVar sVar) sNil))) sNil))))) sNil)) sNil)))))))⟩) (fun ds μ Φ Ψ h => ?hv)
  case hv =>
    obtain ⟨st, ns, c, ws, rfl, hc, sc, hw, h⟩ := h
    have h0 := hw.l0
    have h6 := hw.l1
    refine seq_cut fun M hM => ?_
    walk_at "wp"
    refine ⟨st, ns, c, 5, rfl, hc, sc, by decide, by decide, fun y c1 y0 y1 sc => ?_⟩
    obtain ⟨m, rfl⟩ : ∃ m : Nat, y = (m : Int) := ⟨y.toNat, by omega⟩
    rw [hM]; clear hM M
    refine seq_cut fun M hM => ?_
    walk_at "wp"
    refine ⟨by omega, by omega, lcP (fun i y => 0 ≤ y ∧ y < (wd ws i : Int)) (by omega) sset_same sc (fun i μ2 X c7 hi hs7 sc7 hx7 => ?_) (fun l c7 hl hP sc => ?_)⟩
    · have hw1 := hw.wd1 i
      walk_at "wps"
      exact ⟨ws, i, rfl, hw, st, ns, c7, wd ws i, rfl, hs7, sc7, by omega, log_small_c (by omega), fun y c8 y0 y1 sc8 => hx7 _ c8 sc8 ⟨y0, y1⟩⟩
    rw [sset_sset]
    rw [hM]; clear hM M
    refine seq_cut fun M hM => ?_
    walk_at "wp"
    refine ⟨st, ns, c7, 2, rfl, sset_same, sc, by decide, by decide, fun z c9 z0 z1 sc => ?_⟩
    rw [sset_sset]
    walk_at "wp"
    obtain ⟨e, he, e1, e2⟩ : ∃ e : Nat, 1 + z = (e : Int) ∧ 1 ≤ e ∧ e ≤ 2 := ⟨(1 + z).toNat, by omega, by omega, by omega⟩
    rw [he]
    refine ⟨mulx 4 3 (by omega) (by omega) (by decide), ?_⟩
    have hle : (ws.length : Int) * (e : Int) = ((e * ws.length : Nat) : Int) := by rw [Int.natCast_mul, Int.mul_comm]
    have hle2 : e * ws.length ≤ 12 := by rcases (show e = 1 ∨ e = 2 by omega) with rfl | rfl <;> omega
    rw [hle, hM]; clear hM M
    walk_at "wps"
    refine ⟨by omega, by omega, ?_⟩
    refine lcP (fun j y => 0 ≤ y ∧ y < (wd ws (m + j) : Int)) (by omega) sset_same sc (fun i μ2 X c8 hi hs8 sc8 hx8 => ?_) (fun l2 c8 hl2 hP2 sc => ?_)
    · have hw1 := hw.wd1 (m + i)
      walk_at "wps"
      exact ⟨ws, m + i, rfl, hw, st, ns, c8, wd ws (m + i), rfl, hs8, sc8, by omega, log_small_c (by omega), fun y c9 y0 y1 sc9 => hx8 _ c9 sc9 ⟨y0, y1⟩⟩
    · rw [sset_sset]
      obtain ⟨a, b⟩ := row_fit hw e1 e2 hl2 hP (by rw [hl]; exact hP2) (by omega)
      exact ⟨_, .lst _, by omega, ret_same (h ⟨l, l2⟩ c8 a b sc)⟩
end
section
variable {P : Program} {w : World} {K : Fg} {mg : Str → Option Value} {base : Heap}
theorem ixN_nat {n q : Nat} (h : q < n) : ixN n (q : Int) = some q := by
  unfold ixN
  simp
  omega
theorem for_body {ι : DI} {γ : DG} {ω : DSt} {Ψ : XP} {Δ : DEnds} {δ : DEnv} {μ : Sto} (h : ∀ B : DSt, B = ω → dFor ι γ B Ψ Δ δ μ) : dFor ι γ ω Ψ Δ δ μ := h ω rfl
/-- a row with another entry at a place -/
def rwWith (r : Rw) (p : Nat) (x : Int) : Rw := ⟨((List.range (max (p + 1) r.h.length)).map fun i => ent r i).set p x, (List.range r.c.length).map fun j => ent r (max (p + 1) r.h.length + j)⟩
def c__law_with : Con := fun ds μ Φ _ => ∃ (r : Rw) (p : Nat) (x : Int), ds = [sdR r, .int (p : Int), .int x] ∧ RwOk r ∧ p < 100 ∧ 0 ≤ x ∧ Φ (sdR (rwWith r p x)) μ
theorem len__law_with {ds μ Φ Ψ} (h : c__law_with ds μ Φ Ψ) : ds.length = 3 := by obtain ⟨_, _, _, rfl, _⟩ := h; rfl
theorem ok__law_with (T : Txt P w K mg) : FnOk P w K mg base (L2N.CX P w) 3 T.f__law_with T.d__law_with ["_law_row_here", "_law_place", "_law_entry_here"] (spOf K c__law_with) := by
  refine def_okC T.F__law_with sc__law_with _ (fun ds μ Φ Ψ h => len__law_with h) (fun cdv A outer s H E B hW hr =>
    have tk : L2N.Takes (cxOf (L2N.CX P w) P w K mg base N__law_with "_law_with" (defScope s__law_with) T.f__law_with cdv A outer s H E) (fun cls d _ H => E cls d H) := L2N.takes_of rfl rfl rfl rfl
    ⟨_, (pss_cons (ps_set (i := 3) sc__law_with.nd rfl (Or.inr rfl) (pe_callB (call_max2 rfl) (by rfl) T.z_max (by decide +kernel) (pa_cons (pe_op op_add (pv 1) pe_int) (pa_cons (pe_callB call_len_seq (by rfl) T.z_len PySem.boot_len (pa_cons (pe_ix ix_list (pv 0) pe_int (fun _ _ => rfl)) pa_nil)) pa_nil))))
      (pss_cons (ps_setLc (i := 4) (own := [("_law_p", 5)]) rfl sc__law_with.nd rfl rfl (sw_true rfl rfl rfl (by decide +kernel)) (pi_range1 rfl T.z_range (pa_cons (pv 3) pa_nil)) (blkOk_by (N := N__law_with) (sc := defScope s__law_with) (by decide +kernel)) (fun _ _ _ _ _ => (pg_name (i := 5) sc__law_with.nd rfl (Or.inl rfl))) (fun _ _ _ _ _ => pts_nil) (fun _ _ _ _ _ => (pe_call (ok__law_entry T) (hr.mono (by decide)) rfl T.g__law_entry T.F__law_entry.kp T.b__law_entry .nil passN (pa_cons (pv 0) (pa_cons (pv 5) pa_nil)))))
      (pss_cons (ps_asg (pv 2) (pg_sub (pv 4) (pv 1) set_list))
      (pss_one (ps_ret (pe_lst (pa_cons (pe_callTy call_tupleN (by rfl) T.z_tuple (by decide +kernel) (pa_cons (pv 4) pa_nil)) (pa_cons (pe_callTy call_tupleN (by rfl) T.z_tuple (by decide +kernel) (pa_cons (pe_lc (own := [("_law_j", 6)]) rfl sc__law_with.nd (pi_range1 rfl T.z_range (pa_cons (pe_callB call_len_seq (by rfl) T.z_len PySem.boot_len (pa_cons (pe_ix ix_list (pv 0) pe_int (fun _ _ => rfl)) pa_nil)) pa_nil)) (blkOk_by (N := N__law_with) (sc := defScope s__law_with) (by decide +kernel)) (fun _ _ _ _ _ => (pg_name (i := 6) sc__law_with.nd rfl (Or.inl rfl))) (fun _ _ _ _ _ => pts_nil) (fun _ _ _ _ _ => (pe_call (ok__law_entry T) (hr.mono (by decide)) rfl T.g__law_entry T.F__law_entry.kp T.b__law_entry .nil passN (pa_cons (pv 0) (pa_cons (pe_op op_add (pv 3) (pv 6)) pa_nil))))) pa_nil)) pa_nil)))))))),
      (sSeq (sAsg (sCB rcMax2 (sCons (sOp roInt0 sVar sInt) (sCons (sCB rcLen (sCons (sOp roIxL sVar sInt) sNil)) sNil))) sName)
      (sSeq (sAsg (sLcO (siR1 sVar) (gwName List.mem_cons_self) (fun _ _ _ => sName) (fun _ _ _ => sYes) (fun _ _ _ => (sCall (sCons sVar (sCons sVar sNil))))) sName)
      (sSeq (sAsgS sVar sVar sVar)
      (sRet (sLst (sCons (sCB rcTuple (sCons sVar sNil)) (sCons (sCB rcTuple (sCons (sLc (siR1 (sCB rcLen (sCons (sOp roIxL sVar sInt) sNil))) (gwName List.mem_cons_self) (fun _ _ _ => sName) (fun _ _ _ => sYes) (fun _ _ _ => (sCall (sCons sVar (sCons (sOp roInt0 sVar sVar) sNil))))) sNil)) sNil)))))))⟩) (fun ds μ Φ Ψ h => ?hv)
  case hv =>
    obtain ⟨r, p, x, rfl, hr, hp, hx, h⟩ := h
    unfold sdR
    refine seq_cut fun M hM => ?_
    walk_at "wp"
    refine ⟨_, _, rfl, ?_⟩
    have em : (if (r.h.length : Int) > (p : Int) + 1 then (r.h.length : Int) else (p : Int) + 1) = ((max (p + 1) r.h.length : Nat) : Int) := by split <;> omega
    rw [em, hM]; clear hM M
    obtain ⟨m, em⟩ : ∃ m, m = max (p + 1) r.h.length := ⟨_, rfl⟩
    have hm : m ≤ 2000 := by have := hr.hl; omega
    have hpm : p < m := by omega
    rw [← em]
    refine seq_cut fun M hM => ?_
    walk_at "wp"
    refine ⟨by omega, by omega, lcR (m := m) (fun i => .int (ent r i)) (by omega) (fun i μ2 X hi hsub hX => ?_) ?_⟩
    · walk_at "wp"
      exact ⟨r, i, rfl, hr, hX⟩
    refine own_k fun pb hpb => ?_
    rw [hM]; clear hM M
    walk_at "wps"
    refine ⟨p, ixN_nat (by rw [List.length_range]; exact hpm), by have := hr.cl; omega, by omega, lcR (m := r.c.length) (fun j => .int (ent r (m + j))) (by have := hr.cl; omega) (fun i μ2 X hi hsub hX => ?_) ?_⟩
    · walk_at "wp"
      exact ⟨r, m + i, rfl, hr, hX⟩
    · refine ⟨_, .lst _, by decide, μ, Sub.set Sub.refl hpb, ?_⟩
      have e1 : ((List.range m).map fun i => D.int (ent r i)).set p (.int x) = (((List.range m).map fun i => ent r i).set p x).map D.int := by rw [List.map_set, List.map_map]; rfl
      have e2 : (List.range r.c.length).map (fun j => D.int (ent r (m + j))) = ((List.range r.c.length).map fun j => ent r (m + j)).map D.int := by rw [List.map_map]; rfl
      rw [e1, e2]
      unfold rwWith sdR at h
      rw [← em] at h
      exact h
end
section
variable {P : Program} {w : World} {K : Fg} {mg : Str → Option Value} {base : Heap}
def folD : Option (List Nat × Nat) → D
  | none => .non
  | some q => .lst [.tup (nI q.1), .int (q.2 : Int)]
def c__law_follow : Con := fun ds μ Φ _ => ∃ (ws : List Int) (oc : Nat) (t : QT) (r : Rw), ds = [qD t, .tup (ws.map .int), sdR r] ∧ WsOk ws ∧ QOk ws oc t ∧ qDep t ≤ 29 ∧ RwOk r ∧ Φ (folD (qFol ws (ent r) t)) μ
theorem len__law_follow {ds μ Φ Ψ} (h : c__law_follow ds μ Φ Ψ) : ds.length = 3 := by obtain ⟨_, _, _, _, rfl, _⟩ := h; rfl
theorem ok__law_follow (T : Txt P w K mg) : FnOk P w K mg base (L2N.CX P w) 3 T.f__law_follow T.d__law_follow ["_law_term_here", "_law_widths_here", "_law_row_here"] (spOf K c__law_follow) := by
  refine def_okC T.F__law_follow sc__law_follow _ (fun ds μ Φ Ψ h => len__law_follow h) (fun cdv A outer s H E B hW hr =>
    have tk : L2N.Takes (cxOf (L2N.CX P w) P w K mg base N__law_follow "_law_follow" (defScope s__law_follow) T.f__law_follow cdv A outer s H E) (fun cls d _ H => E cls d H) := L2N.takes_of rfl rfl rfl rfl
    ⟨_, (pss_cons (ps_set (i := 3) sc__law_follow.nd rfl (Or.inl rfl) (pe_lst pa_nil))
      (pss_cons (ps_for (passes_of rfl) rfl (pi_range1 rfl T.z_range (pa_cons pe_int pa_nil)) (pg_name (i := 4) sc__law_follow.nd rfl (Or.inl rfl)) (pss_cons (ps_if (pt_cmpR op_eq (pe_ix ix_tup (pv 0) pe_int (fun _ _ => rfl)) pe_str (nomark _)) (pss_one (ps_ret (pe_lst (pa_cons (pe_callTy call_tupleN (by rfl) T.z_tuple (by decide +kernel) (pa_cons (pv 3) pa_nil)) (pa_cons (pe_ix ix_tup (pv 0) pe_int (fun _ _ => rfl)) pa_nil))))) pss_nil)
      (pss_cons (ps_set (i := 5) sc__law_follow.nd rfl (Or.inl rfl) (pe_call (ok__law_entry T) (hr.mono (by decide)) rfl T.g__law_entry T.F__law_entry.kp T.b__law_entry .nil passN (pa_cons (pv 2) (pa_cons (pe_ix ix_tup (pv 0) pe_int (fun _ _ => rfl)) pa_nil))))
      (pss_cons (ps_if (pt_cmpR op_ge (pv 5) (pe_call (ok__law_width T) (hr.mono (by decide)) rfl T.g__law_width T.F__law_width.kp T.b__law_width .nil passN (pa_cons (pv 1) (pa_cons (pe_ix ix_tup (pv 0) pe_int (fun _ _ => rfl)) pa_nil))) (nomark _)) (pss_one (ps_ret pe_non)) pss_nil)
      (pss_cons (ps_expr (pe_bm PySem.F.plainAttrs_list PySem.F.slot_list_append PySem.F.type_list_append mt_append (pv 3) (pa_cons (pe_ix ix_tup (pv 0) pe_int (fun _ _ => rfl)) pa_nil)))
      (pss_one (ps_set (i := 0) sc__law_follow.nd rfl (Or.inl rfl) (pe_ix ix_tup (pv 0) (pe_op op_add pe_int (pv 5)) (fun _ _ => rfl)))))))))
      (pss_one (ps_ret pe_non)))),
      (sSeq (sAsg (sOwn sNil) sName)
      (sSeq (sFor (siR1 sInt) (fun _ _ _ => sName) (fun _ _ _ => (sSeq (sIfS (sTest (sOp roEq (sOp roIxT sVar sInt) sStr)) (sRet (sLst (sCons (sCB rcTuple (sCons sVar sNil)) (sCons (sOp roIxT sVar sInt) sNil)))) sNext)
      (sSeq (sAsg (sCall (sCons sVar (sCons (sOp roIxT sVar sInt) sNil))) sName)
      (sSeq (sIfS (sTest (sOp roBl0 sVar (sCall (sCons sVar (sCons (sOp roIxT sVar sInt) sNil))))) (sRet sNon) sNext)
      (sSeq (sDrop (sApp sVar (sOp roIxT sVar sInt)))
      (sAsg (sOp roIxT sVar (sOp roInt0 sInt sVar)) sName)))))))
      (sRet sNon)))⟩) (fun ds μ Φ Ψ h => ?hv)
  case hv =>
    obtain ⟨ws, oc, t, r, rfl, hw, hok, hdp, hr, h⟩ := h
    refine seq_cut fun M hM => ?_
    walk_at "wp"
    refine ⟨by decide, fun q hq => ?_⟩
    rw [hM]; clear hM M
    refine seq_cut fun M hM => ?_
    refine for_body fun B hBd => ?_
    walk_at "wp"
    refine ⟨by decide, by decide, fun i δ' μ' => (∃ (s : QT) (pl : List Nat), μ' = sset μ q (.lst (nI pl)) ∧ QOk ws oc s ∧ qFol ws (ent r) t = (qFol ws (ent r) s).map (fun z => (pl ++ z.1, z.2)) ∧ pl.length = i ∧ i + qDep s ≤ 29 ∧ ∃ x4 x5 : Option D, δ' = [some (qD s), some (.tup (ws.map .int)), some (sdR r), some (.hd (.ref q)), x4, x5]), ⟨t, [], rfl, hok, by cases qFol ws (ent r) t <;> rfl, rfl, by omega, none, none, rfl⟩, ?_, ?_⟩
    · rintro i d δ' μ' hi ⟨s, pl, rfl, hs, ha, hpl, hm, x4, x5, rfl⟩
      rw [hBd]
      cases s with
      | tell o =>
        rw [qD]
        refine seq_cut fun M2 hM2 => ?_
        walk_at "wp"
        exact ⟨⟨by decide, μ, Sub.set Sub.refl hq, by rw [ha, qFol] at h; simpa [folD] using h⟩, fun z => absurd trivial z⟩
      | look p ts =>
        obtain ⟨hp, hlen, hts⟩ := hs
        rw [qoks_iff] at hts
        rw [qDep] at hm
        rw [qD]
        refine seq_cut fun M2 hM2 => ?_
        walk_at "wp"
        refine ⟨fun z => absurd z (by decide), fun _ => ?_⟩
        rw [hM2]; clear hM2 M2
        refine seq_cut fun M2 hM2 => ?_
        walk_at "wp"
        refine ⟨r, p, rfl, hr, ?_⟩
        have hn := ent_nn hr p
        obtain ⟨e, he⟩ : ∃ e : Nat, ent r p = (e : Int) := ⟨(ent r p).toNat, by omega⟩
        rw [hM2]; clear hM2 M2
        refine seq_cut fun M2 hM2 => ?_
        walk_at "wp"
        refine ⟨ws, p, rfl, hw, ?_⟩
        walk_at "wp"
        refine ⟨fun z => ?_, fun z => ?_⟩
        · refine ⟨μ, Sub.set Sub.refl hq, ?_⟩
          rw [ha, qFol_no (by omega)] at h
          exact h
        have hlt : ent r p < (wd ws p : Int) := by omega
        have hel : e < ts.length := by omega
        have hge : ts[(ent r p).toNat]? = some ts[e] := by rw [he, Int.toNat_natCast]; exact List.getElem?_eq_getElem hel
        have hd := qdeps_le (List.getElem_mem hel)
        rw [he, hM2]; clear hM2 M2
        walk_at "wps"
        refine ⟨by rw [nI_len]; omega, qD ts[e], ?_, ts[e], pl ++ [p], by rw [nI_app]; rfl, hts _ (List.getElem_mem hel), ?_, by rw [List.length_append, List.length_singleton, hpl], by omega, _, _, rfl⟩
        · rw [show (2 : Int) + (e : Int) = ((e + 1 + 1 : Nat) : Int) by omega]
          exact atI_nat (by rw [List.getElem?_cons_succ, List.getElem?_cons_succ, qDs_map, List.getElem?_map, List.getElem?_eq_getElem hel]; rfl)
        · rw [ha, qFol_look hlt hge]
          cases qFol ws (ent r) ts[e] with
          | none => rfl
          | some q => simp
    · rintro δ' μ' ⟨s, pl, rfl, hs, ha, hpl, hm, x4, x5, rfl⟩
      have : Int.toNat 30 = 30 := rfl
      omega
end
section
variable {P : Program} {w : World} {K : Fg} {mg : Str → Option Value} {base : Heap}
/-- the answer of a row that may be wrong -/
def toldD (f : Option (List Nat × Nat)) : D := match f with
  | none => .non
  | some q => .lst [.int (q.2 : Int)]
def lookD (f : Option (List Nat × Nat)) : D := match f with
  | none => .non
  | some q => .lst [.tup (nI q.1)]
def c__law_told (C R : Addr) : Con := fun ds μ Φ _ => ∃ (ws : List Int) (oc : Nat) (t : QT) (r : Rw), ds = [qO C t ws oc, rwO R r] ∧ WsOk ws ∧ QOk ws oc t ∧ qDep t ≤ 30 ∧ RwOk r ∧ Φ (toldD (qFol ws (ent r) t)) μ
theorem len__law_told {C R ds μ Φ Ψ} (h : c__law_told C R ds μ Φ Ψ) : ds.length = 2 := by obtain ⟨_, _, _, _, rfl, _⟩ := h; rfl
theorem ok__law_told (T : Txt P w K mg) : FnOk P w K mg base (L2N.CX P w) 7 T.f__law_told T.d__law_told ["_law_query", "_law_row_here"] (spOf K (c__law_told T.c_Query T.c_Row)) := by
  refine def_okC T.F__law_told sc__law_told _ (fun ds μ Φ Ψ h => len__law_told h) (fun cdv A outer s H E B hW hr =>
    have tk : L2N.Takes (cxOf (L2N.CX P w) P w K mg base N__law_told "_law_told" (defScope s__law_told) T.f__law_told cdv A outer s H E) (fun cls d _ H => E cls d H) := L2N.takes_of rfl rfl rfl rfl
    ⟨_, (pss_cons (L2N.ps_try_as (i := 2) rfl rfl sc__law_told.nd rfl rfl ⟨rfl, by decide, .inl T.g_OutOfRange⟩ tk (fun W pn xe tk pown => (pss_one (ps_ret (pe_lst (pa_cons (pe_callX (i := 0) T.me_Query___call__ T.fn_Query___call__ (ok_Query___call__ T) (hr.mono (by decide)) T.b_Query___call__ (fun σ => L2N.passAt tk σ) rfl (Or.inl rfl) (by exact (pa_cons (pv 1) pa_nil))) pa_nil)))))
      (fun a oe cls d pn hz hf => (pss_one (ps_if (PW.pt (pw_or (pt_val (pe_callB (call_isH hz hf) (by rfl) T.z_isinstance (by decide +kernel) (pa_cons (pv 2) (pa_cons (pe_glob (v := .ref T.c_InvalidTerm) rfl T.g_InvalidTerm rfl) pa_nil)))) (pw_or1 (pt_not (pt_val (pe_callB (call_isH hz hf) (by rfl) T.z_isinstance (by decide +kernel) (pa_cons (pv 2) (pa_cons (pe_glob (v := .ref T.c_ChoosersError) rfl T.g_ChoosersError rfl) pa_nil)))))))) (pss_one (ps_ret (pe_lst (pa_cons pe_str pa_nil)))) pss_nil))))
      (pss_one (ps_ret pe_non))),
      (sSeq (sTryAs (c := .ref T.c_OutOfRange) (i := 2) hW (fun W B hW => (sRet (sLst (sCons (sCallX (NS := NS_Query) (W := W) (by exact hW) (sCons sVar sNil)) sNil))))
      (fun a cls dd x B hW rx => (sIfS (sOr (sB (sIsE rx (sCons sVar (sCons sHd sNil)))) (sNot (sB (sIsE rx (sCons sVar (sCons sHd sNil)))))) (sRet (sLst (sCons sStr sNil))) sNext)))
      (sRet sNon))⟩) (fun ds μ Φ Ψ h => ?hv)
  case hv =>
    obtain ⟨ws, oc, t, r, rfl, hw, hok, hdp, hr, h⟩ := h
    walk_at "wps"
    refine ⟨_, rfl, ws, oc, t, r, rfl, hw, hok, hdp, hr, fun q hq => ⟨by decide, ret_same (by rw [hq] at h; exact h)⟩, fun hq => ⟨true, T.m_OutOfRange_OutOfRange, fun _ a ha => ⟨false, T.i_OutOfRange_InvalidTerm, T.ec_OutOfRange, nofun, fun _ => ⟨true, T.i_OutOfRange_ChoosersError, T.ec_OutOfRange, nofun, fun _ => ret_same (by rw [hq] at h; exact h)⟩⟩, nofun⟩⟩
end
section
variable {P : Program} {w : World} {K : Fg} {mg : Str → Option Value} {base : Heap}
def c__law_looked (C R : Addr) : Con := fun ds μ Φ _ => ∃ (ws : List Int) (oc : Nat) (t : QT) (r : Rw), ds = [qO C t ws oc, rwO R r] ∧ WsOk ws ∧ QOk ws oc t ∧ qDep t ≤ 30 ∧ RwOk r ∧ Φ (lookD (qFol ws (ent r) t)) μ
theorem len__law_looked {C R ds μ Φ Ψ} (h : c__law_looked C R ds μ Φ Ψ) : ds.length = 2 := by obtain ⟨_, _, _, _, rfl, _⟩ := h; rfl
theorem ok__law_looked (T : Txt P w K mg) : FnOk P w K mg base (L2N.CX P w) 7 T.f__law_looked T.d__law_looked ["_law_query", "_law_row_here"] (spOf K (c__law_looked T.c_Query T.c_Row)) := by
  refine def_okC T.F__law_looked sc__law_looked _ (fun ds μ Φ Ψ h => len__law_looked h) (fun cdv A outer s H E B hW hr =>
    have tk : L2N.Takes (cxOf (L2N.CX P w) P w K mg base N__law_looked "_law_looked" (defScope s__law_looked) T.f__law_looked cdv A outer s H E) (fun cls d _ H => E cls d H) := L2N.takes_of rfl rfl rfl rfl
    ⟨_, (pss_cons (L2N.ps_try_as (i := 2) rfl rfl sc__law_looked.nd rfl rfl ⟨rfl, by decide, .inl T.g_OutOfRange⟩ tk (fun W pn xe tk pown => (pss_one (ps_ret (pe_lst (pa_cons (pe_callS (ok_looked_places T) (hr.mono (by decide)) rfl T.g_looked_places T.F_looked_places.kp T.b_looked_places (fun σ => L2N.passAt tk σ) (pa_cons (pv 0) (pa_cons (pv 1) pa_nil))) pa_nil)))))
      (fun a oe cls d pn hz hf => (pss_one (ps_if (PW.pt (pw_or (pt_val (pe_callB (call_isH hz hf) (by rfl) T.z_isinstance (by decide +kernel) (pa_cons (pv 2) (pa_cons (pe_glob (v := .ref T.c_InvalidTerm) rfl T.g_InvalidTerm rfl) pa_nil)))) (pw_or1 (pt_not (pt_val (pe_callB (call_isH hz hf) (by rfl) T.z_isinstance (by decide +kernel) (pa_cons (pv 2) (pa_cons (pe_glob (v := .ref T.c_ChoosersError) rfl T.g_ChoosersError rfl) pa_nil)))))))) (pss_one (ps_ret (pe_lst (pa_cons pe_str pa_nil)))) pss_nil))))
      (pss_one (ps_ret pe_non))),
      (sSeq (sTryAs (c := .ref T.c_OutOfRange) (i := 2) hW (fun W B hW => (sRet (sLst (sCons (sCallSW (W := W) (by exact hW) (sCons sVar (sCons sVar sNil))) sNil))))
      (fun a cls dd x B hW rx => (sIfS (sOr (sB (sIsE rx (sCons sVar (sCons sHd sNil)))) (sNot (sB (sIsE rx (sCons sVar (sCons sHd sNil)))))) (sRet (sLst (sCons sStr sNil))) sNext)))
      (sRet sNon))⟩) (fun ds μ Φ Ψ h => ?hv)
  case hv =>
    obtain ⟨ws, oc, t, r, rfl, hw, hok, hdp, hr, h⟩ := h
    walk_at "wps"
    refine ⟨ws, oc, t, r, rfl, hw, hok, hdp, hr, fun q hq => ⟨by decide, ret_same (by rw [hq] at h; exact h)⟩, fun hq => ⟨true, T.m_OutOfRange_OutOfRange, fun _ a ha => ⟨false, T.i_OutOfRange_InvalidTerm, T.ec_OutOfRange, nofun, fun _ => ⟨true, T.i_OutOfRange_ChoosersError, T.ec_OutOfRange, nofun, fun _ => ret_same (by rw [hq] at h; exact h)⟩⟩, nofun⟩⟩
end
section
variable {P : Program} {w : World} {K : Fg} {mg : Str → Option Value} {base : Heap}
def c__law_create (C : Addr) : Con := fun ds μ Φ _ => ∃ (ws : List Int) (oc : Int) (d : D), ds = [d, .tup (ws.map .int), .int oc] ∧ ws.length ≤ 1000 ∧ qpl 20 d ∧
  (¬ (WsB ws ∧ 1 ≤ oc ∧ oc ≤ 4) → Φ (.lst [.str (Str.ofString "range")]) μ) ∧
  (WsB ws → 1 ≤ oc → oc ≤ 4 → ∀ p, wq ws oc.toNat 20 d = some p → Φ (.lst [.str (Str.ofString "wrong"), .tup (p.map .int)]) μ) ∧
  (WsB ws → 1 ≤ oc → oc ≤ 4 → wq ws oc.toNat 20 d = none → ∃ t, d = qD t ∧ QSz ws oc.toNat t ∧ (few ws t → Φ (.lst [.str (Str.ofString "made"), d, .tup (ws.map .int), .int oc]) μ) ∧ (¬ few ws t → Φ (.lst [.str (Str.ofString "large")]) μ))
theorem len__law_create {C ds μ Φ Ψ} (h : c__law_create C ds μ Φ Ψ) : ds.length = 3 := by obtain ⟨_, _, _, rfl, _⟩ := h; rfl
theorem ok__law_create (T : Txt P w K mg) : FnOk P w K mg base (L2N.CX P w) 40 T.f__law_create T.d__law_create ["_law_term_here", "_law_widths_here", "_law_outcomes"] (spOf K (c__law_create T.c_Query)) := by
  refine def_okC T.F__law_create sc__law_create _ (fun ds μ Φ Ψ h => len__law_create h) (fun cdv A outer s H E B hW hr =>
    have tk : L2N.Takes (cxOf (L2N.CX P w) P w K mg base N__law_create "_law_create" (defScope s__law_create) T.f__law_create cdv A outer s H E) (fun cls d _ H => E cls d H) := L2N.takes_of rfl rfl rfl rfl
    ⟨_, (pss_cons (ps_tryM rfl rfl sc__law_create.nd tk (fun W pn xe tk pown => (pss_one (ps_set (i := 4) sc__law_create.nd rfl (Or.inl rfl) (pe_makeS T.mk_Query (ok_Query___init__ T) (hr.mono (by decide)) rfl T.g_Query T.b_Query___init__ (fun σ => L2N.passAt tk σ) (pa_cons (pv 0) (pa_cons (pv 1) (pa_cons (pv 2) pa_nil)))))))
      (ClOk.one (sl := 3) ⟨rfl, by decide, .inl T.g_InvalidQuery⟩ rfl rfl (fun a oe cls d pn hz hf => (pss_cons (ps_if (PW.pt (pw_or (pt_not (pt_val (pe_callB (call_isH hz hf) (by rfl) T.z_isinstance (by decide +kernel) (pa_cons (pv 3) (pa_cons (pe_glob (v := .ref T.c_InvalidTerm) rfl T.g_InvalidTerm rfl) pa_nil))))) (pw_or (pt_val (pe_callB (call_isH hz hf) (by rfl) T.z_isinstance (by decide +kernel) (pa_cons (pv 3) (pa_cons (pe_glob (v := .ref T.c_InvalidAim) rfl T.g_InvalidAim rfl) pa_nil)))) (pw_or1 (pt_val (pe_callB (call_isH hz hf) (by rfl) T.z_isinstance (by decide +kernel) (pa_cons (pv 3) (pa_cons (pe_glob (v := .ref T.c_InvalidGame) rfl T.g_InvalidGame rfl) pa_nil)))))))) (pss_one (ps_ret (pe_lst (pa_cons pe_str pa_nil)))) pss_nil)
      (pss_one (ps_ret (pe_lst (pa_cons pe_str (pa_cons (pe_xf T.xf_InvalidQuery T.no_InvalidQuery hz.zc hf (pv 3)) pa_nil)))))))
      (ClOk.one (sl := 3) ⟨rfl, by decide, .inl T.g_OutOfRange⟩ rfl rfl (fun a oe cls d pn hz hf => (pss_cons (ps_if (PW.pt (pw_or (pt_val (pe_callB (call_isH hz hf) (by rfl) T.z_isinstance (by decide +kernel) (pa_cons (pv 3) (pa_cons (pe_glob (v := .ref T.c_InvalidTerm) rfl T.g_InvalidTerm rfl) pa_nil)))) (pw_or (pt_val (pe_callB (call_isH hz hf) (by rfl) T.z_isinstance (by decide +kernel) (pa_cons (pv 3) (pa_cons (pe_glob (v := .ref T.c_TooLarge) rfl T.g_TooLarge rfl) pa_nil)))) (pw_or1 (pt_not (pt_val (pe_callB (call_isH hz hf) (by rfl) T.z_isinstance (by decide +kernel) (pa_cons (pv 3) (pa_cons (pe_glob (v := .ref T.c_ChoosersError) rfl T.g_ChoosersError rfl) pa_nil))))))))) (pss_one (ps_ret (pe_lst (pa_cons pe_str pa_nil)))) pss_nil)
      (pss_one (ps_ret (pe_lst (pa_cons pe_str pa_nil))))))
      (ClOk.one (sl := 3) ⟨rfl, by decide, .inl T.g_TooLarge⟩ rfl rfl (fun a oe cls d pn hz hf => (pss_cons (ps_if (PW.pt (pw_or (pt_val (pe_callB (call_isH hz hf) (by rfl) T.z_isinstance (by decide +kernel) (pa_cons (pv 3) (pa_cons (pe_glob (v := .ref T.c_InvalidTerm) rfl T.g_InvalidTerm rfl) pa_nil)))) (pw_or1 (pt_not (pt_val (pe_callB (call_isH hz hf) (by rfl) T.z_isinstance (by decide +kernel) (pa_cons (pv 3) (pa_cons (pe_glob (v := .ref T.c_ChoosersError) rfl T.g_ChoosersError rfl) pa_nil)))))))) (pss_one (ps_ret (pe_lst (pa_cons pe_str pa_nil)))) pss_nil)
      (pss_one (ps_ret (pe_lst (pa_cons pe_str pa_nil))))))
      ClOk.none))))
      (pss_one (ps_ret (pe_lst (pa_cons pe_str (pa_cons (pe_fld (pv 4) rfl) (pa_cons (pe_fld (pv 4) rfl) (pa_cons (pe_fld (pv 4) rfl) pa_nil)))))))),
      (sSeq (sTryM hW (fun W B hW => (sAsg (sMakeSW (W := W) (by exact hW) (sCons sVar (sCons sVar (sCons sVar sNil)))) sName))
      (SCls.one (c := .ref T.c_InvalidQuery) (i := 3) (fun a cls dd x B hW rx => (sSeq (sIfS (sOr (sNot (sB (sIsE rx (sCons sVar (sCons sHd sNil))))) (sOr (sB (sIsE rx (sCons sVar (sCons sHd sNil)))) (sB (sIsE rx (sCons sVar (sCons sHd sNil)))))) (sRet (sLst (sCons sStr sNil))) sNext)
      (sRet (sLst (sCons sStr (sCons (sXf (C := T.c_InvalidQuery) rx sVar) sNil))))))
      (SCls.one (c := .ref T.c_OutOfRange) (i := 3) (fun a cls dd x B hW rx => (sSeq (sIfS (sOr (sB (sIsE rx (sCons sVar (sCons sHd sNil)))) (sOr (sB (sIsE rx (sCons sVar (sCons sHd sNil)))) (sNot (sB (sIsE rx (sCons sVar (sCons sHd sNil))))))) (sRet (sLst (sCons sStr sNil))) sNext)
      (sRet (sLst (sCons sStr sNil)))))
      (SCls.one (c := .ref T.c_TooLarge) (i := 3) (fun a cls dd x B hW rx => (sSeq (sIfS (sOr (sB (sIsE rx (sCons sVar (sCons sHd sNil)))) (sNot (sB (sIsE rx (sCons sVar (sCons sHd sNil)))))) (sRet (sLst (sCons sStr sNil))) sNext)
      (sRet (sLst (sCons sStr sNil)))))
      SCls.none))))
      (sRet (sLst (sCons sStr (sCons (sFldO (NS := NS_Query) (i := 0) T.cls_Query T.na_Query_term rfl (by decide) sVar) (sCons (sFldO (NS := NS_Query) (i := 1) T.cls_Query T.na_Query_widths rfl (by decide) sVar) (sCons (sFldO (NS := NS_Query) (i := 2) T.cls_Query T.na_Query_outcomes rfl (by decide) sVar) sNil)))))))⟩) (fun ds μ Φ Ψ h => ?hv)
  case hv =>
    obtain ⟨ws, oc, d, rfl, hl, hq, h1, h2, h3⟩ := h
    refine seq_cut fun M hM => ?_
    walk_at "wp"
    intro x hx
    have back : ∀ {v : D} {c : Cell}, Φ v μ → ∃ μ2, DW.Sub μ2 (sset μ x c) ∧ Φ v μ2 := fun hv => ⟨μ, Sub.set Sub.refl hx, hv⟩
    refine ⟨x, ws, oc, d, rfl, hl, hq, sset_same, fun z => ?_, fun b o1 o4 p hp => ?_, fun b o1 o4 hn => ?_⟩
    · refine ⟨false, T.m_OutOfRange_InvalidQuery, nofun, fun _ => ⟨true, T.m_OutOfRange_OutOfRange, fun _ a ha => ?_, nofun⟩⟩
      walk_at "wps"
      refine ⟨false, T.i_OutOfRange_InvalidTerm, T.ec_OutOfRange, nofun, fun _ => ⟨false, T.i_OutOfRange_TooLarge, T.ec_OutOfRange, nofun, fun _ => ⟨true, T.i_OutOfRange_ChoosersError, T.ec_OutOfRange, nofun, fun _ => ⟨by decide, back (h1 z)⟩⟩⟩⟩
    · refine ⟨true, T.m_InvalidQuery_InvalidQuery, fun _ a ha => ?_, nofun⟩
      walk_at "wps"
      refine ⟨true, T.i_InvalidQuery_InvalidTerm, T.ec_InvalidQuery, nofun, fun _ => ⟨false, T.i_InvalidQuery_InvalidAim, T.ec_InvalidQuery, nofun, fun _ => ⟨false, T.i_InvalidQuery_InvalidGame, T.ec_InvalidQuery, nofun, fun _ => ⟨by decide, back (h2 b o1 o4 p hp)⟩⟩⟩⟩
    · obtain ⟨t, ed, sz, hf, hg⟩ := h3 b o1 o4 hn
      refine ⟨t, ed, sz, fun fw => ⟨rfl, NS_Query, _, sset_same, ?_⟩, fun fw => ?_⟩
      · rw [sset_sset, sdel_sset hx, hM]; clear hM M
        walk_at "wps"
        exact ⟨by decide, ret_same (hf fw)⟩
      · refine ⟨false, T.m_TooLarge_InvalidQuery, nofun, fun _ => ⟨false, T.m_TooLarge_OutOfRange, nofun, fun _ => ⟨true, T.m_TooLarge_TooLarge, fun _ a ha => ?_, nofun⟩⟩⟩
        walk_at "wps"
        exact ⟨false, T.i_TooLarge_InvalidTerm, T.ec_TooLarge, nofun, fun _ => ⟨true, T.i_TooLarge_ChoosersError, T.ec_TooLarge, nofun, fun _ => ⟨by decide, back (hg fw)⟩⟩⟩
end
section
variable {P : Program} {w : World} {K : Fg} {mg : Str → Option Value} {base : Heap}
theorem eq_self {d : D} {μ : Sto} {Φ : DK} (h : EqSide d) (hΦ : Φ (.bl true) μ) : oEqD d d μ Φ := ⟨h, h, by rw [eqD_refl h.1]; exact hΦ⟩
theorem ne_self {d : D} {μ : Sto} {Φ : DK} (h : EqSide d) (hΦ : Φ (.bl false) μ) : oNeD d d μ Φ := ⟨h, h, by rw [eqD_refl h.1]; exact hΦ⟩
def c__law_unread (C : Addr) : Con := fun ds μ Φ _ => ∃ t : Str, ds = [.str t] ∧ (TL.tl t).length ≤ 100000 ∧ (∀ x, Rd 1 (TL.tl t) x [] → hdPl x = true ∧ (headD x = none ∨ ∃ n i d, headD x = some (n, .int i, d))) ∧ (∀ b, b ≤ (TL.tl t).length → ¬ BadT (TL.tl t) b) ∧ Φ (.bl true) μ
theorem len__law_unread {C ds μ Φ Ψ} (h : c__law_unread C ds μ Φ Ψ) : ds.length = 1 := by obtain ⟨_, rfl, _⟩ := h; rfl
theorem ok__law_unread (T : Txt P w K mg) : FnOk P w K mg base (L2N.CX P w) 76 T.f__law_unread T.d__law_unread ["_law_text_here"] (spOf K (c__law_unread T.c_Query)) := by
  refine def_okC T.F__law_unread sc__law_unread _ (fun ds μ Φ Ψ h => len__law_unread h) (fun cdv A outer s H E B hW hr =>
    have tk : L2N.Takes (cxOf (L2N.CX P w) P w K mg base N__law_unread "_law_unread" (defScope s__law_unread) T.f__law_unread cdv A outer s H E) (fun cls d _ H => E cls d H) := L2N.takes_of rfl rfl rfl rfl
    ⟨_, (pss_cons (L2N.ps_try_as (i := 1) rfl rfl sc__law_unread.nd rfl rfl ⟨rfl, by decide, .inl T.g_InvalidTerm⟩ tk (fun W pn xe tk pown => (pss_one (ps_expr (pe_smeth (pl := _) (pe_glob (v := .ref T.c_Query) rfl T.g_Query rfl) T.rd_Query T.sm_Query_read (ok_Query_read T) (hr.mono (by decide)) T.b_Query_read (fun σ => L2N.passAt tk σ) (pa_cons (pv 0) pa_nil)))))
      (fun a oe cls d pn hz hf => (pss_one (ps_ret (pe_and (pe_not (pe_callB (call_isH hz hf) (by rfl) T.z_isinstance (by decide +kernel) (pa_cons (pv 1) (pa_cons (pe_glob (v := .ref T.c_InvalidQuery) rfl T.g_InvalidQuery rfl) pa_nil)))) (pe_and (pe_not (pe_callB (call_isH hz hf) (by rfl) T.z_isinstance (by decide +kernel) (pa_cons (pv 1) (pa_cons (pe_glob (v := .ref T.c_InvalidGame) rfl T.g_InvalidGame rfl) pa_nil)))) (pe_one (pe_cmpR (op_eqD hr.units) (pe_xf T.xf_InvalidTerm T.no_InvalidTerm hz.zc hf (pv 1)) (pe_tupN pa_nil) (nomark _)))))))))
      (pss_one (ps_ret pe_bl))),
      (sSeq (sTryAs (c := .ref T.c_InvalidTerm) (i := 1) hW (fun W B hW => (sDrop (sCallSW (W := W) (by exact hW) (sCons sVar sNil))))
      (fun a cls dd x B hW rx => (sRet (sAndV (sNotV (sIsE rx (sCons sVar (sCons sHd sNil)))) (sAndV (sNotV (sIsE rx (sCons sVar (sCons sHd sNil)))) (sOp roEqD (sXf (C := T.c_InvalidTerm) rx sVar) (sTup sNil)))))))
      (sRet sBl))⟩) (fun ds μ Φ Ψ h => ?hv)
  case hv =>
    obtain ⟨t, rfl, hl, hx, hb, h⟩ := h
    refine seq_cut fun M hM => ?_
    walk_at "wp"
    have fin : ∀ a : Addr, μ a = none → ∃ b, kitE K (.mk T.c_InvalidTerm (some (["path"], [.tup []]))) (V.ref T.c_InvalidQuery) = some b ∧ True := fun _ _ => ⟨false, T.i_InvalidTerm_InvalidQuery, trivial⟩
    have nopath : ∀ x, Rd 1 (TL.tl t) x [] → ∀ n a d, headD x = some (n, a, d) → ∃ i, a = .int i := fun x hx2 n a d he => by
      rcases (hx x hx2).2 with z | ⟨n2, i, d2, z⟩
      · rw [he] at z; cases z
      · rw [he] at z; cases z; exact ⟨i, rfl⟩
    refine ⟨t, rfl, hl, fun x hx2 => (hx x hx2).1, fun x hx2 hno => ?_, fun x n a d hx2 he => .inl ⟨nopath x hx2 n a d he, ?_⟩, fun b hb1 hbad => absurd hbad (hb b hb1)⟩
    all_goals refine ⟨true, T.m_InvalidTerm_InvalidTerm, fun _ a ha => ⟨false, T.i_InvalidTerm_InvalidQuery, T.ec_InvalidTerm, fun _ => ⟨false, T.i_InvalidTerm_InvalidGame, T.ec_InvalidTerm, fun _ => ?_, nofun⟩, nofun⟩, nofun⟩
    all_goals exact ⟨_, _, 0, _, rfl, rfl, by simp, rfl, by decide, eq_self (side_ints []) (ret_same h)⟩
end
section
variable {P : Program} {w : World} {K : Fg} {mg : Str → Option Value} {base : Heap}
def szD (ws : List Int) (oc : Nat) : D := .lst [.tup (ws.map .int), .int (oc : Int)]
def tellsQ (os : List Nat) : List QT := os.map .tell
theorem tellsQ_D (os : List Nat) : qDs (tellsQ os) = os.map fun (o : Nat) => D.tup [.str "tell", .int (o : Int)] := by
  unfold tellsQ
  rw [qDs_map, List.map_map]
  rfl
theorem chain_set {os : List Nat} {i : Nat} {t : QT} (hi : i < os.length) : (qDs (tellsQ os)).set i (qD t) = qDs ((tellsQ os).set i t) := by
  rw [qDs_map, qDs_map, List.map_set]
theorem qpls_tells : ∀ os : List Nat, qPl.qPls (tellsQ os) = []
  | [] => rfl
  | o :: os => by
    show qPl.qPls (.tell o :: tellsQ os) = []
    rw [qPl.qPls, qpls_tells os]; rfl
theorem chain_pls : ∀ (os : List Nat) (i : Nat) (t : QT), i < os.length → qPl.qPls ((tellsQ os).set i t) = qPl t
  | o :: os, 0, t, _ => by
    show qPl.qPls (t :: tellsQ os) = _
    rw [qPl.qPls, qpls_tells, List.append_nil]
  | o :: os, i + 1, t, h => by
    show qPl.qPls (.tell o :: (tellsQ os).set i t) = _
    rw [qPl.qPls, chain_pls os i t (by simpa using h)]; rfl
theorem chain_deps : ∀ (os : List Nat) (i : Nat) (t : QT), qDep.qDeps ((tellsQ os).set i t) ≤ qDep t
  | [], i, t => by show qDep.qDeps [] ≤ _; rw [qDep.qDeps]; omega
  | o :: os, 0, t => by
    show qDep.qDeps (t :: tellsQ os) ≤ _
    rw [qDep.qDeps]
    have : ∀ os : List Nat, qDep.qDeps (tellsQ os) = 0 := fun os => by
      induction os with
      | nil => rfl
      | cons o os ih => show qDep.qDeps (.tell o :: tellsQ os) = 0; rw [qDep.qDeps, ih]; rfl
    rw [this]; omega
  | o :: os, i + 1, t => by
    show qDep.qDeps (.tell o :: (tellsQ os).set i t) ≤ _
    rw [qDep.qDeps]
    have := chain_deps os i t
    have e : qDep (.tell o) = 0 := by rw [qDep]
    omega
theorem lcTells {Ψ : XP} {Φ : DK} {n : Nat} {φ : DE} {δw : DEnv} {μ1 : Sto} {m oc : Nat} {st : Addr} {ns : List Int} {c : List D} (hm : m ≤ 1000) (hst : μ1 st = some (.lst c)) (h0 : StC_c ns c)
    (hs : ∀ (i : Nat) (μ2 : Sto) (X : DK) (c : List D), i < m → μ2 st = some (.lst c) → StC_c ns c → (∀ (o : Nat) c', StC_c ns c' → o < oc → X (.tup [.str "tell", .int (o : Int)]) (sset μ2 st (.lst c'))) → φ Ψ (δw.set n (some (.int (i : Int)))) μ2 X)
    (hd : ∀ (os : List Nat) c, os.length = m → (∀ o ∈ os, o < oc) → StC_c ns c → Φ (.lst (qDs (tellsQ os))) (sset μ1 st (.lst c))) : LcG (eName n) dYes φ δw Ψ (rngD 0 m) μ1 Φ := by
  refine lcG_drawN (StC_c ns) (fun i acc => ∃ os : List Nat, acc = qDs (tellsQ os) ∧ os.length = i ∧ ∀ o ∈ os, o < oc) (by rw [rngD_len]; omega) hst h0 ⟨[], rfl, rfl, by simp⟩ (fun i d μ2 X acc c2 hi hs2 sc ⟨os, e, hl, hP⟩ hla hx => ?_) (fun acc c2 ⟨os, e, hl, hP⟩ hla sc => ?_)
  · obtain ⟨hj, rfl⟩ := rngD_get hi
    rw [Int.zero_add]
    refine hs i μ2 X c2 hj hs2 sc fun o c' sc' ho => hx _ c' sc' ⟨os ++ [o], by rw [e, tellsQ_D, tellsQ_D, List.map_append]; rfl, by rw [List.length_append, hl]; rfl, fun x hx => ?_⟩
    rcases List.mem_append.mp hx with z | z
    · exact hP x z
    · rw [List.mem_singleton.mp z]; exact ho
  · rw [rngD_len] at hl
    rw [e]
    exact hd os c2 hl hP sc
theorem fstQ_at {f : D → Option (List Int)} {y : D} {p : List Int} : ∀ {xs : List D} {q s : Nat}, xs[q]? = some y → (∀ j x, j < q → xs[j]? = some x → f x = none) → f y = some p → fstQ f s xs = some (((s + q : Nat) : Int) :: p)
  | x :: xs, 0, s, h, _, hp => by
    cases h
    simp only [fstQ]; rw [hp]; rfl
  | x :: xs, q + 1, s, h, hn, hp => by
    simp only [fstQ]
    rw [hn 0 x (by omega) rfl]
    have := fstQ_at (f := f) (xs := xs) (q := q) (s := s + 1) h (fun j z hj hz => hn (j + 1) z (by omega) hz) hp
    simp only
    rw [this, show s + 1 + q = s + (q + 1) by omega]
/-- each look of a chain but the last is the first wrong part at its depth -/
def ChainW (ws : List Int) (oc : Nat) (t : QT) (pa : List Int) : Prop := ∀ r, r < pa.length → wq ws oc r (qD t) = some (pa.take r)
theorem wq_tellQ {ws : List Int} {oc o r : Nat} (h : o < oc) : wq ws oc r (qD (.tell o)) = none := by
  rw [qd_tell]
  cases r <;> rw [wq, if_pos form_tell, wqI_tell, if_pos h]
theorem chainW_step {ws : List Int} {oc p q : Nat} {os : List Nat} {t : QT} {pa : List Int} (hw : WsOk ws) (hp : p < 100) (ho : ∀ o ∈ os, o < oc) (hl : os.length = wd ws p) (hq : q < os.length) (h : ChainW ws oc t pa) : ChainW ws oc (.look p ((tellsQ os).set q t)) ((2 + (q : Int)) :: pa) := by
  have hl2 : ((tellsQ os).set q t).length = wd ws p := by rw [List.length_set]; unfold tellsQ; rw [List.length_map]; exact hl
  intro r hr
  rw [qd_look]
  cases r with
  | zero => rw [wq, if_neg (by rw [form_look hw hp hl2]; simp)]; rfl
  | succ r =>
    rw [wq, if_pos (by rw [form_look hw hp hl2]; exact decide_eq_true (by omega)), wqI_look hp]
    rw [List.length_cons] at hr
    have hty : (tellsQ os).length = os.length := by unfold tellsQ; rw [List.length_map]
    have := fstQ_at (f := wq ws oc r) (y := qD t) (xs := ((tellsQ os).set q t).map qD) (q := q) (s := 2) (by rw [List.getElem?_map, List.getElem?_set_self (by omega)]; rfl) (fun j x hj hx => by
      rw [List.getElem?_map, List.getElem?_set_ne (by omega), Option.map_eq_some_iff] at hx
      obtain ⟨s, hs, rfl⟩ := hx
      have hm := List.mem_of_getElem? hs
      unfold tellsQ at hm
      obtain ⟨o, ho2, rfl⟩ := List.mem_map.mp hm
      exact wq_tellQ (ho o ho2)) (h r (by omega))
    rw [this, List.take_succ_cons]
    rw [show ((2 + q : Nat) : Int) = 2 + (q : Int) by omega]
def c__law_chain : Con := fun ds μ Φ _ => ∃ (st : Addr) (ns : List Int) (c : List D) (ws : List Int) (oc lv : Nat) (ps : List Nat), ds = [.hd (.ref st), szD ws oc, .lst (nI ps), .int (lv : Int)] ∧ μ st = some (.lst c) ∧ StC_c ns c ∧ WsOk ws ∧ 1 ≤ oc ∧ oc ≤ 4 ∧ ps ≠ [] ∧ ps.length ≤ 100 ∧ (∀ p ∈ ps, p < 100) ∧ lv ≤ 30 ∧
  ∀ t pa c', QOk ws oc t → qDep t ≤ lv → (∀ q ∈ qPl t, q ∈ ps) → (qPl t).length ≤ lv → pa.length = lv → ChainW ws oc t pa → (1 ≤ lv → ∃ p ts, t = .look p ts) → StC_c ns c' → Φ (.lst [qD t, .tup (pa.map .int)]) (sset μ st (.lst c'))
theorem len__law_chain {ds μ Φ Ψ} (h : c__law_chain ds μ Φ Ψ) : ds.length = 4 := by obtain ⟨_, _, _, _, _, _, _, rfl, _⟩ := h; rfl
theorem ok__law_chain (T : Txt P w K mg) : FnOk P w K mg base (L2N.CX P w) 3 T.f__law_chain T.d__law_chain ["_law_state", "_law_size", "_law_places_here", "_law_levels"] (spOf K c__law_chain) := by
  refine def_okC T.F__law_chain sc__law_chain _ (fun ds μ Φ Ψ h => len__law_chain h) (fun cdv A outer s H E B hW hr =>
    have tk : L2N.Takes (cxOf (L2N.CX P w) P w K mg base N__law_chain "_law_chain" (defScope s__law_chain) T.f__law_chain cdv A outer s H E) (fun cls d _ H => E cls d H) := L2N.takes_of rfl rfl rfl rfl
    ⟨_, (pss_cons (ps_set (i := 4) sc__law_chain.nd rfl (Or.inl rfl) (pe_tupN (pa_cons pe_str (pa_cons (pe_call (ok__law_pick T) (hr.mono (by decide)) rfl T.g__law_pick T.F__law_pick.kp T.b__law_pick .nil passN (pa_cons (pv 0) (pa_cons (pe_ix ix_list (pv 1) pe_int (fun _ _ => rfl)) pa_nil))) pa_nil))))
      (pss_cons (ps_set (i := 5) sc__law_chain.nd rfl (Or.inl rfl) (pe_tupN pa_nil))
      (pss_cons (ps_for (passes_of rfl) rfl (pi_range1 rfl T.z_range (pa_cons (pv 3) pa_nil)) (pg_name (i := 6) sc__law_chain.nd rfl (Or.inl rfl)) (pss_cons (ps_set (i := 7) sc__law_chain.nd rfl (Or.inl rfl) (pe_ix ix_list (pv 2) (pe_call (ok__law_pick T) (hr.mono (by decide)) rfl T.g__law_pick T.F__law_pick.kp T.b__law_pick .nil passN (pa_cons (pv 0) (pa_cons (pe_callB call_len_seq (by rfl) T.z_len PySem.boot_len (pa_cons (pv 2) pa_nil)) pa_nil))) (fun _ _ => rfl)))
      (pss_cons (ps_set (i := 8) sc__law_chain.nd rfl (Or.inl rfl) (pe_call (ok__law_width T) (hr.mono (by decide)) rfl T.g__law_width T.F__law_width.kp T.b__law_width .nil passN (pa_cons (pe_ix ix_list (pv 1) pe_int (fun _ _ => rfl)) (pa_cons (pv 7) pa_nil))))
      (pss_cons (ps_set (i := 9) sc__law_chain.nd rfl (Or.inl rfl) (pe_call (ok__law_pick T) (hr.mono (by decide)) rfl T.g__law_pick T.F__law_pick.kp T.b__law_pick .nil passN (pa_cons (pv 0) (pa_cons (pv 8) pa_nil))))
      (pss_cons (ps_setLc (i := 10) (own := [("_law_x", 11)]) rfl sc__law_chain.nd rfl rfl (sw_true rfl rfl rfl (by decide +kernel)) (pi_range1 rfl T.z_range (pa_cons (pv 8) pa_nil)) (blkOk_by (N := N__law_chain) (sc := defScope s__law_chain) (by decide +kernel)) (fun _ _ _ _ _ => (pg_name (i := 11) sc__law_chain.nd rfl (Or.inl rfl))) (fun _ _ _ _ _ => pts_nil) (fun _ _ _ _ _ => (pe_tupN (pa_cons pe_str (pa_cons (pe_call (ok__law_pick T) (hr.mono (by decide)) rfl T.g__law_pick T.F__law_pick.kp T.b__law_pick .nil passN (pa_cons (pv 0) (pa_cons (pe_ix ix_list (pv 1) pe_int (fun _ _ => rfl)) pa_nil))) pa_nil)))))
      (pss_cons (ps_asg (pv 4) (pg_sub (pv 10) (pv 9) set_list))
      (pss_cons (ps_set (i := 4) sc__law_chain.nd rfl (Or.inl rfl) (pe_op op_catN (pe_tupN (pa_cons pe_str (pa_cons (pv 7) pa_nil))) (pe_callTy call_tupleN (by rfl) T.z_tuple (by decide +kernel) (pa_cons (pv 10) pa_nil))))
      (pss_one (ps_set (i := 5) sc__law_chain.nd rfl (Or.inl rfl) (pe_op op_catN (pe_tupN (pa_cons (pe_op op_add pe_int (pv 9)) pa_nil)) (pv 5)))))))))))
      (pss_one (ps_ret (pe_lst (pa_cons (pv 4) (pa_cons (pv 5) pa_nil)))))))),
      (sSeq (sAsg (sTup (sCons sStr (sCons (sCall (sCons sVar (sCons (sOp roIxL sVar sInt) sNil))) sNil))) sName)
      (sSeq (sAsg (sTup sNil) sName)
      (sSeq (sFor (siR1 sVar) (fun _ _ _ => sName) (fun _ _ _ => (sSeq (sAsg (sOp roIxL sVar (sCall (sCons sVar (sCons (sCB rcLen (sCons sVar sNil)) sNil)))) sName)
      (sSeq (sAsg (sCall (sCons (sOp roIxL sVar sInt) (sCons sVar sNil))) sName)
      (sSeq (sAsg (sCall (sCons sVar (sCons sVar sNil))) sName)
      (sSeq (sAsg (sLcO (siR1 sVar) (gwName List.mem_cons_self) (fun _ _ _ => sName) (fun _ _ _ => sYes) (fun _ _ _ => (sTup (sCons sStr (sCons (sCall (sCons sVar (sCons (sOp roIxL sVar sInt) sNil))) sNil))))) sName)
      (sSeq (sAsgS sVar sVar sVar)
      (sSeq (sAsg (sOp roCatT (sTup (sCons sStr (sCons sVar sNil))) (sCB rcTuple (sCons sVar sNil))) sName)
      (sAsg (sOp roCatT (sTup (sCons (sOp roInt0 sInt sVar) sNil)) sVar) sName)))))))))
      (sRet (sLst (sCons sVar (sCons sVar sNil)))))))⟩) (fun ds μ Φ Ψ h => ?hv)
  case hv =>
    obtain ⟨st, ns, c, ws, oc, lv, ps, rfl, hc, sc, hw, o1, o4, hne, h8, h100, h20, h⟩ := h
    have hpl : 0 < ps.length := List.length_pos_iff.mpr hne
    unfold szD
    refine seq_cut fun M hM => ?_
    walk_at "wp"
    refine ⟨st, ns, c, oc, rfl, hc, sc, by omega, log_small_c (by omega), fun y c1 y0 y1 sc => ?_⟩
    obtain ⟨o, rfl⟩ : ∃ o : Nat, y = (o : Int) := ⟨y.toNat, by omega⟩
    walk_at "wp"
    refine ⟨by decide, ?_⟩
    rw [hM]; clear hM M
    refine seq_cut fun M hM => ?_
    walk_at "wp"
    refine ⟨by decide, ?_⟩
    rw [hM]; clear hM M
    walk_at "wps"
    refine ⟨by omega, by omega, fun i δ' μ' => ∃ (t : QT) (pa : List Int) (c' : List D) (x1 x2 x3 x4 x5 : Option D), δ' = [some (.hd (.ref st)), some (.lst [.tup (ws.map .int), .int (oc : Int)]), some (.lst (nI ps)), some (.int (lv : Int)), some (qD t), some (.tup (pa.map .int)), x1, x2, x3, x4, x5, none] ∧ μ' st = some (.lst c') ∧ (∀ a, a ≠ st → μ a ≠ none → μ' a = μ a) ∧ StC_c ns c' ∧ QOk ws oc t ∧ qDep t ≤ i ∧ (∀ q ∈ qPl t, q ∈ ps) ∧ (qPl t).length ≤ i ∧ pa.length = i ∧ ChainW ws oc t pa ∧ (1 ≤ i → ∃ p ts, t = .look p ts), ?_, ?_, ?_⟩
    · exact ⟨.tell o, [], c1, none, none, none, none, none, rfl, sset_same, fun a a1 _ => sset_ne a1, sc, show o < oc by omega, Nat.le_refl _, fun q z => by simp [qPl] at z, Nat.le_refl _, rfl, fun r hr => absurd hr (Nat.not_lt_zero _), fun z => by omega⟩
    · rintro i d δ' μ' hi ⟨t, pa, c2, x1, x2, x3, x4, x5, rfl, w1, w2, sc, w3, w4, w5, w6, w7, w8, w9⟩
      obtain ⟨hj, rfl⟩ := rngD_get hi
      walk_at "wps"
      rw [nI_len]
      refine ⟨st, ns, c2, ps.length, rfl, w1, sc, by omega, log_small_c (by omega), fun y c3 y0 y1 sc => ?_⟩
      obtain ⟨m, rfl⟩ : ∃ m : Nat, y = (m : Int) := ⟨y.toNat, by omega⟩
      have hm : m < ps.length := by omega
      have hp100 := h100 _ (List.getElem_mem hm)
      have hpin := List.getElem_mem hm
      walk_at "wps"
      refine ⟨_, atI_nat (v := .int ((ps[m] : Nat) : Int)) (by unfold nI; rw [List.getElem?_map, List.getElem?_eq_getElem hm]; rfl), ?_⟩
      generalize ps[m] = p at *
      have hw1 := hw.wd1 p
      refine ⟨ws, p, rfl, hw, ?_⟩
      walk_at "wps"
      refine ⟨st, ns, c3, wd ws p, rfl, sset_same, sc, by omega, log_small_c (by omega), fun y c4 y0 y1 sc => ?_⟩
      rw [sset_sset]
      obtain ⟨q, rfl⟩ : ∃ q : Nat, y = (q : Int) := ⟨y.toNat, by omega⟩
      walk_at "wps"
      refine ⟨by omega, by omega, lcTells (m := wd ws p) (ns := ns) (oc := oc) (by omega) sset_same sc (fun j μ2 X c7 hj hs7 sc7 hx7 => ?_) (fun os c7 hl hP sc => own_k fun pb hpb => ?_)⟩
      · walk_at "wps"
        refine ⟨st, ns, c7, oc, rfl, hs7, sc7, by omega, log_small_c (by omega), fun y c8 y0 y1 sc8 => ?_⟩
        obtain ⟨o2, rfl⟩ : ∃ o : Nat, y = (o : Int) := ⟨y.toNat, by omega⟩
        exact ⟨by decide, hx7 o2 c8 sc8 (by omega)⟩
      rw [sset_sset] at hpb ⊢
      have hpbs : pb ≠ st := fun z => by rw [z, sset_same] at hpb; cases hpb
      have hpb0 : μ pb = none := Classical.byContradiction fun z => by
        rw [sset_ne hpbs, w2 pb hpbs z] at hpb
        exact z hpb
      have hq : q < os.length := by omega
      have hlt : (qDs (tellsQ os)).length = os.length := by rw [qDs_len]; unfold tellsQ; rw [List.length_map]
      refine ⟨pb, qDs (tellsQ os), q, q, rfl, rfl, sset_same, ixN_nat (by omega), by decide, _, .own sset_same, by rw [List.length_set]; omega, by decide, by omega, ?_⟩
      rw [chain_set hq]
      have hl2 : ((tellsQ os).set q t).length = wd ws p := by rw [List.length_set]; unfold tellsQ; rw [List.length_map]; exact hl
      refine ⟨.look p ((tellsQ os).set q t), (2 + (q : Int)) :: pa, c7, _, _, _, _, _, rfl, by rw [sset_ne hpbs.symm, sset_ne hpbs.symm, sset_same], fun a a1 a2 => ?_, sc, ⟨hp100, hl2, qoks_iff.mpr fun u hu => ?_⟩, ?_, fun r hr => ?_, ?_, by rw [List.length_cons, w7], chainW_step hw hp100 hP hl hq w8, fun _ => ⟨_, _, rfl⟩⟩
      · have ap : a ≠ pb := fun z => a2 (by rw [z, hpb0])
        rw [sset_ne ap, sset_ne ap, sset_ne a1, w2 a a1 a2]
      · rcases List.mem_or_eq_of_mem_set hu with z | z
        · unfold tellsQ at z
          obtain ⟨o3, ho3, rfl⟩ := List.mem_map.mp z
          exact hP o3 ho3
        · rw [z]; exact w3
      · rw [qDep]
        have := chain_deps os q t
        omega
      · rw [qPl, chain_pls os q t hq] at hr
        rcases List.mem_cons.mp hr with z | z
        · rw [z]; exact hpin
        · exact w5 r z
      · rw [qPl, chain_pls os q t hq, List.length_cons]
        omega
    · rintro δ' μ' ⟨t, pa, c2, x1, x2, x3, x4, x5, rfl, w1, w2, sc, w3, w4, w5, w6, w7, w8, w9⟩
      walk_at "wps"
      refine ⟨by decide, sset μ st (.lst c2), fun a x e => ?_, h t pa c2 w3 w4 w5 w6 w7 w8 w9 sc⟩
      by_cases as : a = st
      · subst as
        rw [sset_same] at e
        cases e
        exact w1
      · rw [sset_ne as] at e
        rw [w2 a as (by rw [e]; nofun), e]
end
section
variable {P : Program} {w : World} {K : Fg} {mg : Str → Option Value} {base : Heap}
/-- a term of so many looks at one place of two options, as deep as it must be -/
structure ManyT (p m : Nat) (t : QT) : Prop where
  ok : ∀ ws oc, WsOk ws → 1 ≤ oc → wd ws p = 2 → QOk ws oc t
  len : (qPl t).length = m
  pl : ∀ q ∈ qPl t, q = p
  d0 : m = 0 → qDep t = 0
  d1 : 1 ≤ m → 2 ^ qDep t ≤ 2 * m
theorem many_two {p m a b : Nat} {s t : QT} (hp : p < 100) (ha : ManyT p a s) (hb : ManyT p b t) (h : a + b + 1 = m) (h1 : 2 * a ≤ m) (h2 : 2 * b ≤ m) : ManyT p m (.look p [s, t]) := by
  have e : qPl (.look p [s, t]) = p :: (qPl s ++ (qPl t ++ [])) := by rw [qPl, qPl.qPls, qPl.qPls, qPl.qPls]
  refine ⟨fun ws oc hw ho hwd => ⟨hp, by rw [hwd]; rfl, ha.ok ws oc hw ho hwd, hb.ok ws oc hw ho hwd, trivial⟩, ?_, fun q hq => ?_, fun z => by omega, fun _ => ?_⟩
  · rw [e, List.length_cons, List.length_append, List.append_nil, ha.len, hb.len]; omega
  · rw [e, List.append_nil] at hq
    rcases List.mem_cons.mp hq with z | z
    · exact z
    · rcases List.mem_append.mp z with z | z
      · exact ha.pl q z
      · exact hb.pl q z
  · have ed : qDep (.look p [s, t]) = max (qDep s) (max (qDep t) 0) + 1 := by rw [qDep, qDep.qDeps, qDep.qDeps, qDep.qDeps]
    have hs : 2 ^ (qDep s + 1) ≤ 2 * m := by
      rw [Nat.pow_succ]
      rcases Nat.eq_zero_or_pos a with z | z
      · rw [ha.d0 z]; omega
      · have := ha.d1 z; omega
    have ht : 2 ^ (qDep t + 1) ≤ 2 * m := by
      rw [Nat.pow_succ]
      rcases Nat.eq_zero_or_pos b with z | z
      · rw [hb.d0 z]; omega
      · have := hb.d1 z; omega
    rw [ed]
    rcases Nat.le_total (qDep s) (qDep t) with z | z
    · rw [show max (qDep s) (max (qDep t) 0) = qDep t by omega]; exact ht
    · rw [show max (qDep s) (max (qDep t) 0) = qDep s by omega]; exact hs
def c__law_many_looks (n : Nat) : Con := fun ds μ Φ _ => ∃ (m p : Nat), ds = [.int (m : Int), .int (p : Int), .int 2] ∧ 1 ≤ n ∧ 2 * m < 2 ^ n ∧ m ≤ 1000 ∧ p < 100 ∧ ∀ t, ManyT p m t → Φ (qD t) μ
theorem len__law_many_looks {n ds μ Φ Ψ} (h : c__law_many_looks n ds μ Φ Ψ) : ds.length = 3 := by obtain ⟨_, _, rfl, _⟩ := h; rfl
theorem step__law_many_looks (T : Txt P w K mg) {k : Nat} (hk : 4 ≤ k) (n : Nat) (ih__law_many_looks : FnOk P w K mg base (L2N.CX P w) k T.f__law_many_looks T.d__law_many_looks ["_law_many", "_law_place", "_law_options"] (spOf K (c__law_many_looks n))) : FnOk P w K mg base (L2N.CX P w) (k + 1) T.f__law_many_looks T.d__law_many_looks ["_law_many", "_law_place", "_law_options"] (spOf K (c__law_many_looks (n + 1))) := by
  refine def_okC T.F__law_many_looks sc__law_many_looks _ (fun ds μ Φ Ψ h => len__law_many_looks h) (fun cdv A outer s H E B hW hr =>
    have tk : L2N.Takes (cxOf (L2N.CX P w) P w K mg base N__law_many_looks "_law_many_looks" (defScope s__law_many_looks) T.f__law_many_looks cdv A outer s H E) (fun cls d _ H => E cls d H) := L2N.takes_of rfl rfl rfl rfl
    ⟨_, (pss_cons (ps_if (pt_cmpR op_eq (pv 0) pe_int (nomark _)) (pss_one (ps_ret (pe_tupN (pa_cons pe_str (pa_cons pe_int pa_nil))))) pss_nil)
      (pss_cons (ps_set (i := 3) sc__law_many_looks.nd rfl (Or.inl rfl) (pe_op op_sub (pv 0) pe_int))
      (pss_cons (ps_set (i := 4) sc__law_many_looks.nd rfl (Or.inl rfl) (pe_lst pa_nil))
      (pss_cons (ps_for (passes_of rfl) rfl (pi_range1 rfl T.z_range (pa_cons (pv 2) pa_nil)) (pg_name (i := 5) sc__law_many_looks.nd rfl (Or.inl rfl)) (pss_cons (ps_set (i := 6) sc__law_many_looks.nd rfl (Or.inl rfl) (pe_op op_fdivW (pv 3) (pe_op op_sub (pv 2) (pv 5))))
      (pss_cons (ps_expr (pe_bm PySem.F.plainAttrs_list PySem.F.slot_list_append PySem.F.type_list_append mt_append (pv 4) (pa_cons (pe_call ih__law_many_looks hr rfl T.g__law_many_looks T.F__law_many_looks.kp T.b__law_many_looks .nil passN (pa_cons (pv 6) (pa_cons (pv 1) (pa_cons (pv 2) pa_nil)))) pa_nil)))
      (pss_one (ps_set (i := 3) sc__law_many_looks.nd rfl (Or.inl rfl) (pe_op op_sub (pv 3) (pv 6)))))))
      (pss_one (ps_ret (pe_op op_catN (pe_tupN (pa_cons pe_str (pa_cons (pv 1) pa_nil))) (pe_callTy call_tupleN (by rfl) T.z_tuple (by decide +kernel) (pa_cons (pv 4) pa_nil))))))))),
      (sSeq (sIfS (sTest (sOp roEq sVar sInt)) (sRet (sTup (sCons sStr (sCons sInt sNil)))) sNext)
      (sSeq (sAsg (sOp roInt0 sVar sInt) sName)
      (sSeq (sAsg (sOwn sNil) sName)
      (sSeq (sFor (siR1 sVar) (fun _ _ _ => sName) (fun _ _ _ => (sSeq (sAsg (sOp roInt sVar (sOp roInt0 sVar sVar)) sName)
      (sSeq (sDrop (sApp sVar (sCall (sCons sVar (sCons sVar (sCons sVar sNil))))))
      (sAsg (sOp roInt0 sVar sVar) sName)))))
      (sRet (sOp roCatT (sTup (sCons sStr (sCons sVar sNil))) (sCB rcTuple (sCons sVar sNil))))))))⟩) (fun ds μ Φ Ψ h => ?hv)
  case hv =>
    obtain ⟨m, p, rfl, hn1, hn, hm, hp, h⟩ := h
    rw [Nat.pow_succ] at hn
    refine seq_cut fun M hM => ?_
    walk_at "wp"
    refine ⟨fun z => ⟨by decide, ret_same ?_⟩, fun z => ?_⟩
    · have := h (.tell 0) ⟨fun ws oc _ ho _ => by show 0 < oc; omega, (by rw [qPl]; show 0 = m; omega), fun q hq => (by rw [qPl] at hq; cases hq), fun _ => (by rw [qDep]), fun q => (by omega)⟩
      rw [qd_tell] at this
      exact this
    rw [hM]; clear hM M
    refine seq_cut fun M hM => ?_
    walk_at "wp"
    rw [hM]; clear hM M
    refine seq_cut fun M hM => ?_
    walk_at "wp"
    refine ⟨by decide, fun q hq => ?_⟩
    rw [hM]; clear hM M
    refine seq_cut fun M hM => ?_
    walk_at "wp"
    refine ⟨by decide, by decide, fun i δ' μ' => (∃ (ts : List QT) (ρ : Nat) (as : List Nat), μ' = sset μ q (.lst (qDs ts)) ∧ ts.length = i ∧ as.length = i ∧ (∀ j s a, ts[j]? = some s → as[j]? = some a → ManyT p a s ∧ 2 * a ≤ m) ∧ as.sum + ρ + 1 = m ∧ (i = 1 → 2 * ρ ≤ m) ∧ (i = 2 → ρ = 0) ∧ ∃ x5 x6 : Option D, δ' = [some (.int (m : Int)), some (.int (p : Int)), some (.int 2), some (.int (ρ : Int)), some (.hd (.ref q)), x5, x6]), ⟨[], m - 1, [], rfl, rfl, rfl, fun j s a h _ => absurd (List.mem_of_getElem? h) List.not_mem_nil, (by show 0 + (m - 1) + 1 = m; omega), fun z => (by omega), fun z => (by omega), none, none, by rw [show ((m - 1 : Nat) : Int) = (m : Int) - 1 by omega]⟩, ?_, ?_⟩
    · rintro i d δ' μ' hi ⟨ts, ρ, as, rfl, hl, hal, hT, hsum, i1, i2, x5, x6, rfl⟩
      obtain ⟨hj, rfl⟩ := rngD_get hi
      have hj : i < 2 := hj
      walk_at "wps"
      obtain ⟨e, he, ed, e2, e3⟩ : ∃ e : Nat, (ρ : Int) / (2 - (i : Int)) = (e : Int) ∧ e ≤ ρ ∧ 2 * e ≤ m ∧ (i = 1 → e = ρ) ∧ (i = 0 → 2 * (ρ - e) ≤ m) := by
        have hs : as.sum + ρ + 1 = m := hsum
        rcases (show i = 0 ∨ i = 1 by omega) with rfl | rfl
        · exact ⟨ρ / 2, by simp, by omega, by omega, fun z => by omega, fun _ => by
            have : as = [] := by simpa using hal
            subst this
            have hs : 0 + ρ + 1 = m := hs
            omega⟩
        · exact ⟨ρ, by simp, by omega, by have := i1 rfl; omega, fun _ => rfl, fun z => by omega⟩
      rw [he]
      have hm1 : 1 ≤ m := by have hs : as.sum + ρ + 1 = m := hsum; omega
      refine ⟨?_, e, p, rfl, by rcases Nat.eq_zero_or_pos n with z | z; (rw [z] at hn; omega); exact z, by omega, by omega, hp, fun t ht => ?_⟩
      · rcases (show i = 0 ∨ i = 1 by omega) with rfl | rfl <;> exact ⟨by decide, by decide⟩
      refine ⟨_, sset_same, by rw [qDs_len]; omega, ts ++ [t], ρ - e, as ++ [e], ?_, by rw [List.length_append, hl]; rfl, by rw [List.length_append, hal]; rfl, fun j s a hs2 ha2 => ?_, by rw [List.sum_append]; simp; omega, fun z => e3.2 (by omega), fun z => by have := e3.1 (by omega); omega, _, _, by rw [show ((ρ - e : Nat) : Int) = (ρ : Int) - (e : Int) by omega]⟩
      · rw [sset_sset, qDs_map, qDs_map, List.map_append]; rfl
      · by_cases z : j < i
        · rw [List.getElem?_append_left (by omega)] at hs2 ha2
          exact hT j s a hs2 ha2
        · have hj2 := (List.getElem?_eq_some_iff.mp hs2).1
          rw [List.length_append, List.length_singleton] at hj2
          obtain rfl : j = i := by omega
          rw [List.getElem?_append_right (by omega), hl] at hs2
          rw [List.getElem?_append_right (by omega), hal] at ha2
          simp at hs2 ha2
          subst hs2 ha2
          exact ⟨ht, e2⟩
    · rintro δ' μ' ⟨ts, ρ, as, rfl, hl, hal, hT, hsum, i1, i2, x5, x6, rfl⟩
      rw [hM]; clear hM M
      have hl : ts.length = 2 := hl
      have hal : as.length = 2 := hal
      walk_at "wps"
      obtain ⟨s, t, rfl⟩ : ∃ s t, ts = [s, t] := by
        match ts, hl with
        | [s, t], _ => exact ⟨s, t, rfl⟩
      obtain ⟨a, b, rfl⟩ : ∃ a b, as = [a, b] := by
        match as, hal with
        | [a, b], _ => exact ⟨a, b, rfl⟩
      obtain ⟨hs, ha⟩ := hT 0 s a rfl rfl
      obtain ⟨ht, hb⟩ := hT 1 t b rfl rfl
      have ρ0 := i2 rfl
      have hsum : a + (b + 0) + ρ + 1 = m := hsum
      refine ⟨by decide, by rw [qDs_len]; show 2 + 2 ≤ 100000; decide, μ, Sub.set Sub.refl hq, ?_⟩
      have := h (.look p [s, t]) (many_two hp hs ht (by omega) ha hb)
      rw [qD] at this
      exact this
end
section
variable {P : Program} {w : World} {K : Fg} {mg : Str → Option Value} {base : Heap}
/-- a term with one wrong part: it can be looked at, and the wrong part is the first one, whatever stands around it -/
structure SpT (ws : List Int) (oc k : Nat) (d : D) (p : List Int) : Prop where
  pl : ∀ r, qpl r d
  wr : ∀ r, k ≤ r → wq ws oc r d = some p
theorem qpl_int {i : Int} : ∀ r, qpl r (.int i)
  | 0 => ⟨⟨nofun, .inl ⟨_, rfl⟩⟩, nofun⟩
  | _ + 1 => ⟨⟨nofun, .inl ⟨_, rfl⟩⟩, nofun⟩
theorem qpl_nil : ∀ r, qpl r (.tup [])
  | 0 => ⟨⟨fun ds h => by cases h; simp, .inr (.inr (.inl rfl))⟩, nofun⟩
  | _ + 1 => ⟨⟨fun ds h => by cases h; simp, .inr (.inr (.inl rfl))⟩, nofun⟩
theorem qpl_cons {w : Str} {xs : List D} (hl : xs.length < 1000) (h : ∀ y ∈ xs, ∀ r, qpl r y) : ∀ r, qpl r (.tup (.str w :: xs))
  | 0 => ⟨⟨fun ds e => by cases e; rw [List.length_cons]; omega, .inr (.inr (.inr ⟨_, _, rfl⟩))⟩, fun w' xs' e y hy => by cases e; exact qh_leaf (qpl_h (h y hy 0))⟩
  | r + 1 => ⟨⟨fun ds e => by cases e; rw [List.length_cons]; omega, .inr (.inr (.inr ⟨_, _, rfl⟩))⟩, fun w' xs' e y hy => by cases e; exact h y hy r⟩
theorem wq_nof {ws : List Int} {oc r : Nat} {d : D} (h : qForm ws r d = false) : wq ws oc r d = some [] := by cases r <;> (rw [wq, if_neg (by rw [h]; decide)])
theorem form_look3 {ws : List Int} {r : Nat} {x y : D} {ys : List D} : qForm ws r (.tup (.str "look" :: x :: y :: ys)) = (decide (0 < r) && fitW ws x (ys.length + 1)) := by
  simp only [qForm]; rw [if_neg (by decide), if_pos trivial]
theorem form_look2 {ws : List Int} {r : Nat} {x : D} : qForm ws r (.tup [.str "look", x]) = false := by
  simp only [qForm]; rw [if_neg (by decide), if_pos trivial]
theorem wqI_bad {oc : Nat} {f : D → Option (List Int)} {x : D} {xs : List D} (h : blwQ 100 x = false) : wqI oc f (.tup (.str "look" :: x :: xs)) = some [1] := by
  simp only [wqI]
  rw [if_neg (by decide), if_neg (by rw [h]; decide)]
theorem fit_at {ws : List Int} {p n : Nat} (hp : p < 100) : fitW ws (.int (p : Int)) n = decide (n = wd ws p) := by
  unfold fitW; simp only; rw [if_pos (by omega), Int.toNat_natCast]
theorem tell_spoilt {ws : List Int} {oc o : Nat} {z : Int} {pa : List Int} (z0 : 0 ≤ z) (z1 : z < 6) : ∃ d p, atI [D.tup [D.str (Str.ofString "tell"), D.int oc], D.tup [D.str (Str.ofString "tell")], D.tup [D.str (Str.ofString "tell"), D.int o, D.int 0], D.tup [D.str (Str.ofString "told"), D.int o], D.tup [], D.int 7] z = some d ∧ SpT ws oc 0 d p ∧ p.length ≤ 1 ∧
    atI [D.tup (pa.map D.int ++ [D.int 1]), D.tup (pa.map D.int)] (if 1 < z then 1 else z) = some (.tup ((pa ++ p).map .int)) := by
  have two : atI [D.tup (pa.map D.int ++ [D.int 1]), D.tup (pa.map D.int)] 1 = some (.tup ((pa ++ []).map .int)) := by rw [List.append_nil]; exact atI_n (j := 1) rfl
  have nof : ∀ {d : D}, (∀ r, qForm ws r d = false) → (∀ r, qpl r d) → SpT ws oc 0 d [] := fun h1 h2 => ⟨h2, fun r _ => wq_nof (h1 r)⟩
  have one : ∀ {w : Str} {x : D}, (∀ r, qpl r x) → ∀ r, qpl r (.tup [.str w, x]) := fun h => qpl_cons (by simp) fun y hy => by rw [List.mem_singleton.mp hy]; exact h
  rcases (show z = 0 ∨ z = 1 ∨ z = 2 ∨ z = 3 ∨ z = 4 ∨ z = 5 by omega) with rfl | rfl | rfl | rfl | rfl | rfl
  · refine ⟨_, [1], atI_n (j := 0) rfl, ⟨one qpl_int, fun r _ => ?_⟩, by simp, ?_⟩
    · have e : wqI oc (match r with | 0 => fun _ => none | r + 1 => wq ws oc r) (.tup [.str (Str.ofString "tell"), .int (oc : Int)]) = some [1] := by rw [wqI_tell, if_neg (by omega)]
      cases r <;> (rw [wq, if_pos form_tell]; exact e)
    · rw [if_neg (by decide), List.map_append]; exact atI_n (j := 0) rfl
  · exact ⟨_, [], atI_n (j := 1) rfl, nof (fun r => by simp only [qForm]; rw [if_pos trivial]; rfl) (qpl_cons (by simp) (by simp)), by simp, by first | (rw [if_neg (by decide)]; exact two) | (rw [if_pos (by decide)]; exact two)⟩
  · exact ⟨_, [], atI_n (j := 2) rfl, nof (fun r => by simp only [qForm]; rw [if_pos trivial]; rfl) (qpl_cons (by simp) fun y hy => by
      simp only [List.mem_cons, List.not_mem_nil, or_false] at hy
      rcases hy with rfl | rfl <;> exact qpl_int), by simp, by first | (rw [if_neg (by decide)]; exact two) | (rw [if_pos (by decide)]; exact two)⟩
  · exact ⟨_, [], atI_n (j := 3) rfl, nof (fun r => by simp only [qForm]; rw [if_neg (by decide +kernel), if_neg (by decide +kernel)]) (one qpl_int), by simp, by first | (rw [if_neg (by decide)]; exact two) | (rw [if_pos (by decide)]; exact two)⟩
  · exact ⟨_, [], atI_n (j := 4) rfl, nof (fun r => rfl) qpl_nil, by simp, by first | (rw [if_neg (by decide)]; exact two) | (rw [if_pos (by decide)]; exact two)⟩
  · exact ⟨_, [], atI_n (j := 5) rfl, nof (fun r => rfl) qpl_int, by simp, by first | (rw [if_neg (by decide)]; exact two) | (rw [if_pos (by decide)]; exact two)⟩
def c__law_spoilt (n : Nat) : Con := fun ds μ Φ _ => ∃ (st : Addr) (ns : List Int) (c : List D) (ws : List Int) (oc : Nat) (t : QT) (pa : List Int), ds = [.hd (.ref st), qD t, .int (oc : Int), .tup (pa.map .int)] ∧ μ st = some (.lst c) ∧ StC_c ns c ∧ WsOk ws ∧ 1 ≤ oc ∧ oc ≤ 4 ∧ QOk ws oc t ∧ qDep t < n ∧ pa.length + qDep t ≤ 30 ∧
  ∀ d p c', SpT ws oc (qDep t) d p → p.length ≤ qDep t + 1 → StC_c ns c' → Φ (.lst [d, .tup ((pa ++ p).map .int)]) (sset μ st (.lst c'))
theorem len__law_spoilt {n ds μ Φ Ψ} (h : c__law_spoilt n ds μ Φ Ψ) : ds.length = 4 := by obtain ⟨_, _, _, _, _, _, _, rfl, _⟩ := h; rfl
theorem step__law_spoilt (T : Txt P w K mg) {k : Nat} (hk : 4 ≤ k) (n : Nat) (ih__law_spoilt : FnOk P w K mg base (L2N.CX P w) k T.f__law_spoilt T.d__law_spoilt ["_law_state", "_law_term_here", "_law_outcomes", "_law_path"] (spOf K (c__law_spoilt n))) : FnOk P w K mg base (L2N.CX P w) (k + 1) T.f__law_spoilt T.d__law_spoilt ["_law_state", "_law_term_here", "_law_outcomes", "_law_path"] (spOf K (c__law_spoilt (n + 1))) := by
  refine def_okC T.F__law_spoilt sc__law_spoilt _ (fun ds μ Φ Ψ h => len__law_spoilt h) (fun cdv A outer s H E B hW hr =>
    have tk : L2N.Takes (cxOf (L2N.CX P w) P w K mg base N__law_spoilt "_law_spoilt" (defScope s__law_spoilt) T.f__law_spoilt cdv A outer s H E) (fun cls d _ H => E cls d H) := L2N.takes_of rfl rfl rfl rfl
    ⟨_, (pss_cons (ps_set (i := 4) sc__law_spoilt.nd rfl (Or.inl rfl) (pe_call (ok__law_pick T) (hr.mono (by omega)) rfl T.g__law_pick T.F__law_pick.kp T.b__law_pick .nil passN (pa_cons (pv 0) (pa_cons pe_int pa_nil))))
      (pss_cons (ps_if (pt_cmpR op_eq (pe_ix ix_tup (pv 1) pe_int (fun _ _ => rfl)) pe_str (nomark _)) (pss_cons (ps_set (i := 7) sc__law_spoilt.nd rfl (Or.inl rfl) (pe_lst (pa_cons (pe_tupN (pa_cons pe_str (pa_cons (pv 2) pa_nil))) (pa_cons (pe_tupN (pa_cons pe_str pa_nil)) (pa_cons (pe_tupN (pa_cons pe_str (pa_cons (pe_ix ix_tup (pv 1) pe_int (fun _ _ => rfl)) (pa_cons pe_int pa_nil)))) (pa_cons (pe_tupN (pa_cons pe_str (pa_cons (pe_ix ix_tup (pv 1) pe_int (fun _ _ => rfl)) pa_nil))) (pa_cons (pe_tupN pa_nil) (pa_cons pe_int pa_nil))))))))
      (pss_one (ps_ret (pe_lst (pa_cons (pe_ix ix_list (pv 7) (pv 4) (fun _ _ => rfl)) (pa_cons (pe_ix ix_list (pe_lst (pa_cons (pe_op op_catN (pv 3) (pe_tupN (pa_cons pe_int pa_nil))) (pa_cons (pv 3) pa_nil))) (pe_callB (call_min2 rfl) (by rfl) T.z_min (by decide +kernel) (pa_cons (pv 4) (pa_cons pe_int pa_nil))) (fun _ _ => rfl)) pa_nil)))))) pss_nil)
      (pss_cons (ps_if (pt_cmpR op_eq (pv 4) pe_int (nomark _)) (pss_one (ps_ret (pe_lst (pa_cons (pe_op op_catN (pe_tupN (pa_cons pe_str (pa_cons pe_int pa_nil))) (pe_slice sl_tupN (pv 1) (po_some pe_int) po_none)) (pa_cons (pe_op op_catN (pv 3) (pe_tupN (pa_cons pe_int pa_nil))) pa_nil))))) pss_nil)
      (pss_cons (ps_if (pt_cmpR op_eq (pv 4) pe_int (nomark _)) (pss_one (ps_ret (pe_lst (pa_cons (pe_op op_catN (pv 1) (pe_tupN (pa_cons (pe_tupN (pa_cons pe_str (pa_cons pe_int pa_nil))) pa_nil))) (pa_cons (pv 3) pa_nil))))) pss_nil)
      (pss_cons (ps_if (pt_cmpR op_eq (pv 4) pe_int (nomark _)) (pss_one (ps_ret (pe_lst (pa_cons (pe_slice sl_tupN (pv 1) po_none (po_some (pe_op op_sub (pe_callB call_len_seq (by rfl) T.z_len PySem.boot_len (pa_cons (pv 1) pa_nil)) pe_int))) (pa_cons (pv 3) pa_nil))))) pss_nil)
      (pss_cons (ps_set (i := 5) sc__law_spoilt.nd rfl (Or.inl rfl) (pe_op op_add pe_int (pe_call (ok__law_pick T) (hr.mono (by omega)) rfl T.g__law_pick T.F__law_pick.kp T.b__law_pick .nil passN (pa_cons (pv 0) (pa_cons (pe_op op_sub (pe_callB call_len_seq (by rfl) T.z_len PySem.boot_len (pa_cons (pv 1) pa_nil)) pe_int) pa_nil)))))
      (pss_cons (ps_set (i := 6) sc__law_spoilt.nd rfl (Or.inl rfl) (pe_call ih__law_spoilt hr rfl T.g__law_spoilt T.F__law_spoilt.kp T.b__law_spoilt .nil passN (pa_cons (pv 0) (pa_cons (pe_ix ix_tup (pv 1) (pv 5) (fun _ _ => rfl)) (pa_cons (pv 2) (pa_cons (pe_op op_catN (pv 3) (pe_tupN (pa_cons (pv 5) pa_nil))) pa_nil))))))
      (pss_one (ps_ret (pe_lst (pa_cons (pe_op op_catN (pe_op op_catN (pe_slice sl_tupN (pv 1) po_none (po_some (pv 5))) (pe_tupN (pa_cons (pe_ix ix_list (pv 6) pe_int (fun _ _ => rfl)) pa_nil))) (pe_slice sl_tupN (pv 1) (po_some (pe_op op_add (pv 5) pe_int)) po_none)) (pa_cons (pe_ix ix_list (pv 6) pe_int (fun _ _ => rfl)) pa_nil)))))))))))),
      (sSeq (sAsg (sCall (sCons sVar (sCons sInt sNil))) sName)
      (sSeq (sIfS (sTest (sOp roEq (sOp roIxT sVar sInt) sStr)) (sSeq (sAsg (sLst (sCons (sTup (sCons sStr (sCons sVar sNil))) (sCons (sTup (sCons sStr sNil)) (sCons (sTup (sCons sStr (sCons (sOp roIxT sVar sInt) (sCons sInt sNil)))) (sCons (sTup (sCons sStr (sCons (sOp roIxT sVar sInt) sNil))) (sCons (sTup sNil) (sCons sInt sNil))))))) sName)
      (sRet (sLst (sCons (sOp roIxL sVar sVar) (sCons (sOp roIxL (sLst (sCons (sOp roCatT sVar (sTup (sCons sInt sNil))) (sCons sVar sNil))) (sCB rcMin2 (sCons sVar (sCons sInt sNil)))) sNil))))) sNext)
      (sSeq (sIfS (sTest (sOp roEq sVar sInt)) (sRet (sLst (sCons (sOp roCatT (sTup (sCons sStr (sCons sInt sNil))) (sSlT sVar (sPart sInt) sNoPart)) (sCons (sOp roCatT sVar (sTup (sCons sInt sNil))) sNil)))) sNext)
      (sSeq (sIfS (sTest (sOp roEq sVar sInt)) (sRet (sLst (sCons (sOp roCatT sVar (sTup (sCons (sTup (sCons sStr (sCons sInt sNil))) sNil))) (sCons sVar sNil)))) sNext)
      (sSeq (sIfS (sTest (sOp roEq sVar sInt)) (sRet (sLst (sCons (sSlT sVar sNoPart (sPart (sOp roInt0 (sCB rcLen (sCons sVar sNil)) sInt))) (sCons sVar sNil)))) sNext)
      (sSeq (sAsg (sOp roInt0 sInt (sCall (sCons sVar (sCons (sOp roInt0 (sCB rcLen (sCons sVar sNil)) sInt) sNil)))) sName)
      (sSeq (sAsg (sCall (sCons sVar (sCons (sOp roIxT sVar sVar) (sCons sVar (sCons (sOp roCatT sVar (sTup (sCons sVar sNil))) sNil))))) sName)
      (sRet (sLst (sCons (sOp roCatT (sOp roCatT (sSlT sVar sNoPart (sPart sVar)) (sTup (sCons (sOp roIxL sVar sInt) sNil))) (sSlT sVar (sPart (sOp roInt0 sVar sInt)) sNoPart)) (sCons (sOp roIxL sVar sInt) sNil)))))))))))⟩) (fun ds μ Φ Ψ h => ?hv)
  case hv =>
    obtain ⟨st, ns, c, ws, oc, t, pa, rfl, hc, sc, hw, o1, o4, ht, hn, hpl, h⟩ := h
    refine seq_cut fun M hM => ?_
    walk_at "wp"
    refine ⟨st, ns, c, 6, rfl, hc, sc, by decide, by decide, fun z c1 z0 z1 sc => ?_⟩
    rw [hM]; clear hM M
    refine seq_cut fun M hM => ?_
    cases t with
    | tell o =>
      rw [qDep] at hpl h
      rw [qd_tell]
      walk_at "wp"
      refine ⟨?_, fun z => absurd trivial z⟩
      obtain ⟨d, p, h1, h2, h3, h4⟩ := tell_spoilt (ws := ws) (oc := oc) (o := o) (pa := pa) z0 z1
      walk_at "wps"
      exact ⟨by decide, by decide, by decide, by decide, by decide, by decide, d, h1, by decide, by omega, by decide, _, h4, by decide, ret_same (h d p c1 h2 (by rw [Nat.zero_add]; exact h3) sc)⟩
    | look p ts =>
      rw [qd_look]
      walk_at "wp"
      refine ⟨fun q => absurd q (by decide), fun _ => ?_⟩
      rw [hM]; clear hM M
      refine seq_cut fun M hM => ?_
      walk_at "wp"
      obtain ⟨hp, hlt, hts⟩ := ht
      rw [qoks_iff] at hts
      have hw1 := hw.wd1 p
      have hdl := qd_look (p := p) (ts := ts)
      rw [qDep] at hpl h hn
      have hD : ∀ y ∈ ts.map qD, ∀ r, qpl r y := fun y hy r => by obtain ⟨t, htm, rfl⟩ := List.mem_map.mp hy; exact qpl_q hw (hts t htm)
      have hc2 : DW.cutD (D.str (Str.ofString "look") :: D.int p :: ts.map qD) (some 2) none = ts.map qD := cut_from 2
      refine ⟨fun q => ⟨by decide, by rw [hc2, List.length_map]; omega, by decide, by omega, by decide, ret_same ?_⟩, fun q0 => ?_⟩
      · rw [hc2]
        have := h (.tup (.str (Str.ofString "look") :: .int 100 :: ts.map qD)) [1] c1 ⟨qpl_cons (by simp; omega) fun y hy => by
          rcases List.mem_cons.mp hy with rfl | hy
          · exact qpl_int
          · exact hD y hy, fun r hr => ?_⟩ (by simp) sc
        · rw [List.map_append] at this; exact this
        · obtain ⟨r, rfl⟩ : ∃ m, r = m + 1 := ⟨r - 1, by omega⟩
          cases ts with
          | nil => simp at hlt; omega
          | cons s ts =>
            rw [wq, if_pos (by rw [List.map_cons, form_look3, decide_eq_true (by omega)]; rfl), wqI_bad rfl]
      rw [hM]; clear hM M
      refine seq_cut fun M hM => ?_
      walk_at "wp"
      have tl0 : ∀ r, qpl r (.tup [.str (Str.ofString "tell"), .int 0]) := qpl_cons (by simp) fun y hy => by rw [List.mem_singleton.mp hy]; exact qpl_int
      have nofit : ∀ (xs : List D) (r : Nat), xs.length ≠ wd ws p → qForm ws r (.tup (.str "look" :: .int (p : Int) :: xs)) = false := fun xs r hx => by
        cases xs with
        | nil => exact form_look2
        | cons x xs => rw [form_look3, fit_at hp, show decide (xs.length + 1 = wd ws p) = false from decide_eq_false (by rw [List.length_cons] at hx; exact hx), Bool.and_false]
      refine ⟨fun q => ⟨by decide, by decide, by omega, by decide, ret_same ?_⟩, fun q1 => ?_⟩
      · have := h (.tup (.str (Str.ofString "look") :: .int (p : Int) :: (ts.map qD ++ [.tup [.str (Str.ofString "tell"), .int 0]]))) [] c1 ⟨qpl_cons (by simp; omega) fun y hy => by
          rcases List.mem_cons.mp hy with rfl | hy
          · exact qpl_int
          · rcases List.mem_append.mp hy with hy | hy
            · exact hD y hy
            · rw [List.mem_singleton.mp hy]; exact tl0, fun r hr => wq_nof (nofit _ r (by simp; omega))⟩ (by simp) sc
        rw [List.append_nil] at this
        exact this
      rw [hM]; clear hM M
      refine seq_cut fun M hM => ?_
      walk_at "wp"
      obtain ⟨m, hm⟩ : ∃ m, ts.length = m + 1 := ⟨ts.length - 1, by omega⟩
      refine ⟨fun q => ⟨by decide, ret_same ?_⟩, fun q2 => ?_⟩
      · rw [show ((ts.length + 1 + 1 : Nat) : Int) - 1 = ((m + 2 : Nat) : Int) by omega]
        rw [show DW.cutD (D.str (Str.ofString "look") :: D.int p :: ts.map qD) none (some ((m + 2 : Nat) : Int)) = D.str (Str.ofString "look") :: D.int p :: (ts.map qD).take m from by rw [show DW.cutD (D.str (Str.ofString "look") :: D.int p :: ts.map qD) none (some ((m + 2 : Nat) : Int)) = (D.str (Str.ofString "look") :: D.int p :: ts.map qD).take (m + 2) from cut_to (m + 2)]; rfl]
        have := h (.tup (.str (Str.ofString "look") :: .int (p : Int) :: (ts.map qD).take m)) [] c1 ⟨qpl_cons (by simp; omega) fun y hy => by
          rcases List.mem_cons.mp hy with rfl | hy
          · exact qpl_int
          · exact hD y (List.mem_of_mem_take hy), fun r hr => wq_nof (nofit _ r (by simp; omega))⟩ (by simp) sc
        rw [List.append_nil] at this
        exact this
      rw [hM]; clear hM M
      refine seq_cut fun M hM => ?_
      walk_at "wp"
      refine ⟨st, ns, c1, ts.length, by rw [show ((ts.length + 1 + 1 : Nat) : Int) - 2 = (ts.length : Int) by omega], sset_same, sc, by omega, log_small_c (by omega), fun y c2 y0 y1 sc => ?_⟩
      obtain ⟨q, rfl⟩ : ∃ q : Nat, y = (q : Int) := ⟨y.toNat, by omega⟩
      have hq : q < ts.length := by omega
      have hdq := qdeps_le (List.getElem_mem hq)
      rw [sset_sset]
      walk_at "wp"
      rw [hM]; clear hM M
      refine seq_cut fun M hM => ?_
      walk_at "wp"
      refine ⟨qD ts[q], ?_, by decide, by omega, ?_⟩
      · rw [show (2 : Int) + (q : Int) = ((q + 1 + 1 : Nat) : Int) by omega]
        exact atI_nat (by rw [List.getElem?_cons_succ, List.getElem?_cons_succ, List.getElem?_map, List.getElem?_eq_getElem hq]; rfl)
      refine ⟨st, ns, c2, ws, oc, ts[q], pa ++ [2 + (q : Int)], by rw [List.map_append]; rfl, sset_same, sc, hw, o1, o4, hts _ (List.getElem_mem hq), by omega, by rw [List.length_append, List.length_singleton]; omega, fun d pp c3 hsp hpp sc => ?_⟩
      rw [sset_sset, hM]; clear hM M
      walk_at "wps"
      obtain ⟨l, hl⟩ : ∃ l, l = ts.map qD := ⟨_, rfl⟩
      have hll : l.length = ts.length := by rw [hl, List.length_map]
      rw [← hl]
      have ct : DW.cutD (D.str (Str.ofString "look") :: D.int p :: l) none (some (2 + (q : Int))) = D.str (Str.ofString "look") :: D.int p :: l.take q := by
        rw [show (2 : Int) + (q : Int) = ((q + 2 : Nat) : Int) by omega]
        exact cut_to (q + 2)
      have cf : DW.cutD (D.str (Str.ofString "look") :: D.int p :: l) (some (2 + (q : Int) + 1)) none = l.drop (q + 1) := by
        rw [show (2 : Int) + (q : Int) + 1 = ((q + 3 : Nat) : Int) by omega]
        exact cut_from (q + 3)
      rw [ct, cf]
      refine ⟨by decide, by simp; omega, by simp; omega, by decide, ret_same ?_⟩
      have ex : D.str (Str.ofString "look") :: D.int p :: l.take q ++ [d] ++ l.drop (q + 1) = D.str (Str.ofString "look") :: D.int p :: (l.take q ++ [d] ++ l.drop (q + 1)) := by simp
      rw [ex]
      have hxl : (l.take q ++ [d] ++ l.drop (q + 1)).length = wd ws p := by simp; omega
      have := h (.tup (.str (Str.ofString "look") :: .int (p : Int) :: (l.take q ++ [d] ++ l.drop (q + 1)))) ((2 + (q : Int)) :: pp) c3 ⟨qpl_cons (by rw [List.length_cons, hxl]; omega) fun y hy => ?_, fun r hr => ?_⟩ (by rw [List.length_cons]; omega) sc
      · rw [show pa ++ [2 + (q : Int)] ++ pp = pa ++ (2 + (q : Int)) :: pp by simp]
        exact this
      · rcases List.mem_cons.mp hy with rfl | hy
        · exact qpl_int
        · rcases List.mem_append.mp hy with hy | hy
          · rcases List.mem_append.mp hy with hy | hy
            · exact hD y (by rw [← hl]; exact List.mem_of_mem_take hy)
            · rw [List.mem_singleton.mp hy]; exact hsp.pl
          · exact hD y (by rw [← hl]; exact List.mem_of_mem_drop hy)
      · obtain ⟨r, rfl⟩ : ∃ m, r = m + 1 := ⟨r - 1, by omega⟩
        have hf : qForm ws (r + 1) (.tup (.str "look" :: .int (p : Int) :: (l.take q ++ [d] ++ l.drop (q + 1)))) = true := by
          generalize l.take q ++ [d] ++ l.drop (q + 1) = xs at hxl
          cases xs with
          | nil => simp at hxl; omega
          | cons x xs => rw [form_look3, fit_at hp, decide_eq_true (by omega), show decide (xs.length + 1 = wd ws p) = true from decide_eq_true (by rw [List.length_cons] at hxl; exact hxl)]; rfl
        rw [wq, if_pos hf, wqI_look hp]
        have := fstQ_at (f := wq ws oc r) (y := d) (p := pp) (xs := l.take q ++ [d] ++ l.drop (q + 1)) (q := q) (s := 2) (by
          rw [List.append_assoc, List.getElem?_append_right (by rw [List.length_take]; omega), List.length_take, Nat.min_eq_left (by omega)]; simp) (fun j x hj hx => by
          rw [List.append_assoc, List.getElem?_append_left (by rw [List.length_take]; omega), List.getElem?_take_of_lt hj, hl, List.getElem?_map, Option.map_eq_some_iff] at hx
          obtain ⟨s, hs, rfl⟩ := hx
          have hm := List.mem_of_getElem? hs
          exact wq_none hw (hts s hm) (by have := qdeps_le hm; omega)) (hsp.wr r (by omega))
        rw [this, show ((2 + q : Nat) : Int) = 2 + (q : Int) by omega]
end
section
variable {P : Program} {w : World} {K : Fg} {mg : Str → Option Value} {base : Heap}
theorem side_one {d : D} (h : eqOk d = true) (h2 : dpt d ≤ 50) : EqSide (.lst [d]) := ⟨eqOks_all fun x hx => by rw [List.mem_singleton.mp hx]; exact h, by
  have := dpts_all (m := dpt d) (ds := [d]) fun x hx => by rw [List.mem_singleton.mp hx]; exact Nat.le_refl _
  rw [dpt]; omega⟩
theorem rw_nn {r : Rw} (hr : RwOk r) (y : Int) (hy : y ∈ r.h ++ r.c) : 0 ≤ y := by
  rcases List.mem_append.mp hy with q | q
  · exact hr.hp y q
  · exact hr.cp y q
def c__law_answers (C R : Addr) : Con := fun ds μ Φ _ => ∃ (ws : List Int) (oc : Nat) (t : QT) (r : Rw), ds = [qO C t ws oc, qD t, .tup (ws.map .int), sdR r] ∧ WsOk ws ∧ QOk ws oc t ∧ qDep t ≤ 29 ∧ RwOk r ∧ Φ (.bl true) μ
theorem len__law_answers {C R ds μ Φ Ψ} (h : c__law_answers C R ds μ Φ Ψ) : ds.length = 4 := by obtain ⟨_, _, _, _, rfl, _⟩ := h; rfl
theorem ok__law_answers (T : Txt P w K mg) : FnOk P w K mg base (L2N.CX P w) 9 T.f__law_answers T.d__law_answers ["_law_query", "_law_term_here", "_law_widths_here", "_law_row_here"] (spOf K (c__law_answers T.c_Query T.c_Row)) := by
  refine def_okC T.F__law_answers sc__law_answers _ (fun ds μ Φ Ψ h => len__law_answers h) (fun cdv A outer s H E B hW hr =>
    have tk : L2N.Takes (cxOf (L2N.CX P w) P w K mg base N__law_answers "_law_answers" (defScope s__law_answers) T.f__law_answers cdv A outer s H E) (fun cls d _ H => E cls d H) := L2N.takes_of rfl rfl rfl rfl
    ⟨_, (pss_cons (ps_set (i := 4) sc__law_answers.nd rfl (Or.inl rfl) (pe_call (ok__law_follow T) (hr.mono (by decide)) rfl T.g__law_follow T.F__law_follow.kp T.b__law_follow .nil passN (pa_cons (pv 1) (pa_cons (pv 2) (pa_cons (pv 3) pa_nil)))))
      (pss_cons (ps_set (i := 5) sc__law_answers.nd rfl (Or.inl rfl) (pe_makeS T.mk_Row (ok_Row___init__ T) (hr.mono (by decide)) rfl T.g_Row T.b_Row___init__ (fun σ => L2N.passAt tk σ) (pa_cons (pe_ix ix_list (pv 3) pe_int (fun _ _ => rfl)) (pa_cons (pe_ix ix_list (pv 3) pe_int (fun _ _ => rfl)) pa_nil))))
      (pss_cons (ps_set (i := 6) sc__law_answers.nd rfl (Or.inl rfl) (pe_call (ok__law_told T) (hr.mono (by decide)) rfl T.g__law_told T.F__law_told.kp T.b__law_told .nil passN (pa_cons (pv 0) (pa_cons (pv 5) pa_nil))))
      (pss_cons (ps_set (i := 7) sc__law_answers.nd rfl (Or.inl rfl) (pe_call (ok__law_looked T) (hr.mono (by decide)) rfl T.g__law_looked T.F__law_looked.kp T.b__law_looked .nil passN (pa_cons (pv 0) (pa_cons (pv 5) pa_nil))))
      (pss_cons (ps_if (pt_cmpR op_isN (pv 4) pe_non (nomark _)) (pss_one (ps_ret (pe_and (pe_cmpR op_isN (pv 6) pe_non (nomark _)) (pe_one (pe_cmpR op_isN (pv 7) pe_non (nomark _)))))) pss_nil)
      (pss_cons (ps_if (PW.pt (pw_or (pt_cmpR (op_neD hr.units) (pv 6) (pe_lst (pa_cons (pe_ix ix_list (pv 4) pe_int (fun _ _ => rfl)) pa_nil)) (nomark _)) (pw_or (pt_cmpR (op_neD hr.units) (pv 7) (pe_lst (pa_cons (pe_ix ix_list (pv 4) pe_int (fun _ _ => rfl)) pa_nil)) (nomark _)) (pw_or1 (pt_cmpR (op_neD hr.units) (pe_call (ok__law_told T) (hr.mono (by decide)) rfl T.g__law_told T.F__law_told.kp T.b__law_told .nil passN (pa_cons (pv 0) (pa_cons (pv 5) pa_nil))) (pv 6) (nomark _)))))) (pss_one (ps_ret pe_bl)) pss_nil)
      (pss_cons (ps_if (PW.pt (pw_or (pt_val (pe_callB call_isi (by rfl) T.z_isinstance (by decide +kernel) (pa_cons (pe_ix ix_list (pv 6) pe_int (fun _ _ => rfl)) (pa_cons (pe_bltn (v := .ty "bool") rfl T.z_bool (by decide +kernel) rfl) pa_nil)))) (pw_or1 (pt_not (pt_val (pe_callB call_isi (by rfl) T.z_isinstance (by decide +kernel) (pa_cons (pe_ix ix_list (pv 7) pe_int (fun _ _ => rfl)) (pa_cons (pe_bltn (v := .ty "tuple") rfl T.z_tuple (by decide +kernel) rfl) pa_nil)))))))) (pss_one (ps_ret pe_bl)) pss_nil)
      (pss_one (ps_ret (pe_and (pe_cmpR (op_eqD hr.units) (pe_fld (pv 5) rfl) (pe_ix ix_list (pv 3) pe_int (fun _ _ => rfl)) (nomark _)) (pe_one (pe_cmpR (op_eqD hr.units) (pe_fld (pv 5) rfl) (pe_ix ix_list (pv 3) pe_int (fun _ _ => rfl)) (nomark _))))))))))))),
      (sSeq (sAsg (sCall (sCons sVar (sCons sVar (sCons sVar sNil)))) sName)
      (sSeq (sAsg (sMakeSW (W := fun cls d _ H => E cls d H) (by exact hW) (sCons (sOp roIxL sVar sInt) (sCons (sOp roIxL sVar sInt) sNil))) sName)
      (sSeq (sAsg (sCall (sCons sVar (sCons sVar sNil))) sName)
      (sSeq (sAsg (sCall (sCons sVar (sCons sVar sNil))) sName)
      (sSeq (sIfS (sTest (sOp roIsN sVar sNon)) (sRet (sAndV (sOp roIsN sVar sNon) (sOp roIsN sVar sNon))) sNext)
      (sSeq (sIfS (sOr (sTest (sOp roNeD sVar (sLst (sCons (sOp roIxL sVar sInt) sNil)))) (sOr (sTest (sOp roNeD sVar (sLst (sCons (sOp roIxL sVar sInt) sNil)))) (sTest (sOp roNeD (sCall (sCons sVar (sCons sVar sNil))) sVar)))) (sRet sBl) sNext)
      (sSeq (sIfS (sOr (sB (sCB (rcIsi (T := "bool")) (sCons (sOp roIxL sVar sInt) (sCons sHd sNil)))) (sNot (sB (sCB (rcIsi (T := "tuple")) (sCons (sOp roIxL sVar sInt) (sCons sHd sNil)))))) (sRet sBl) sNext)
      (sRet (sAndV (sOp roEqD (sFldO (NS := NS_Row) (i := 0) T.cls_Row T.na_Row_head rfl (by decide) sVar) (sOp roIxL sVar sInt)) (sOp roEqD (sFldO (NS := NS_Row) (i := 1) T.cls_Row T.na_Row_cycle rfl (by decide) sVar) (sOp roIxL sVar sInt)))))))))))⟩) (fun ds μ Φ Ψ h => ?hv)
  case hv =>
    obtain ⟨ws, oc, t, r, rfl, hw, ht, hd, hr, h⟩ := h
    refine seq_cut fun M hM => ?_
    walk_at "wp"
    refine ⟨ws, oc, t, r, rfl, hw, ht, hd, hr, ?_⟩
    rw [hM]; clear hM M
    refine seq_cut fun M hM => ?_
    unfold sdR
    walk_at "wp"
    refine fun x hx => ⟨x, r.h, r.c, rfl, hr.hl, hr.cl, sset_same, fun z => absurd ⟨hr.c0, rw_nn hr⟩ z, fun _ => ⟨rfl, NSA, _, sset_same, ?_⟩⟩
    rw [sset_sset, sdel_sset hx, hM]; clear hM M
    refine seq_cut fun M hM => ?_
    walk_at "wp"
    refine ⟨ws, oc, t, r, rfl, hw, ht, by omega, hr, ?_⟩
    rw [hM]; clear hM M
    refine seq_cut fun M hM => ?_
    walk_at "wp"
    refine ⟨ws, oc, t, r, rfl, hw, ht, by omega, hr, ?_⟩
    rw [hM]; clear hM M
    refine seq_cut fun M hM => ?_
    cases e : qFol ws (ent r) t with
    | none =>
      simp only [folD, toldD, lookD]
      walk_at "wp"
      exact ret_same h
    | some q =>
      simp only [folD, toldD, lookD]
      walk_at "wp"
      rw [hM]; clear hM M
      have sn : EqSide (.lst [.int (q.2 : Int)]) := side_intsL [(q.2 : Int)]
      have sp : EqSide (.lst [.tup (nI q.1)]) := by rw [nI_ints]; exact side_one (side_ints _).1 (by have := (side_ints (q.1.map fun n : Nat => (n : Int))).2; exact Nat.le_trans (dpt_ints _) (by decide))
      walk_at "wps"
      refine ⟨by decide, ne_self sn ⟨_, rfl, nofun, fun _ => ⟨by decide, ne_self sp ⟨_, rfl, nofun, fun _ => ⟨ws, oc, t, r, rfl, hw, ht, by omega, hr, ?_⟩⟩⟩⟩⟩
      rw [e]
      exact ne_self sn ⟨_, rfl, nofun, fun _ => eq_self (side_ints _) ⟨_, rfl, fun _ => eq_self (side_ints _) (ret_same h), nofun⟩⟩
end
section
variable {P : Program} {w : World} {K : Fg} {mg : Str → Option Value} {base : Heap}
mutual
theorem q_tm {ws : List Int} {oc : Nat} (hw : WsOk ws) (ho : oc ≤ 4) : ∀ t : QT, QOk ws oc t → Tm (qDep t + 1) (qD t) ∧ (txt (qD t)).length ≤ 120 * (qPl t).length + 20
  | .tell o, h => by
    have ho2 : o < oc := h
    rw [qd_tell, qDep, qPl]
    have hs : TL.tl (Str.ofString "tell") = [116, 101, 108, 108] := by decide +kernel
    have h9 := (tm_num (k := 0) (i := (o : Int)) (by omega) (by omega)).2
    have h4 : (txt (.str (Str.ofString "tell"))).length = 4 := by rw [txt, hs]; rfl
    refine ⟨.tup fun x hx => ?_, ?_⟩
    · simp only [List.mem_cons, List.not_mem_nil, or_false] at hx
      rcases hx with rfl | rfl
      · exact .word (by rw [hs]; decide) (by rw [hs]; decide) (by rw [hs]; decide)
      · exact (tm_num (by omega) (by omega)).1
    · rw [txt, txts, txtr, txtr]
      simp only [List.length_cons, List.length_append, List.length_nil]
      omega
  | .look p ts, h => by
    obtain ⟨hp, hl, hts⟩ := h
    rw [qd_look, qDep, qPl]
    have hw1 := hw.wd1 p
    have hs : TL.tl (Str.ofString "look") = [108, 111, 111, 107] := by decide +kernel
    have h9 := (tm_num (k := 0) (i := (p : Int)) (by omega) (by omega)).2
    have h4 : (txt (.str (Str.ofString "look"))).length = 4 := by rw [txt, hs]; rfl
    have ih := qs_tm hw ho ts (qoks_iff.mp hts)
    refine ⟨.tup fun x hx => ?_, ?_⟩
    · simp only [List.mem_cons] at hx
      rcases hx with rfl | rfl | hx
      · exact .word (by rw [hs]; decide) (by rw [hs]; decide) (by rw [hs]; decide)
      · exact (tm_num (by omega) (by omega)).1
      · exact ih.1 x hx
    · rw [txt, txts, txtr]
      simp only [List.length_cons, List.length_append, List.length_nil]
      omega
theorem qs_tm {ws : List Int} {oc : Nat} (hw : WsOk ws) (ho : oc ≤ 4) : ∀ ts : List QT, (∀ t ∈ ts, QOk ws oc t) → (∀ x ∈ ts.map qD, Tm (qDep.qDeps ts + 1) x) ∧ (txtr (ts.map qD)).length ≤ 120 * (qPl.qPls ts).length + 21 * ts.length
  | [], _ => ⟨by simp, by simp [txtr]⟩
  | t :: ts, h => by
    have h1 := q_tm hw ho t (h t List.mem_cons_self)
    have h2 := qs_tm hw ho ts fun u hu => h u (List.mem_cons_of_mem _ hu)
    rw [List.map_cons, txtr, qDep.qDeps, qPl.qPls, List.length_append]
    refine ⟨fun x hx => ?_, ?_⟩
    · rcases List.mem_cons.mp hx with rfl | hx
      · exact h1.1.mono (by omega)
      · exact (h2.1 x hx).mono (by omega)
    · simp only [List.length_cons, List.length_append]
      omega
end
mutual
theorem q_eqOk : ∀ t : QT, eqOk (qD t) = true ∧ dpt (qD t) ≤ qDep t + 1
  | .tell o => by
    rw [qd_tell, qDep]
    exact ⟨by simp only [eqOk, eqOks, Bool.and_true]; decide +kernel, by simp [dpt, dpts]⟩
  | .look p ts => by
    rw [qd_look, qDep]
    have h := qs_eqOk ts
    refine ⟨?_, ?_⟩
    · simp only [eqOk, eqOks, h.1, Bool.and_true]; decide +kernel
    · simp only [dpt, dpts]
      omega
theorem qs_eqOk : ∀ ts : List QT, eqOks (ts.map qD) = true ∧ dpts (ts.map qD) ≤ qDep.qDeps ts + 1
  | [] => ⟨rfl, by simp [dpts]⟩
  | t :: ts => by
    have h1 := q_eqOk t
    have h2 := qs_eqOk ts
    rw [List.map_cons, qDep.qDeps]
    refine ⟨by simp only [eqOks, h1.1, h2.1, Bool.and_true], ?_⟩
    simp only [dpts]
    omega
end
theorem q_side {t : QT} (h : qDep t ≤ 50) : EqSide (qD t) := ⟨(q_eqOk t).1, by have := (q_eqOk t).2; omega⟩
section
variable {P : Program} {w : World} {K : Fg} {mg : Str → Option Value} {base : Heap}
theorem okN__law_text (T : Txt P w K mg) : ∀ n, FnOk P w K mg base (L2N.CX P w) n T.f__law_text T.d__law_text ["_law_term_here"] (spOf K (c__law_text n))
  | 0 => fn_never fun ds μ Φ Ψ h => by obtain ⟨_, _, h, _⟩ := h; omega
  | n + 1 => step__law_text T (Nat.zero_le _) n (okN__law_text T n)
theorem ok__law_text (T : Txt P w K mg) : FnOk P w K mg base (L2N.CX P w) 40 T.f__law_text T.d__law_text ["_law_term_here"] (spOf K (c__law_text 40)) := okN__law_text T 40
end
/-- the text of a term is asked for -/
theorem unread_of {C : Addr} {d : D} {k : Nat} {μ : Sto} {Φ : DK} {Ψ : XD → Sto → Prop} (h : Tm k d) (hk : k ≤ 30) (hl : (txt d).length ≤ 100000) (hp : hdPl d = true) (hd : headD d = none ∨ ∃ n i r, headD d = some (n, .int i, r)) (hΦ : Φ (.bl true) μ) : c__law_unread C [.str (S (txt d))] μ Φ Ψ := by
  have h30 := h.mono hk
  refine ⟨S (txt d), rfl, by rw [tl_S]; exact hl, fun x hx => ?_, fun b _ hb => ?_, hΦ⟩
  · rw [tl_S] at hx
    rw [back_rd h30 hx]
    exact ⟨hp, hd⟩
  · rw [tl_S] at hb
    exact back_bad h30 hb
theorem four_tm {s : Str} {a b d : D} {j : Nat} (hs : Tm j (.str s)) (hl : (TL.tl s).length ≤ 12) (ha : Tm j a) (hb : Tm j b) (h : Tm j d) : Tm (j + 1) (.tup [.str s, a, b, d]) ∧ (txt (.tup [.str s, a, b, d])).length ≤ (txt a).length + (txt b).length + (txt d).length + 20 := by
  refine ⟨.tup fun x hx => ?_, ?_⟩
  · simp only [List.mem_cons, List.not_mem_nil, or_false] at hx
    rcases hx with rfl | rfl | rfl | rfl
    · exact hs
    · exact ha
    · exact hb
    · exact h
  · have h4 : (txt (.str s)).length ≤ 12 := by rw [txt]; exact hl
    rw [txt, txts, txtr, txtr, txtr, txtr]
    simp only [List.length_cons, List.length_append, List.length_nil]
    omega
theorem head_not {s : Str} {i : Int} {a d : D} (h : s ≠ Str.ofString "query") : headD (.tup [.str s, .int i, a, d]) = none := if_neg h
theorem q_head (t : QT) : hdPl (qD t) = true ∧ headD (qD t) = none := by
  cases t with
  | tell o => rw [qd_tell]; exact ⟨rfl, rfl⟩
  | look p ts =>
    rw [qd_look]
    refine ⟨rfl, ?_⟩
    match ts with
    | [] => rfl
    | [_] => rfl
    | [_, _] => exact head_not (by decide +kernel)
    | _ :: _ :: _ :: _ => rfl
def c__law_texts (C : Addr) : Con := fun ds μ Φ _ => ∃ (ws : List Int) (oc : Nat) (t : QT), ds = [qO C t ws oc, qD t, .tup (ws.map .int), .int (oc : Int)] ∧ WsOk ws ∧ 1 ≤ oc ∧ oc ≤ 4 ∧ QSz ws oc t ∧ few ws t ∧ Φ (.bl true) μ
theorem len__law_texts {C ds μ Φ Ψ} (h : c__law_texts C ds μ Φ Ψ) : ds.length = 4 := by obtain ⟨_, _, _, rfl, _⟩ := h; rfl
theorem ok__law_texts (T : Txt P w K mg) : FnOk P w K mg base (L2N.CX P w) 78 T.f__law_texts T.d__law_texts ["_law_query", "_law_term_here", "_law_widths_here", "_law_outcomes"] (spOf K (c__law_texts T.c_Query)) := by
  refine def_okC T.F__law_texts sc__law_texts _ (fun ds μ Φ Ψ h => len__law_texts h) (fun cdv A outer s H E B hW hr =>
    have tk : L2N.Takes (cxOf (L2N.CX P w) P w K mg base N__law_texts "_law_texts" (defScope s__law_texts) T.f__law_texts cdv A outer s H E) (fun cls d _ H => E cls d H) := L2N.takes_of rfl rfl rfl rfl
    ⟨_, (pss_cons (ps_set (i := 4) sc__law_texts.nd rfl (Or.inl rfl) (pe_call (ok__law_text T) (hr.mono (by decide)) rfl T.g__law_text T.F__law_text.kp T.b__law_text .nil passN (pa_cons (pe_tupN (pa_cons pe_str (pa_cons (pv 3) (pa_cons (pv 2) (pa_cons (pv 1) pa_nil))))) pa_nil)))
      (pss_cons (ps_if (pt_cmpR op_ne (pe_methX0 (pl := _) (pv 0) T.cls_Query T.me_Query_text (ok_Query_text T) (hr.mono (by decide)) T.b_Query_text (fun σ => L2N.passAt tk σ)) (pv 4) (nomark _)) (pss_one (ps_ret pe_bl)) pss_nil)
      (pss_cons (ps_set (i := 5) sc__law_texts.nd rfl (Or.inl rfl) (pe_smeth (pl := _) (pe_glob (v := .ref T.c_Query) rfl T.g_Query rfl) T.rd_Query T.sm_Query_read (ok_Query_read T) (hr.mono (by decide)) T.b_Query_read (fun σ => L2N.passAt tk σ) (pa_cons (pv 4) pa_nil)))
      (pss_cons (ps_if (PW.pt (pw_or (pt_cmpR (op_neD hr.units) (pe_fld (pv 5) rfl) (pv 1) (nomark _)) (pw_or (pt_cmpR (op_neD hr.units) (pe_fld (pv 5) rfl) (pv 2) (nomark _)) (pw_or1 (pt_cmpR op_ne (pe_fld (pv 5) rfl) (pv 3) (nomark _)))))) (pss_one (ps_ret pe_bl)) pss_nil)
      (pss_cons (ps_if (PW.pt (pw_or (pt_not (pt_val (pe_call (ok__law_unread T) (hr.mono (by decide)) rfl T.g__law_unread T.F__law_unread.kp T.b__law_unread .nil passN (pa_cons (pe_call (ok__law_text T) (hr.mono (by decide)) rfl T.g__law_text T.F__law_text.kp T.b__law_text .nil passN (pa_cons (pe_tupN (pa_cons pe_str (pa_cons (pv 2) (pa_cons (pv 2) (pa_cons (pv 1) pa_nil))))) pa_nil)) pa_nil)))) (pw_or1 (pt_not (pt_val (pe_call (ok__law_unread T) (hr.mono (by decide)) rfl T.g__law_unread T.F__law_unread.kp T.b__law_unread .nil passN (pa_cons (pe_call (ok__law_text T) (hr.mono (by decide)) rfl T.g__law_text T.F__law_text.kp T.b__law_text .nil passN (pa_cons (pv 1) pa_nil)) pa_nil))))))) (pss_one (ps_ret pe_bl)) pss_nil)
      (pss_one (ps_ret (pe_and (pe_call (ok__law_unread T) (hr.mono (by decide)) rfl T.g__law_unread T.F__law_unread.kp T.b__law_unread .nil passN (pa_cons (pe_call (ok__law_text T) (hr.mono (by decide)) rfl T.g__law_text T.F__law_text.kp T.b__law_text .nil passN (pa_cons (pe_tupN (pa_cons pe_str (pa_cons (pv 3) (pa_cons (pv 3) (pa_cons (pv 1) pa_nil))))) pa_nil)) pa_nil)) (pe_one (pe_call (ok__law_unread T) (hr.mono (by decide)) rfl T.g__law_unread T.F__law_unread.kp T.b__law_unread .nil passN (pa_cons (pe_call (ok__law_text T) (hr.mono (by decide)) rfl T.g__law_text T.F__law_text.kp T.b__law_text .nil passN (pa_cons (pe_tupN (pa_cons pe_str (pa_cons (pv 3) (pa_cons (pv 2) (pa_cons (pv 1) pa_nil))))) pa_nil)) pa_nil))))))))))),
      (sSeq (sAsg (sCall (sCons (sTup (sCons sStr (sCons sVar (sCons sVar (sCons sVar sNil))))) sNil)) sName)
      (sSeq (sIfS (sTest (sOp roNe (sMethXW (NS := NS_Query) (W := fun cls d _ H => E cls d H) (by decide) (by exact hW) sVar sNil) sVar)) (sRet sBl) sNext)
      (sSeq (sAsg (sCallSW (W := fun cls d _ H => E cls d H) (by exact hW) (sCons sVar sNil)) sName)
      (sSeq (sIfS (sOr (sTest (sOp roNeD (sFldO (NS := NS_Query) (i := 0) T.cls_Query T.na_Query_term rfl (by decide) sVar) sVar)) (sOr (sTest (sOp roNeD (sFldO (NS := NS_Query) (i := 1) T.cls_Query T.na_Query_widths rfl (by decide) sVar) sVar)) (sTest (sOp roNe (sFldO (NS := NS_Query) (i := 2) T.cls_Query T.na_Query_outcomes rfl (by decide) sVar) sVar)))) (sRet sBl) sNext)
      (sSeq (sIfS (sOr (sNot (sB (sCall (sCons (sCall (sCons (sTup (sCons sStr (sCons sVar (sCons sVar (sCons sVar sNil))))) sNil)) sNil)))) (sNot (sB (sCall (sCons (sCall (sCons sVar sNil)) sNil))))) (sRet sBl) sNext)
      (sRet (sAndV (sCall (sCons (sCall (sCons (sTup (sCons sStr (sCons sVar (sCons sVar (sCons sVar sNil))))) sNil)) sNil)) (sCall (sCons (sCall (sCons (sTup (sCons sStr (sCons sVar (sCons sVar (sCons sVar sNil))))) sNil)) sNil)))))))))⟩) (fun ds μ Φ Ψ h => ?hv)
  case hv =>
    obtain ⟨ws, oc, t, rfl, hw, o1, o4, sz, fw, h⟩ := h
    refine seq_cut fun M hM => ?_
    have h20 := sz.dep
    have hl := fw.1
    obtain ⟨q1, q2⟩ := q_tm hw o4 t sz.ok
    obtain ⟨w1, w2⟩ := ws_tm hw
    have q1 := q1.mono (show qDep t + 1 ≤ 28 by omega)
    have w1 := w1.mono (show 1 ≤ 28 by decide)
    obtain ⟨y1, y2⟩ := qryT_tm (oc := oc) (by omega) (by omega) w1 q1
    unfold qryT at y1 y2
    walk_at "wp"
    refine ⟨by decide, 29, _, by decide, rfl, y1, by omega, ?_⟩
    rw [hM]; clear hM M
    refine seq_cut fun M hM => ?_
    walk_at "wp"
    refine ⟨_, rfl, ws, oc, t, rfl, hw, by omega, q1, by omega, ?_⟩
    unfold qryT
    walk_at "wp"
    refine ⟨fun z => by simp at z, fun _ => ?_⟩
    rw [hM]; clear hM M
    refine seq_cut fun M hM => ?_
    walk_at "wp"
    have y30 := y1.mono (show 28 + 1 ≤ 30 by decide)
    refine ⟨_, rfl, by rw [tl_S]; omega, fun x hx => ?_, fun x hx hn => ?_, fun x n a d hx he => .inr ?_, fun b _ hb => ?_⟩
    · rw [tl_S] at hx
      rw [back_rd y30 hx]; rfl
    · rw [tl_S] at hx
      rw [back_rd y30 hx] at hn
      simp [headD] at hn
    · rw [tl_S] at hx
      rw [back_rd y30 hx] at he
      simp only [headD, if_true, Option.some.injEq, Prod.mk.injEq] at he
      obtain ⟨rfl, rfl, rfl⟩ := he
      refine ⟨ws, oc, t, rfl, rfl, rfl, hw, o1, o4, sz, fw, ?_⟩
      rw [hM]; clear hM M
      refine seq_cut fun M hM => ?_
      walk_at "wp"
      refine ⟨_, _, rfl, rfl, ne_self (q_side (by omega)) ⟨_, rfl, nofun, fun _ => ⟨_, _, rfl, rfl, ne_self (side_ints _) ⟨_, rfl, nofun, fun _ => ⟨_, _, rfl, rfl, ?_⟩⟩⟩⟩⟩
      walk_at "wp"
      refine ⟨fun z => by simp at z, fun _ => ?_⟩
      rw [hM]; clear hM M
      have hq : Tm 28 (.str (Str.ofString "query")) := .word (by rw [qry_l]; decide) (by rw [qry_l]; decide) (by rw [qry_l]; decide)
      have gl : TL.tl (Str.ofString "game") = [103, 97, 109, 101] := by decide +kernel
      have hg : Tm 28 (.str (Str.ofString "game")) := .word (by rw [gl]; decide) (by rw [gl]; decide) (by rw [gl]; decide)
      obtain ⟨o0, o9⟩ := tm_num (k := 28) (i := (oc : Int)) (by omega) (by omega)
      obtain ⟨a1, a2⟩ := four_tm hq (by rw [qry_l]; decide) w1 w1 q1
      obtain ⟨b1, b2⟩ := four_tm hq (by rw [qry_l]; decide) o0 o0 q1
      obtain ⟨g1, g2⟩ := four_tm hg (by rw [gl]; decide) o0 w1 q1
      obtain ⟨e1, e2⟩ := q_head t
      walk_at "wps"
      refine ⟨by decide, 29, _, by decide, rfl, a1, by omega, unread_of a1 (by decide) (by omega) rfl (.inl rfl) ⟨_, rfl, nofun, fun _ => ?_⟩⟩
      refine ⟨28, _, by decide, rfl, q1, by omega, unread_of q1 (by decide) (by omega) e1 (.inl e2) ⟨_, rfl, nofun, fun _ => ?_⟩⟩
      refine ⟨by decide, 29, _, by decide, rfl, b1, by omega, unread_of b1 (by decide) (by omega) rfl (.inr ⟨oc, oc, qD t, by simp [headD]⟩) ⟨_, rfl, fun _ => ?_, nofun⟩⟩
      exact ⟨by decide, 29, _, by decide, rfl, g1, by omega, unread_of g1 (by decide) (by omega) rfl (.inl (head_not (by decide +kernel))) (ret_same h)⟩
    · rw [tl_S] at hb
      exact (back_bad y30 hb).elim
end
section
variable {P : Program} {w : World} {K : Fg} {mg : Str → Option Value} {base : Heap}
section
variable {P : Program} {w : World} {K : Fg} {mg : Str → Option Value} {base : Heap}
theorem okN__law_many_looks (T : Txt P w K mg) : ∀ n, FnOk P w K mg base (L2N.CX P w) (4 + n) T.f__law_many_looks T.d__law_many_looks ["_law_many", "_law_place", "_law_options"] (spOf K (c__law_many_looks n))
  | 0 => fn_never fun ds μ Φ Ψ h => by obtain ⟨_, _, _, h, _⟩ := h; omega
  | n + 1 => step__law_many_looks T (k := 4 + n) (by omega) n (okN__law_many_looks T n)
theorem ok__law_many_looks (T : Txt P w K mg) : FnOk P w K mg base (L2N.CX P w) 30 T.f__law_many_looks T.d__law_many_looks ["_law_many", "_law_place", "_law_options"] (spOf K (c__law_many_looks 20)) := (okN__law_many_looks T 20).mono (by decide)
end
/-- looks at so many places in a row, each inside of the next -/
def upT (ws : List Int) (oc f : Nat) : Nat → QT
  | 0 => .tell 0
  | k + 1 => .look (f + k) ((tellsQ (List.replicate (wd ws (f + k)) (oc - 1))).set 0 (upT ws oc f k))
theorem up_pl {ws : List Int} {oc f : Nat} (hw : WsOk ws) (k : Nat) : qPl (upT ws oc f (k + 1)) = (f + k) :: qPl (upT ws oc f k) := by
  have := hw.wd1 (f + k)
  rw [upT, qPl, chain_pls _ _ _ (by rw [List.length_replicate]; omega)]
theorem up_len {ws : List Int} {oc f : Nat} (hw : WsOk ws) : ∀ k, (qPl (upT ws oc f k)).length = k
  | 0 => by rw [upT, qPl]; rfl
  | k + 1 => by rw [up_pl hw, List.length_cons, up_len hw k]
theorem up_mem {ws : List Int} {oc f : Nat} (hw : WsOk ws) : ∀ k q, q ∈ qPl (upT ws oc f k) ↔ f ≤ q ∧ q < f + k
  | 0, q => by
    rw [upT, qPl]
    exact ⟨nofun, fun h => by omega⟩
  | k + 1, q => by
    rw [up_pl hw, List.mem_cons, up_mem hw k]
    omega
theorem up_dep {ws : List Int} {oc f : Nat} : ∀ k, qDep (upT ws oc f k) ≤ k
  | 0 => by rw [upT, qDep]; exact Nat.le_refl _
  | k + 1 => by
    have h1 := up_dep (ws := ws) (oc := oc) (f := f) k
    have h2 := chain_deps (List.replicate (wd ws (f + k)) (oc - 1)) 0 (upT ws oc f k)
    rw [upT, qDep]
    omega
theorem up_ok {ws : List Int} {oc f : Nat} (ho : 1 ≤ oc) : ∀ k, f + k ≤ 100 → QOk ws oc (upT ws oc f k)
  | 0, _ => by show 0 < oc; omega
  | k + 1, h => by
    refine ⟨by omega, by rw [List.length_set]; unfold tellsQ; rw [List.length_map, List.length_replicate], qoks_iff.mpr fun t ht => ?_⟩
    rcases List.mem_or_eq_of_mem_set ht with z | z
    · unfold tellsQ at z
      obtain ⟨o, ho2, rfl⟩ := List.mem_map.mp z
      rw [List.eq_of_mem_replicate ho2]
      show oc - 1 < oc
      omega
    · rw [z]; exact up_ok ho k (by omega)
theorem up_ms {ws : List Int} {oc f : Nat} (hw : WsOk ws) (k : Nat) (h : f + k ≤ 100) : qMs (qPl (upT ws oc f k)) = List.range' f k := by
  unfold qMs
  have e1 : List.range 100 = List.range' 0 f ++ (List.range' f k ++ List.range' (f + k) (100 - f - k)) := by
    rw [List.range_eq_range', show 100 = f + (k + (100 - f - k)) by omega, ← List.range'_append_1, ← List.range'_append_1, Nat.zero_add]
    congr 3
    omega
  rw [e1, List.filter_append, List.filter_append, List.filter_eq_nil_iff.mpr fun q hq => ?_, List.filter_eq_self.mpr fun q hq => ?_, List.filter_eq_nil_iff.mpr fun q hq => ?_]
  · simp
  · rw [List.mem_range'_1] at hq
    rw [decide_eq_true_eq, up_mem hw]; omega
  · rw [List.mem_range'_1] at hq
    rw [decide_eq_true_eq, up_mem hw]; omega
  · rw [List.mem_range'_1] at hq
    rw [decide_eq_true_eq, up_mem hw]; omega
theorem wpr_snoc {ws : List Int} {p : Nat} : ∀ l : List Nat, wpr ws (l ++ [p]) = wpr ws l * wd ws p
  | [] => by simp [wpr]
  | q :: l => by rw [List.cons_append, wpr, wpr, wpr_snoc l, Nat.mul_assoc]
theorem up_many {ws : List Int} {f k : Nat} : wpr ws (List.range' f (k + 1)) = wpr ws (List.range' f k) * wd ws (f + k) := by
  rw [← wpr_snoc, List.range'_1_concat]
theorem up_D {ws : List Int} {oc f : Nat} (hw : WsOk ws) (ho : 1 ≤ oc) (k : Nat) : qD (upT ws oc f (k + 1)) = .tup ([.str (Str.ofString "look"), .int ((f + k : Nat) : Int)] ++ [qD (upT ws oc f k)] ++ List.replicate (wd ws (f + k) - 1) (.tup [.str (Str.ofString "tell"), .int ((oc : Int) - 1)])) := by
  have h1 := hw.wd1 (f + k)
  rw [upT, qd_look]
  obtain ⟨m, hm⟩ : ∃ m, wd ws (f + k) = m + 1 := ⟨wd ws (f + k) - 1, by omega⟩
  rw [hm, List.replicate_succ]
  show D.tup (_ :: _ :: (qD _ :: List.map qD (tellsQ (List.replicate m (oc - 1))))) = _
  unfold tellsQ
  rw [List.map_map, List.map_replicate]
  simp only [Function.comp, qd_tell, Nat.add_sub_cancel]
  rw [show ((oc - 1 : Nat) : Int) = (oc : Int) - 1 by omega]
  rfl
theorem many_ms {p m : Nat} {t : QT} (h : ManyT p m t) (hp : p < 100) : (qMs (qPl t)).length ≤ 1 := by
  have := qMs_sub (l := qPl t) (b := [p]) (fun q hq => by rw [h.pl q hq]; exact hp) (fun q hq => by rw [h.pl q hq]; simp)
  simpa using this
theorem ws_two : WsOk [2] ∧ ∀ p, wd [2] p = 2 := ⟨⟨by decide, by decide, fun x hx => by rw [List.mem_singleton.mp hx]; decide⟩, fun p => by simp [wd, Nat.mod_one]⟩
theorem create_q {C : Addr} {ws : List Int} {oc : Nat} {t : QT} {μ : Sto} {Φ : DK} {Ψ : XD → Sto → Prop} (hw : WsOk ws) (o1 : 1 ≤ oc) (o4 : oc ≤ 4) (sz : QSz ws oc t) (h1 : few ws t → Φ (.lst [.str (Str.ofString "made"), qD t, .tup (ws.map .int), .int (oc : Int)]) μ) (h2 : ¬ few ws t → Φ (.lst [.str (Str.ofString "large")]) μ) : c__law_create C [qD t, .tup (ws.map .int), .int (oc : Int)] μ Φ Ψ :=
  ⟨ws, oc, qD t, rfl, by have := hw.l1; omega, qpl_q hw sz.ok, fun z => absurd ⟨hw.b, by omega, by omega⟩ z, fun _ _ _ p hp => (by rw [Int.toNat_natCast, wq_none hw sz.ok sz.dep] at hp; cases hp), fun _ _ _ _ => ⟨t, rfl, by rw [Int.toNat_natCast]; exact sz, h1, h2⟩⟩
theorem side_made {t : QT} {ws : List Int} {oc : Int} (h : qDep t ≤ 50) : EqSide (.lst [.str (Str.ofString "made"), qD t, .tup (ws.map .int), .int oc]) := by
  have h1 := q_eqOk t
  have h2 := side_ints ws
  have h3 := dpt_ints ws
  refine ⟨?_, ?_⟩
  · simp only [eqOk, eqOks, h1.1, Bool.and_true, Bool.true_and]
    rw [show eqOks (ws.map .int) = true from h2.1]
    decide +kernel
  · have e1 : dpt (.str (Str.ofString "made")) = 0 := rfl
    have e2 : dpt (.int oc) = 0 := rfl
    rw [dpt, dpts, dpts, dpts, dpts, dpts, e1, e2]
    omega
theorem side_large : EqSide (.lst [.str (Str.ofString "large")]) := ⟨by simp only [eqOk, eqOks, Bool.and_true]; decide +kernel, by decide⟩
def c__law_large (C : Addr) : Con := fun ds μ Φ _ => ∃ (st : Addr) (ns : List Int) (c : List D) (ws : List Int) (oc : Nat), ds = [.hd (.ref st), .tup (ws.map .int), .int (oc : Int)] ∧ μ st = some (.lst c) ∧ StC_c ns c ∧ WsOk ws ∧ 1 ≤ oc ∧ oc ≤ 4 ∧ ∀ c', StC_c ns c' → Φ (.bl true) (sset μ st (.lst c'))
theorem len__law_large {C ds μ Φ Ψ} (h : c__law_large C ds μ Φ Ψ) : ds.length = 3 := by obtain ⟨_, _, _, _, _, rfl, _⟩ := h; rfl
theorem ok__law_large (T : Txt P w K mg) : FnOk P w K mg base (L2N.CX P w) 42 T.f__law_large T.d__law_large ["_law_state", "_law_widths_here", "_law_outcomes"] (spOf K (c__law_large T.c_Query)) := by
  refine def_okC T.F__law_large sc__law_large _ (fun ds μ Φ Ψ h => len__law_large h) (fun cdv A outer s H E B hW hr =>
    have tk : L2N.Takes (cxOf (L2N.CX P w) P w K mg base N__law_large "_law_large" (defScope s__law_large) T.f__law_large cdv A outer s H E) (fun cls d _ H => E cls d H) := L2N.takes_of rfl rfl rfl rfl
    ⟨_, (pss_cons (ps_if (pt_cmpR op_eq (pe_call (ok__law_pick T) (hr.mono (by decide)) rfl T.g__law_pick T.F__law_pick.kp T.b__law_pick .nil passN (pa_cons (pv 0) (pa_cons pe_int pa_nil))) pe_int (nomark _)) (pss_cons (ps_set (i := 6) sc__law_large.nd rfl (Or.inl rfl) (pe_call (ok__law_pick T) (hr.mono (by decide)) rfl T.g__law_pick T.F__law_pick.kp T.b__law_pick .nil passN (pa_cons (pv 0) (pa_cons pe_int pa_nil))))
      (pss_cons (ps_set (i := 8) sc__law_large.nd rfl (Or.inl rfl) (pe_op op_add pe_int (pe_call (ok__law_pick T) (hr.mono (by decide)) rfl T.g__law_pick T.F__law_pick.kp T.b__law_pick .nil passN (pa_cons (pv 0) (pa_cons pe_int pa_nil)))))
      (pss_cons (ps_set (i := 3) sc__law_large.nd rfl (Or.inl rfl) (pe_call (ok__law_many_looks T) (hr.mono (by decide)) rfl T.g__law_many_looks T.F__law_many_looks.kp T.b__law_many_looks .nil passN (pa_cons (pv 8) (pa_cons (pv 6) (pa_cons pe_int pa_nil)))))
      (pss_cons (ps_set (i := 7) sc__law_large.nd rfl (Or.inl rfl) (pe_lst (pa_cons pe_str (pa_cons (pv 3) (pa_cons (pe_tupN (pa_cons pe_int pa_nil)) (pa_cons (pv 2) pa_nil))))))
      (pss_cons (ps_if (pt_cmpR op_gt (pv 8) pe_int (nomark _)) (pss_one (ps_set (i := 7) sc__law_large.nd rfl (Or.inl rfl) (pe_lst (pa_cons pe_str pa_nil)))) pss_nil)
      (pss_one (ps_ret (pe_cmpR (op_eqD hr.units) (pe_call (ok__law_create T) (hr.mono (by decide)) rfl T.g__law_create T.F__law_create.kp T.b__law_create .nil passN (pa_cons (pv 3) (pa_cons (pe_tupN (pa_cons pe_int pa_nil)) (pa_cons (pv 2) pa_nil)))) (pv 7) (nomark _))))))))) pss_nil)
      (pss_cons (ps_set (i := 3) sc__law_large.nd rfl (Or.inl rfl) (pe_tupN (pa_cons pe_str (pa_cons pe_int pa_nil))))
      (pss_cons (ps_set (i := 4) sc__law_large.nd rfl (Or.inl rfl) pe_int)
      (pss_cons (ps_set (i := 5) sc__law_large.nd rfl (Or.inl rfl) (pe_call (ok__law_pick T) (hr.mono (by decide)) rfl T.g__law_pick T.F__law_pick.kp T.b__law_pick .nil passN (pa_cons (pv 0) (pa_cons pe_int pa_nil))))
      (pss_cons (ps_for (passes_of rfl) rfl (pi_range2 rfl T.z_range (pa_cons (pv 5) (pa_cons (pe_op op_add (pe_op op_add (pv 5) pe_int) (pe_call (ok__law_pick T) (hr.mono (by decide)) rfl T.g__law_pick T.F__law_pick.kp T.b__law_pick .nil passN (pa_cons (pv 0) (pa_cons pe_int pa_nil)))) pa_nil))) (pg_name (i := 6) sc__law_large.nd rfl (Or.inl rfl)) (pss_cons (ps_set (i := 9) sc__law_large.nd rfl (Or.inl rfl) (pe_call (ok__law_width T) (hr.mono (by decide)) rfl T.g__law_width T.F__law_width.kp T.b__law_width .nil passN (pa_cons (pv 1) (pa_cons (pv 6) pa_nil))))
      (pss_cons (ps_set (i := 4) sc__law_large.nd rfl (Or.inl rfl) (pe_op op_mulX (pv 4) (pv 9)))
      (pss_one (ps_set (i := 3) sc__law_large.nd rfl (Or.inl rfl) (pe_op op_catN (pe_op op_catN (pe_tupN (pa_cons pe_str (pa_cons (pv 6) pa_nil))) (pe_tupN (pa_cons (pv 3) pa_nil))) (pe_op op_repA (pe_tupN (pa_cons (pe_tupN (pa_cons pe_str (pa_cons (pe_op op_sub (pv 2) pe_int) pa_nil))) pa_nil)) (pe_op op_sub (pv 9) pe_int))))))))
      (pss_cons (ps_set (i := 7) sc__law_large.nd rfl (Or.inl rfl) (pe_lst (pa_cons pe_str (pa_cons (pv 3) (pa_cons (pv 1) (pa_cons (pv 2) pa_nil))))))
      (pss_cons (ps_if (pt_cmpR op_gt (pv 4) pe_int (nomark _)) (pss_one (ps_set (i := 7) sc__law_large.nd rfl (Or.inl rfl) (pe_lst (pa_cons pe_str pa_nil)))) pss_nil)
      (pss_one (ps_ret (pe_cmpR (op_eqD hr.units) (pe_call (ok__law_create T) (hr.mono (by decide)) rfl T.g__law_create T.F__law_create.kp T.b__law_create .nil passN (pa_cons (pv 3) (pa_cons (pv 1) (pa_cons (pv 2) pa_nil)))) (pv 7) (nomark _))))))))))),
      (sSeq (sIfS (sTest (sOp roEq (sCall (sCons sVar (sCons sInt sNil))) sInt)) (sSeq (sAsg (sCall (sCons sVar (sCons sInt sNil))) sName)
      (sSeq (sAsg (sOp roInt0 sInt (sCall (sCons sVar (sCons sInt sNil)))) sName)
      (sSeq (sAsg (sCall (sCons sVar (sCons sVar (sCons sInt sNil)))) sName)
      (sSeq (sAsg (sLst (sCons sStr (sCons sVar (sCons (sTup (sCons sInt sNil)) (sCons sVar sNil))))) sName)
      (sSeq (sIfS (sTest (sOp roBl0 sVar sInt)) (sAsg (sLst (sCons sStr sNil)) sName) sNext)
      (sRet (sOp roEqD (sCall (sCons sVar (sCons (sTup (sCons sInt sNil)) (sCons sVar sNil)))) sVar))))))) sNext)
      (sSeq (sAsg (sTup (sCons sStr (sCons sInt sNil))) sName)
      (sSeq (sAsg sInt sName)
      (sSeq (sAsg (sCall (sCons sVar (sCons sInt sNil))) sName)
      (sSeq (sFor (siR2 sVar (sOp roInt0 (sOp roInt0 sVar sInt) (sCall (sCons sVar (sCons sInt sNil))))) (fun _ _ _ => sName) (fun _ _ _ => (sSeq (sAsg (sCall (sCons sVar (sCons sVar sNil))) sName)
      (sSeq (sAsg (sOp roInt sVar sVar) sName)
      (sAsg (sOp roCatT (sOp roCatT (sTup (sCons sStr (sCons sVar sNil))) (sTup (sCons sVar sNil))) (sOp roRepT (sTup (sCons (sTup (sCons sStr (sCons (sOp roInt0 sVar sInt) sNil))) sNil)) (sOp roInt0 sVar sInt))) sName)))))
      (sSeq (sAsg (sLst (sCons sStr (sCons sVar (sCons sVar (sCons sVar sNil))))) sName)
      (sSeq (sIfS (sTest (sOp roBl0 sVar sInt)) (sAsg (sLst (sCons sStr sNil)) sName) sNext)
      (sRet (sOp roEqD (sCall (sCons sVar (sCons sVar (sCons sVar sNil)))) sVar)))))))))⟩) (fun ds μ Φ Ψ h => ?hv)
  case hv =>
    obtain ⟨st, ns, c, ws, oc, rfl, hc, sc, hw, o1, o4, h⟩ := h
    refine seq_cut fun M hM => ?_
    walk_at "wp"
    refine ⟨st, ns, c, 2, rfl, hc, sc, by decide, by decide, fun z c1 z0 z1 sc => ?_⟩
    walk_at "wp"
    refine ⟨fun q => ?_, fun q => ?_⟩
    · clear hM
      refine seq_cut fun M hM => ?_
      walk_at "wp"
      refine ⟨st, ns, c1, 100, rfl, sset_same, sc, by decide, by decide, fun y c2 y0 y1 sc => ?_⟩
      rw [sset_sset]
      obtain ⟨p, rfl⟩ : ∃ p : Nat, y = (p : Int) := ⟨y.toNat, by omega⟩
      rw [hM]; clear hM M
      refine seq_cut fun M hM => ?_
      walk_at "wp"
      refine ⟨st, ns, c2, 12, rfl, sset_same, sc, by decide, by decide, fun y c3 y2 y3 sc => ?_⟩
      rw [sset_sset]
      obtain ⟨m, hm, m0, m1⟩ : ∃ m : Nat, 295 + y = (m : Int) ∧ 295 ≤ m ∧ m ≤ 306 := ⟨(295 + y).toNat, by omega, by omega, by omega⟩
      walk_at "wp"
      rw [hm, hM]; clear hM M
      refine seq_cut fun M hM => ?_
      walk_at "wp"
      refine ⟨m, p, rfl, by decide, by omega, by omega, by omega, fun t ht => ?_⟩
      rw [hM]; clear hM M
      refine seq_cut fun M hM => ?_
      walk_at "wp"
      refine ⟨by decide, by decide, ?_⟩
      rw [hM]; clear hM M
      refine seq_cut fun M hM => ?_
      have hd : qDep t ≤ 9 := by
        have h1 := ht.d1 (by omega)
        rcases Nat.lt_or_ge (qDep t) 10 with z | z
        · omega
        · have := Nat.pow_le_pow_right (show 0 < 2 by decide) z
          omega
      have hms := many_ms ht (by omega)
      have hwp := wpr_lt ws_two.1 (qMs (qPl t))
      have hw2 : wpr [2] (qMs (qPl t)) ≤ 256 := by
        have := Nat.pow_le_pow_right (show 0 < 2 by decide) (show 2 * (qMs (qPl t)).length + 1 ≤ 3 by omega)
        omega
      have sz : QSz [2] oc t := ⟨ht.ok [2] oc ws_two.1 o1 (ws_two.2 p), by omega, by rw [ht.len]; omega, by omega⟩
      have hlen := ht.len
      walk_at "wp"
      refine ⟨fun q2 => ⟨by decide, ?_⟩, fun q2 => ?_⟩
      · rw [hM]; clear hM M
        walk_at "wps"
        exact ⟨by decide, create_q ws_two.1 o1 o4 sz (fun z => absurd z.1 (by omega)) fun _ => eq_self side_large (ret_same (h _ sc))⟩
      · rw [hM]; clear hM M
        walk_at "wps"
        exact ⟨by decide, create_q ws_two.1 o1 o4 sz (fun _ => eq_self (side_made (by omega)) (ret_same (h _ sc))) fun z => absurd ⟨by omega, hw2⟩ z⟩
    rw [hM]; clear hM M
    refine seq_cut fun M hM => ?_
    walk_at "wp"
    refine ⟨by decide, ?_⟩
    rw [hM]; clear hM M
    refine seq_cut fun M hM => ?_
    walk_at "wp"
    rw [hM]; clear hM M
    refine seq_cut fun M hM => ?_
    walk_at "wp"
    refine ⟨st, ns, c1, 91, rfl, sset_same, sc, by decide, by decide, fun y c2 y0 y1 sc => ?_⟩
    rw [sset_sset]
    obtain ⟨f, rfl⟩ : ∃ f : Nat, y = (f : Int) := ⟨y.toNat, by omega⟩
    rw [hM]; clear hM M
    refine seq_cut fun M hM => ?_
    walk_at "wp"
    refine ⟨st, ns, c2, 9, rfl, sset_same, sc, by decide, by decide, fun y c3 y2 y3 sc => ?_⟩
    rw [sset_sset]
    obtain ⟨m, hm, m0, m1⟩ : ∃ m : Nat, (f : Int) + 1 + y = ((f + m : Nat) : Int) ∧ 1 ≤ m ∧ m ≤ 9 := ⟨(1 + y).toNat, by omega, by omega, by omega⟩
    walk_at "wp"
    refine ⟨_, _, rfl, congrArg D.int hm, by omega, fun i δ' μ' => ∃ x6 x9 : Option D, μ' = sset μ st (.lst c3) ∧ δ' = [some (.hd (.ref st)), some (.tup (ws.map .int)), some (.int (oc : Int)), some (qD (upT ws oc f i)), some (.int (wpr ws (List.range' f i) : Int)), some (.int (f : Int)), x6, none, none, x9], ⟨none, none, rfl, by rw [upT, qd_tell]; rfl⟩, ?_, ?_⟩
    · rintro i d δ' μ' hi ⟨x6, x9, rfl, rfl⟩
      obtain ⟨hj, rfl⟩ := rngD_get hi
      have hi9 : i < m := by omega
      walk_at "wps"
      refine ⟨ws, f + i, rfl, hw, ?_⟩
      walk_at "wps"
      have h1 := hw.wd1 (f + i)
      have hb := wpr_lt hw (List.range' f i)
      rw [List.length_range'] at hb
      have hb2 := Nat.pow_le_pow_right (show 0 < 2 by decide) (show 2 * i + 1 ≤ 17 by omega)
      have er : (List.replicate ((wd ws (f + i) : Int) - 1).toNat [D.tup [D.str (Str.ofString "tell"), D.int ((oc : Int) - 1)]]).flatten = List.replicate (wd ws (f + i) - 1) (D.tup [D.str (Str.ofString "tell"), D.int ((oc : Int) - 1)]) := by
        rw [show ((wd ws (f + i) : Int) - 1).toNat = wd ws (f + i) - 1 by omega]
        generalize wd ws (f + i) - 1 = n
        induction n with
        | zero => rfl
        | succ n ih => rw [List.replicate_succ, List.flatten_cons, ih, List.replicate_succ]; rfl
      rw [er]
      refine ⟨mulx 18 3 (by omega) (by omega) (by decide), by decide, by decide, by decide, by decide, by decide, by omega, by omega, by decide, by rw [List.length_replicate]; omega, some (.int ((f : Int) + (i : Int))), some (.int (wd ws (f + i) : Int)), ?_⟩
      rw [up_D hw o1, up_many]
      simp
    · rintro δ' μ' ⟨x6, x9, rfl, rfl⟩
      rw [hM]; clear hM M
      refine seq_cut fun M hM => ?_
      walk_at "wp"
      refine ⟨by decide, ?_⟩
      rw [show (((f + m : Nat) : Int) - (f : Int)).toNat = m by omega]
      rw [hM]; clear hM M
      have sz : QSz ws oc (upT ws oc f m) := ⟨up_ok o1 m (by omega), by have := up_dep (ws := ws) (oc := oc) (f := f) m; omega, by rw [up_len hw]; omega, by rw [up_ms hw m (by omega), List.length_range']; omega⟩
      have hd := sz.dep
      have hf : few ws (upT ws oc f m) ↔ wpr ws (List.range' f m) ≤ 256 := by
        unfold few
        rw [up_len hw, up_ms hw m (by omega)]
        exact ⟨fun q => q.2, fun q => ⟨by omega, q⟩⟩
      refine seq_cut fun M hM => ?_
      walk_at "wp"
      refine ⟨fun q2 => ⟨by decide, ?_⟩, fun q2 => ?_⟩
      · rw [hM]; clear hM M
        walk_at "wps"
        exact create_q hw o1 o4 sz (fun z => by have := hf.mp z; omega) fun _ => eq_self side_large (ret_same (h _ sc))
      · rw [hM]; clear hM M
        walk_at "wps"
        exact create_q hw o1 o4 sz (fun _ => eq_self (side_made (by omega)) (ret_same (h _ sc))) fun z => absurd (hf.mpr (by omega)) z
end
section
variable {P : Program} {w : World} {K : Fg} {mg : Str → Option Value} {base : Heap}
section
variable {P : Program} {w : World} {K : Fg} {mg : Str → Option Value} {base : Heap}
theorem okN__law_term (T : Txt P w K mg) : ∀ n, FnOk P w K mg base (L2N.CX P w) (4 + n) T.f__law_term T.d__law_term ["_law_state", "_law_size", "_law_places_here", "_law_levels"] (spOf K (c__law_term n))
  | 0 => fn_never fun ds μ Φ Ψ ⟨_, _, _, _, _, _, _, _, _, _, _, _, _, _, _, _, h, _⟩ => absurd h (Nat.not_lt_zero _)
  | n + 1 => step__law_term T (k := 4 + n) (by omega) n (okN__law_term T n)
theorem ok__law_term (T : Txt P w K mg) : FnOk P w K mg base (L2N.CX P w) 30 T.f__law_term T.d__law_term ["_law_state", "_law_size", "_law_places_here", "_law_levels"] (spOf K (c__law_term 20)) := (okN__law_term T 20).mono (by decide)
theorem okN__law_spoilt (T : Txt P w K mg) : ∀ n, FnOk P w K mg base (L2N.CX P w) (4 + n) T.f__law_spoilt T.d__law_spoilt ["_law_state", "_law_term_here", "_law_outcomes", "_law_path"] (spOf K (c__law_spoilt n))
  | 0 => fn_never fun ds μ Φ Ψ ⟨_, _, _, _, _, _, _, _, _, _, _, _, _, _, h, _⟩ => absurd h (Nat.not_lt_zero _)
  | n + 1 => step__law_spoilt T (k := 4 + n) (by omega) n (okN__law_spoilt T n)
theorem ok__law_spoilt (T : Txt P w K mg) : FnOk P w K mg base (L2N.CX P w) 30 T.f__law_spoilt T.d__law_spoilt ["_law_state", "_law_term_here", "_law_outcomes", "_law_path"] (spOf K (c__law_spoilt 25)) := (okN__law_spoilt T 25).mono (by decide)
end
theorem few_of {ws : List Int} {ps : List Nat} {t : QT} {k : Nat} (hw : WsOk ws) (nd : ps.Nodup) (lt : ∀ p ∈ ps, p < 100) (h81 : wpl ws ps ≤ 81) (hs : ∀ q ∈ qPl t, q ∈ ps) (hl : (qPl t).length ≤ k) (hk : k ≤ 300) (h4 : ps.length ≤ 4) : few ws t ∧ (qMs (qPl t)).length ≤ 60 := by
  have hp : (qMs ps).Perm ps := (List.perm_ext_iff_of_nodup ((qMs_sorted ps).imp fun {a b} q => by omega) nd).mpr fun q => qMs_mem lt q
  have hm := wpr_mono hw (qMs_sorted (qPl t)) (qMs_sorted ps) fun q hq => (qMs_mem lt q).mpr (hs q ((qMs_mem (fun q hq => lt q (hs q hq)) q).mp hq))
  rw [wpl_wpr] at h81
  rw [wpr_perm hp, hp.length_eq] at hm
  exact ⟨⟨by omega, by omega⟩, by omega⟩
theorem side_wrong {l : List Int} : EqSide (.lst [.str (Str.ofString "wrong"), .tup (l.map .int)]) := by
  have h2 := side_ints l
  have h3 := dpt_ints l
  refine ⟨?_, ?_⟩
  · simp only [eqOk, eqOks, Bool.and_true]
    rw [show eqOks (l.map .int) = true from h2.1]
    decide +kernel
  · have e1 : dpt (.str (Str.ofString "wrong")) = 0 := rfl
    rw [dpt, dpts, dpts, dpts, e1]
    omega
theorem side_range : EqSide (.lst [.str (Str.ofString "range")]) := ⟨by simp only [eqOk, eqOks, Bool.and_true]; decide +kernel, by decide⟩
theorem create_wrong {C : Addr} {ws : List Int} {oc : Nat} {d : D} {p : List Int} {μ : Sto} {Φ : DK} {Ψ : XD → Sto → Prop} (hw : WsOk ws) (hq : qpl 20 d) (hp : wq ws oc 20 d = some p) (h : Φ (.lst [.str (Str.ofString "wrong"), .tup (p.map .int)]) μ) (o1 : 1 ≤ oc) (o4 : oc ≤ 4) : c__law_create C [d, .tup (ws.map .int), .int (oc : Int)] μ Φ Ψ :=
  ⟨ws, oc, d, rfl, by have := hw.l1; omega, hq, fun z => absurd ⟨hw.b, by omega, by omega⟩ z, fun _ _ _ q hq => (by rw [Int.toNat_natCast, hp] at hq; cases hq; exact h), fun _ _ _ hn => (by rw [Int.toNat_natCast, hp] at hn; cases hn)⟩
theorem create_range {C : Addr} {ws : List Int} {oc : Int} {d : D} {μ : Sto} {Φ : DK} {Ψ : XD → Sto → Prop} (hl : ws.length ≤ 1000) (hq : qpl 20 d) (hn : ¬ (WsB ws ∧ 1 ≤ oc ∧ oc ≤ 4)) (h : Φ (.lst [.str (Str.ofString "range")]) μ) : c__law_create C [d, .tup (ws.map .int), .int oc] μ Φ Ψ :=
  ⟨ws, oc, d, rfl, hl, hq, fun _ => h, fun a b c => absurd ⟨a, b, c⟩ hn, fun a b c => absurd ⟨a, b, c⟩ hn⟩
theorem lkN_le {n : Nat} (h : n ≤ 4) : lkN n ≤ 85 := by
  rcases (show n = 0 ∨ n = 1 ∨ n = 2 ∨ n = 3 ∨ n = 4 by omega) with rfl | rfl | rfl | rfl | rfl <;> decide
theorem rw_with {r : Rw} {p : Nat} {x : Int} (hr : RwOk r) (hp : p < 100) (hx : 0 ≤ x) : RwOk (rwWith r p x) := by
  have hl := hr.hl
  have cl := hr.cl
  refine ⟨fun z => ?_, ?_, ?_, fun y hy => ?_, fun y hy => ?_⟩
  · have := congrArg List.length z
    simp only [rwWith, List.length_map, List.length_range, List.length_nil] at this
    exact hr.c0 (List.eq_nil_of_length_eq_zero this)
  · simp only [rwWith, List.length_set, List.length_map, List.length_range]; omega
  · simp only [rwWith, List.length_map, List.length_range]; exact cl
  · rcases List.mem_or_eq_of_mem_set hy with z | z
    · obtain ⟨i, _, rfl⟩ := List.mem_map.mp z
      exact ent_nn hr i
    · rw [z]; exact hx
  · obtain ⟨i, _, rfl⟩ := List.mem_map.mp hy
    exact ent_nn hr _
theorem wrong_ws {ws : List Int} {a : Nat} {y : Int} (hw : WsOk ws) (ha : a < ws.length) (y0 : 0 ≤ y) (y1 : y < 4) : ∃ ws' : List Int, atI [D.tup [], D.tup (List.take a (List.map D.int ws) ++ [D.int 0] ++ List.drop (a + 1) (List.map D.int ws)), D.tup (List.take a (List.map D.int ws) ++ [D.int 5] ++ List.drop (a + 1) (List.map D.int ws)), D.tup (List.replicate (Int.toNat 7) [D.int 1]).flatten] y = some (.tup (ws'.map .int)) ∧ ws'.length ≤ 1000 ∧ ¬ WsB ws' := by
  have hl := hw.l1
  have mid : ∀ v : Int, D.tup (List.take a (List.map D.int ws) ++ [D.int v] ++ List.drop (a + 1) (List.map D.int ws)) = .tup ((ws.take a ++ [v] ++ ws.drop (a + 1)).map .int) := fun v => by
    rw [List.map_append, List.map_append, List.map_take, List.map_drop]; rfl
  have mem : ∀ v : Int, v ∈ ws.take a ++ [v] ++ ws.drop (a + 1) := fun v => by simp
  have len : ∀ v : Int, (ws.take a ++ [v] ++ ws.drop (a + 1)).length ≤ 1000 := fun v => by simp; omega
  rcases (show y = 0 ∨ y = 1 ∨ y = 2 ∨ y = 3 by omega) with rfl | rfl | rfl | rfl
  · exact ⟨[], atI_n (j := 0) rfl, by decide, fun h => absurd h.1 (by decide)⟩
  · rw [mid 0]
    exact ⟨_, atI_n (j := 1) rfl, len 0, fun h => absurd (h.2.2 0 (mem 0)).1 (by decide)⟩
  · rw [mid 5]
    exact ⟨_, atI_n (j := 2) rfl, len 5, fun h => absurd (h.2.2 5 (mem 5)).2 (by decide)⟩
  · exact ⟨List.replicate 7 1, atI_n (j := 3) rfl, by decide, fun h => absurd h.2.1 (by decide)⟩
def c_law : Con := fun ds μ Φ _ => ∃ ns : List Int, ds = [.scr ns] ∧ ns.length ≤ 63 ∧ Φ (.bl true) μ
theorem len_law {ds μ Φ Ψ} (h : c_law ds μ Φ Ψ) : ds.length = 1 := by obtain ⟨_, rfl, _⟩ := h; rfl
theorem ok_law (T : Txt P w K mg) : FnOk P w K mg base (L2N.CX P w) 80 T.f_law T.d_law ["_law_script"] (spOf K c_law) := by
  refine def_okC T.F_law sc_law _ (fun ds μ Φ Ψ h => len_law h) (fun cdv A outer s H E B hW hr =>
    have tk : L2N.Takes (cxOf (L2N.CX P w) P w K mg base N_law "law" (defScope s_law) T.f_law cdv A outer s H E) (fun cls d _ H => E cls d H) := L2N.takes_of rfl rfl rfl rfl
    ⟨_, (pss_cons (ps_set (i := 1) sc_law.nd rfl (Or.inl rfl) (pe_call (ok__law_start T) (hr.mono (by decide)) rfl T.g__law_start T.F__law_start.kp T.b__law_start .nil passN (pa_cons (pv 0) pa_nil)))
      (pss_cons (ps_set (i := 2) sc_law.nd rfl (Or.inl rfl) (pe_call (ok__law_widths T) (hr.mono (by decide)) rfl T.g__law_widths T.F__law_widths.kp T.b__law_widths .nil passN (pa_cons (pv 1) pa_nil)))
      (pss_cons (ps_set (i := 3) sc_law.nd rfl (Or.inl rfl) (pe_op op_add pe_int (pe_call (ok__law_pick T) (hr.mono (by decide)) rfl T.g__law_pick T.F__law_pick.kp T.b__law_pick .nil passN (pa_cons (pv 1) (pa_cons pe_int pa_nil)))))
      (pss_cons (ps_set (i := 4) sc_law.nd rfl (Or.inl rfl) (pe_call (ok__law_places T) (hr.mono (by decide)) rfl T.g__law_places T.F__law_places.kp T.b__law_places .nil passN (pa_cons (pv 1) (pa_cons (pv 2) pa_nil))))
      (pss_cons (ps_if (PW.pt (pw_and (pt_cmpR op_eq (pe_call (ok__law_pick T) (hr.mono (by decide)) rfl T.g__law_pick T.F__law_pick.kp T.b__law_pick .nil passN (pa_cons (pv 1) (pa_cons pe_int pa_nil))) pe_int (nomark _)) (pw_and1 (pt_not (pt_val (pe_call (ok__law_large T) (hr.mono (by decide)) rfl T.g__law_large T.F__law_large.kp T.b__law_large .nil passN (pa_cons (pv 1) (pa_cons (pv 2) (pa_cons (pv 3) pa_nil))))))))) (pss_one (ps_ret pe_bl)) pss_nil)
      (pss_cons (ps_set (i := 5) sc_law.nd rfl (Or.inl rfl) (pe_call (ok__law_term T) (hr.mono (by decide)) rfl T.g__law_term T.F__law_term.kp T.b__law_term .nil passN (pa_cons (pv 1) (pa_cons (pe_lst (pa_cons (pv 2) (pa_cons (pv 3) pa_nil))) (pa_cons (pv 4) (pa_cons (pe_op op_add pe_int (pe_call (ok__law_pick T) (hr.mono (by decide)) rfl T.g__law_pick T.F__law_pick.kp T.b__law_pick .nil passN (pa_cons (pv 1) (pa_cons pe_int pa_nil)))) pa_nil))))))
      (pss_cons (ps_if (pt_cmpR op_eq (pe_call (ok__law_pick T) (hr.mono (by decide)) rfl T.g__law_pick T.F__law_pick.kp T.b__law_pick .nil passN (pa_cons (pv 1) (pa_cons pe_int pa_nil))) pe_int (nomark _)) (pss_cons (ps_set (i := 15) sc_law.nd rfl (Or.inl rfl) (pe_call (ok__law_chain T) (hr.mono (by decide)) rfl T.g__law_chain T.F__law_chain.kp T.b__law_chain .nil passN (pa_cons (pv 1) (pa_cons (pe_lst (pa_cons (pv 2) (pa_cons (pv 3) pa_nil))) (pa_cons (pv 4) (pa_cons (pe_op op_add pe_int (pe_call (ok__law_pick T) (hr.mono (by decide)) rfl T.g__law_pick T.F__law_pick.kp T.b__law_pick .nil passN (pa_cons (pv 1) (pa_cons pe_int pa_nil)))) pa_nil))))))
      (pss_cons (ps_set (i := 5) sc_law.nd rfl (Or.inl rfl) (pe_ix ix_list (pv 15) pe_int (fun _ _ => rfl)))
      (pss_one (ps_if (pt_cmpR op_gt (pe_callB call_len_seq (by rfl) T.z_len PySem.boot_len (pa_cons (pe_ix ix_list (pv 15) pe_int (fun _ _ => rfl)) pa_nil)) pe_int (nomark _)) (pss_one (ps_ret (pe_cmpR (op_eqD hr.units) (pe_call (ok__law_create T) (hr.mono (by decide)) rfl T.g__law_create T.F__law_create.kp T.b__law_create .nil passN (pa_cons (pv 5) (pa_cons (pv 2) (pa_cons (pv 3) pa_nil)))) (pe_lst (pa_cons pe_str (pa_cons (pe_slice sl_tupN (pe_ix ix_list (pv 15) pe_int (fun _ _ => rfl)) po_none (po_some pe_int)) pa_nil))) (nomark _)))) pss_nil)))) pss_nil)
      (pss_cons (ps_if (pt_cmpR (op_neD hr.units) (pe_call (ok__law_create T) (hr.mono (by decide)) rfl T.g__law_create T.F__law_create.kp T.b__law_create .nil passN (pa_cons (pv 5) (pa_cons (pv 2) (pa_cons (pv 3) pa_nil)))) (pe_lst (pa_cons pe_str (pa_cons (pv 5) (pa_cons (pv 2) (pa_cons (pv 3) pa_nil))))) (nomark _)) (pss_one (ps_ret pe_bl)) pss_nil)
      (pss_cons (ps_set (i := 6) sc_law.nd rfl (Or.inl rfl) (pe_makeS T.mk_Query (ok_Query___init__ T) (hr.mono (by decide)) rfl T.g_Query T.b_Query___init__ (fun σ => L2N.passAt tk σ) (pa_cons (pv 5) (pa_cons (pv 2) (pa_cons (pv 3) pa_nil)))))
      (pss_cons (ps_set (i := 7) sc_law.nd rfl (Or.inl rfl) (pe_call (ok__law_row T) (hr.mono (by decide)) rfl T.g__law_row T.F__law_row.kp T.b__law_row .nil passN (pa_cons (pv 1) (pa_cons (pv 2) pa_nil))))
      (pss_cons (ps_set (i := 8) sc_law.nd rfl (Or.inl rfl) (pe_call (ok__law_pick T) (hr.mono (by decide)) rfl T.g__law_pick T.F__law_pick.kp T.b__law_pick .nil passN (pa_cons (pv 1) (pa_cons pe_int pa_nil))))
      (pss_cons (ps_if (PW.pt (pw_and (pt_cmpR op_eq (pe_ix ix_tup (pv 5) pe_int (fun _ _ => rfl)) pe_str (nomark _)) (pw_and1 (pt_cmpR op_gt (pe_call (ok__law_pick T) (hr.mono (by decide)) rfl T.g__law_pick T.F__law_pick.kp T.b__law_pick .nil passN (pa_cons (pv 1) (pa_cons pe_int pa_nil))) pe_int (nomark _))))) (pss_one (ps_set (i := 8) sc_law.nd rfl (Or.inl rfl) (pe_ix ix_tup (pv 5) pe_int (fun _ _ => rfl)))) pss_nil)
      (pss_cons (ps_set (i := 9) sc_law.nd rfl (Or.inl rfl) (pe_call (ok__law_with T) (hr.mono (by decide)) rfl T.g__law_with T.F__law_with.kp T.b__law_with .nil passN (pa_cons (pv 7) (pa_cons (pv 8) (pa_cons (pe_op op_add (pe_call (ok__law_width T) (hr.mono (by decide)) rfl T.g__law_width T.F__law_width.kp T.b__law_width .nil passN (pa_cons (pv 2) (pa_cons (pv 8) pa_nil))) (pe_call (ok__law_pick T) (hr.mono (by decide)) rfl T.g__law_pick T.F__law_pick.kp T.b__law_pick .nil passN (pa_cons (pv 1) (pa_cons pe_int pa_nil)))) pa_nil)))))
      (pss_cons (ps_set (i := 10) sc_law.nd rfl (Or.inl rfl) (pe_call (ok__law_row T) (hr.mono (by decide)) rfl T.g__law_row T.F__law_row.kp T.b__law_row .nil passN (pa_cons (pv 1) (pa_cons (pv 2) pa_nil))))
      (pss_cons (ps_for (passes_of rfl) rfl (pi_list (pe_lst (pa_cons (pv 7) (pa_cons (pv 9) (pa_cons (pv 10) (pa_cons (pv 7) pa_nil)))))) (pg_name (i := 11) sc_law.nd rfl (Or.inl rfl)) (pss_one (ps_if (pt_not (pt_val (pe_call (ok__law_answers T) (hr.mono (by decide)) rfl T.g__law_answers T.F__law_answers.kp T.b__law_answers .nil passN (pa_cons (pv 6) (pa_cons (pv 5) (pa_cons (pv 2) (pa_cons (pv 11) pa_nil))))))) (pss_one (ps_ret pe_bl)) pss_nil)))
      (pss_cons (ps_if (pt_not (pt_val (pe_call (ok__law_texts T) (hr.mono (by decide)) rfl T.g__law_texts T.F__law_texts.kp T.b__law_texts .nil passN (pa_cons (pv 6) (pa_cons (pv 5) (pa_cons (pv 2) (pa_cons (pv 3) pa_nil))))))) (pss_one (ps_ret pe_bl)) pss_nil)
      (pss_cons (ps_set (i := 12) sc_law.nd rfl (Or.inl rfl) (pe_call (ok__law_spoilt T) (hr.mono (by decide)) rfl T.g__law_spoilt T.F__law_spoilt.kp T.b__law_spoilt .nil passN (pa_cons (pv 1) (pa_cons (pv 5) (pa_cons (pv 3) (pa_cons (pe_tupN pa_nil) pa_nil))))))
      (pss_cons (ps_if (pt_cmpR (op_neD hr.units) (pe_call (ok__law_create T) (hr.mono (by decide)) rfl T.g__law_create T.F__law_create.kp T.b__law_create .nil passN (pa_cons (pe_ix ix_list (pv 12) pe_int (fun _ _ => rfl)) (pa_cons (pv 2) (pa_cons (pv 3) pa_nil)))) (pe_lst (pa_cons pe_str (pa_cons (pe_ix ix_list (pv 12) pe_int (fun _ _ => rfl)) pa_nil))) (nomark _)) (pss_one (ps_ret pe_bl)) pss_nil)
      (pss_cons (ps_set (i := 13) sc_law.nd rfl (Or.inl rfl) (pe_call (ok__law_pick T) (hr.mono (by decide)) rfl T.g__law_pick T.F__law_pick.kp T.b__law_pick .nil passN (pa_cons (pv 1) (pa_cons (pe_callB call_len_seq (by rfl) T.z_len PySem.boot_len (pa_cons (pv 2) pa_nil)) pa_nil))))
      (pss_cons (ps_set (i := 14) sc_law.nd rfl (Or.inl rfl) (pe_ix ix_list (pe_lst (pa_cons (pe_tupN pa_nil) (pa_cons (pe_op op_catN (pe_op op_catN (pe_slice sl_tupN (pv 2) po_none (po_some (pv 13))) (pe_tupN (pa_cons pe_int pa_nil))) (pe_slice sl_tupN (pv 2) (po_some (pe_op op_add (pv 13) pe_int)) po_none)) (pa_cons (pe_op op_catN (pe_op op_catN (pe_slice sl_tupN (pv 2) po_none (po_some (pv 13))) (pe_tupN (pa_cons pe_int pa_nil))) (pe_slice sl_tupN (pv 2) (po_some (pe_op op_add (pv 13) pe_int)) po_none)) (pa_cons (pe_op op_repA (pe_tupN (pa_cons pe_int pa_nil)) pe_int) pa_nil))))) (pe_call (ok__law_pick T) (hr.mono (by decide)) rfl T.g__law_pick T.F__law_pick.kp T.b__law_pick .nil passN (pa_cons (pv 1) (pa_cons pe_int pa_nil))) (fun _ _ => rfl)))
      (pss_cons (ps_if (PW.pt (pw_or (pt_cmpR (op_neD hr.units) (pe_call (ok__law_create T) (hr.mono (by decide)) rfl T.g__law_create T.F__law_create.kp T.b__law_create .nil passN (pa_cons (pv 5) (pa_cons (pv 14) (pa_cons (pv 3) pa_nil)))) (pe_lst (pa_cons pe_str pa_nil)) (nomark _)) (pw_or1 (pt_cmpR (op_neD hr.units) (pe_call (ok__law_create T) (hr.mono (by decide)) rfl T.g__law_create T.F__law_create.kp T.b__law_create .nil passN (pa_cons (pe_ix ix_list (pv 12) pe_int (fun _ _ => rfl)) (pa_cons (pv 14) (pa_cons (pv 3) pa_nil)))) (pe_lst (pa_cons pe_str pa_nil)) (nomark _))))) (pss_one (ps_ret pe_bl)) pss_nil)
      (pss_one (ps_ret (pe_and (pe_cmpR (op_eqD hr.units) (pe_call (ok__law_create T) (hr.mono (by decide)) rfl T.g__law_create T.F__law_create.kp T.b__law_create .nil passN (pa_cons (pe_ix ix_list (pv 12) pe_int (fun _ _ => rfl)) (pa_cons (pv 2) (pa_cons (pe_ix ix_list (pe_lst (pa_cons pe_int (pa_cons pe_int pa_nil))) (pe_call (ok__law_pick T) (hr.mono (by decide)) rfl T.g__law_pick T.F__law_pick.kp T.b__law_pick .nil passN (pa_cons (pv 1) (pa_cons pe_int pa_nil))) (fun _ _ => rfl)) pa_nil)))) (pe_lst (pa_cons pe_str pa_nil)) (nomark _)) (pe_one (pe_cmpR (op_eqD hr.units) (pe_fld (pv 6) rfl) (pv 5) (nomark _))))))))))))))))))))))))))),
      (sSeq (sAsg (sCall (sCons sVar sNil)) sName)
      (sSeq (sAsg (sCall (sCons sVar sNil)) sName)
      (sSeq (sAsg (sOp roInt0 sInt (sCall (sCons sVar (sCons sInt sNil)))) sName)
      (sSeq (sAsg (sCall (sCons sVar (sCons sVar sNil))) sName)
      (sSeq (sIfS (sAnd (sTest (sOp roEq (sCall (sCons sVar (sCons sInt sNil))) sInt)) (sNot (sB (sCall (sCons sVar (sCons sVar (sCons sVar sNil))))))) (sRet sBl) sNext)
      (sSeq (sAsg (sCall (sCons sVar (sCons (sLst (sCons sVar (sCons sVar sNil))) (sCons sVar (sCons (sOp roInt0 sInt (sCall (sCons sVar (sCons sInt sNil)))) sNil))))) sName)
      (sSeq (sIfS (sTest (sOp roEq (sCall (sCons sVar (sCons sInt sNil))) sInt)) (sSeq (sAsg (sCall (sCons sVar (sCons (sLst (sCons sVar (sCons sVar sNil))) (sCons sVar (sCons (sOp roInt0 sInt (sCall (sCons sVar (sCons sInt sNil)))) sNil))))) sName)
      (sSeq (sAsg (sOp roIxL sVar sInt) sName)
      (sIfS (sTest (sOp roBl0 (sCB rcLen (sCons (sOp roIxL sVar sInt) sNil)) sInt)) (sRet (sOp roEqD (sCall (sCons sVar (sCons sVar (sCons sVar sNil)))) (sLst (sCons sStr (sCons (sSlT (sOp roIxL sVar sInt) sNoPart (sPart sInt)) sNil))))) sNext))) sNext)
      (sSeq (sIfS (sTest (sOp roNeD (sCall (sCons sVar (sCons sVar (sCons sVar sNil)))) (sLst (sCons sStr (sCons sVar (sCons sVar (sCons sVar sNil))))))) (sRet sBl) sNext)
      (sSeq (sAsg (sMakeSW (W := fun cls d _ H => E cls d H) (by exact hW) (sCons sVar (sCons sVar (sCons sVar sNil)))) sName)
      (sSeq (sAsg (sCall (sCons sVar (sCons sVar sNil))) sName)
      (sSeq (sAsg (sCall (sCons sVar (sCons sInt sNil))) sName)
      (sSeq (sIfS (sAnd (sTest (sOp roEq (sOp roIxT sVar sInt) sStr)) (sTest (sOp roBl0 (sCall (sCons sVar (sCons sInt sNil))) sInt))) (sAsg (sOp roIxT sVar sInt) sName) sNext)
      (sSeq (sAsg (sCall (sCons sVar (sCons sVar (sCons (sOp roInt0 (sCall (sCons sVar (sCons sVar sNil))) (sCall (sCons sVar (sCons sInt sNil)))) sNil)))) sName)
      (sSeq (sAsg (sCall (sCons sVar (sCons sVar sNil))) sName)
      (sSeq (sFor (siL (sLst (sCons sVar (sCons sVar (sCons sVar (sCons sVar sNil)))))) (fun _ _ _ => sName) (fun _ _ _ => (sIfS (sNot (sB (sCall (sCons sVar (sCons sVar (sCons sVar (sCons sVar sNil))))))) (sRet sBl) sNext)))
      (sSeq (sIfS (sNot (sB (sCall (sCons sVar (sCons sVar (sCons sVar (sCons sVar sNil))))))) (sRet sBl) sNext)
      (sSeq (sAsg (sCall (sCons sVar (sCons sVar (sCons sVar (sCons (sTup sNil) sNil))))) sName)
      (sSeq (sIfS (sTest (sOp roNeD (sCall (sCons (sOp roIxL sVar sInt) (sCons sVar (sCons sVar sNil)))) (sLst (sCons sStr (sCons (sOp roIxL sVar sInt) sNil))))) (sRet sBl) sNext)
      (sSeq (sAsg (sCall (sCons sVar (sCons (sCB rcLen (sCons sVar sNil)) sNil))) sName)
      (sSeq (sAsg (sOp roIxL (sLst (sCons (sTup sNil) (sCons (sOp roCatT (sOp roCatT (sSlT sVar sNoPart (sPart sVar)) (sTup (sCons sInt sNil))) (sSlT sVar (sPart (sOp roInt0 sVar sInt)) sNoPart)) (sCons (sOp roCatT (sOp roCatT (sSlT sVar sNoPart (sPart sVar)) (sTup (sCons sInt sNil))) (sSlT sVar (sPart (sOp roInt0 sVar sInt)) sNoPart)) (sCons (sOp roRepT (sTup (sCons sInt sNil)) sInt) sNil))))) (sCall (sCons sVar (sCons sInt sNil)))) sName)
      (sSeq (sIfS (sOr (sTest (sOp roNeD (sCall (sCons sVar (sCons sVar (sCons sVar sNil)))) (sLst (sCons sStr sNil)))) (sTest (sOp roNeD (sCall (sCons (sOp roIxL sVar sInt) (sCons sVar (sCons sVar sNil)))) (sLst (sCons sStr sNil))))) (sRet sBl) sNext)
      (sRet (sAndV (sOp roEqD (sCall (sCons (sOp roIxL sVar sInt) (sCons sVar (sCons (sOp roIxL (sLst (sCons sInt (sCons sInt sNil))) (sCall (sCons sVar (sCons sInt sNil)))) sNil)))) (sLst (sCons sStr sNil))) (sOp roEqD (sFldO (NS := NS_Query) (i := 0) T.cls_Query T.na_Query_term rfl (by decide) sVar) sVar))))))))))))))))))))))))⟩) (fun ds μ Φ Ψ h => ?hv)
  case hv =>
    obtain ⟨ns, rfl, hlen, h⟩ := h
    refine seq_cut fun M hM => ?_
    walk_at "wp"
    refine ⟨ns, rfl, hlen, fun p c hp sc => ?_⟩
    have fin : ∀ c' : List D, ∃ μ2, DW.Sub μ2 (sset μ p (.lst c')) ∧ Φ (.bl true) μ2 := fun c' => ⟨μ, Sub.set Sub.refl hp, h⟩
    rw [hM]; clear hM M
    refine seq_cut fun M hM => ?_
    walk_at "wp"
    refine ⟨p, ns, c, rfl, sset_same, sc, fun ws c1 hw sc => ?_⟩
    rw [sset_sset, hM]; clear hM M
    refine seq_cut fun M hM => ?_
    walk_at "wp"
    refine ⟨p, ns, c1, 4, rfl, sset_same, sc, by decide, by decide, fun y c2 y0 y1 sc => ?_⟩
    rw [sset_sset]
    walk_at "wp"
    obtain ⟨oc, ho, o1, o4⟩ : ∃ oc : Nat, 1 + y = (oc : Int) ∧ 1 ≤ oc ∧ oc ≤ 4 := ⟨(1 + y).toNat, by omega, by omega, by omega⟩
    rw [ho, hM]; clear hM M
    refine seq_cut fun M hM => ?_
    walk_at "wp"
    refine ⟨p, ns, c2, ws, rfl, sset_same, sc, hw, fun ps c3 nd lt l4 few81 ne sc => ?_⟩
    rw [sset_sset, hM]; clear hM M
    refine seq_cut fun M hM => ?_
    have next : ∀ c' : List D, StC_c ns c' → M [some (.scr ns), some (.hd (.ref p)), some (.tup (ws.map .int)), some (.int (oc : Int)), some (.lst (nI ps)), none, none, none, none, none, none, none, none, none, none, none] (sset μ p (.lst c')) := fun c4 sc => by
      rw [hM]; clear hM M
      refine seq_cut fun M hM => ?_
      walk_at "wp"
      refine ⟨by decide, p, ns, c4, 4, rfl, sset_same, sc, by decide, by decide, fun y c5 y0 y1 sc => ?_⟩
      rw [sset_sset]
      walk_at "wp"
      obtain ⟨lv, hlv, lv1, lv4⟩ : ∃ lv : Nat, 1 + y = (lv : Int) ∧ 1 ≤ lv ∧ lv ≤ 4 := ⟨(1 + y).toNat, by omega, by omega, by omega⟩
      rw [hlv]
      refine ⟨p, ns, c5, ws, oc, lv, ps, rfl, sset_same, sc, hw, o1, o4, ne, by omega, lt, by omega, by omega, fun t c6 ht hd hps hlk sc => ?_⟩
      rw [sset_sset, hM]; clear hM M
      refine seq_cut fun M hM => ?_
      obtain ⟨f1, f2⟩ := few_of hw nd lt few81 hps hlk (Nat.le_trans (lkN_le lv4) (by decide)) l4
      have hl85 := lkN_le lv4
      have sz0 : QSz ws oc t := ⟨ht, by omega, by omega, f2⟩
      have next : ∀ (t : QT) (c' : List D) (x : Option D), QSz ws oc t → few ws t → StC_c ns c' → M [some (.scr ns), some (.hd (.ref p)), some (.tup (ws.map .int)), some (.int (oc : Int)), some (.lst (nI ps)), some (qD t), none, none, none, none, none, none, none, none, none, x] (sset μ p (.lst c')) := by
        clear f1 f2 sz0 ht hd hps hlk t sc
        intro t c7 x sz fw sc
        have hdep := sz.dep
        rw [hM]; clear hM M
        refine seq_cut fun M hM => ?_
        walk_at "wp"
        refine create_q hw o1 o4 sz (fun _ => ⟨by decide, ne_self (side_made (by omega)) ⟨_, rfl, nofun, fun _ => ?_⟩⟩) fun z => absurd fw z
        rw [hM]; clear hM M
        refine seq_cut fun M hM => ?_
        walk_at "wp"
        refine fun qy hqy => ⟨qy, ws, oc, qD t, rfl, by have := hw.l1; omega, qpl_q hw sz.ok, sset_same, fun z => absurd ⟨hw.b, by omega, by omega⟩ z, fun _ _ _ p2 hp2 => (by rw [Int.toNat_natCast, wq_none hw sz.ok sz.dep] at hp2; cases hp2), fun _ _ _ _ => ⟨t, rfl, by rw [Int.toNat_natCast]; exact sz, fun _ => ⟨rfl, NS_Query, _, sset_same, ?_⟩, fun z => absurd fw z⟩⟩
        rw [sset_sset, sdel_sset hqy, hM]; clear hM M
        refine seq_cut fun M hM => ?_
        have eo : D.obj T.c_Query NS_Query [qD t, .tup (ws.map .int), .int (oc : Int)] = qO T.c_Query t ws oc := rfl
        rw [eo]
        walk_at "wp"
        refine ⟨p, ns, c7, ws, rfl, sset_same, sc, hw, fun r1 c8 hr1 ft1 sc => ?_⟩
        rw [sset_sset, hM]; clear hM M
        refine seq_cut fun M hM => ?_
        walk_at "wp"
        refine ⟨p, ns, c8, 100, rfl, sset_same, sc, by decide, by decide, fun y c9 y0 y1 sc => ?_⟩
        rw [sset_sset]
        obtain ⟨pl, rfl⟩ : ∃ pl : Nat, y = (pl : Int) := ⟨y.toNat, by omega⟩
        have hpl : pl < 100 := by omega
        rw [hM]; clear hM M
        refine seq_cut fun M hM => ?_
        have next : ∀ (pl : Nat) (c' : List D), pl < 100 → StC_c ns c' → M [some (.scr ns), some (.hd (.ref p)), some (.tup (ws.map .int)), some (.int (oc : Int)), some (.lst (nI ps)), some (qD t), some (qO T.c_Query t ws oc), some (sdR r1), some (.int (pl : Int)), none, none, none, none, none, none, x] (sset μ p (.lst c')) := by
          clear hpl pl y0 y1 sc
          intro pl c10 hpl sc
          rw [hM]; clear hM M
          refine seq_cut fun M hM => ?_
          walk_at "wp"
          have hw1 := hw.wd1 pl
          refine ⟨ws, pl, rfl, hw, p, ns, c10, 3, rfl, sset_same, sc, by decide, by decide, fun y c11 y0 y1 sc => ?_⟩
          rw [sset_sset]
          walk_at "wp"
          refine ⟨r1, pl, (wd ws pl : Int) + y, rfl, hr1, hpl, by omega, ?_⟩
          have hrb := rw_with hr1 hpl (x := (wd ws pl : Int) + y) (by omega)
          generalize rwWith r1 pl ((wd ws pl : Int) + y) = rb at hrb
          rw [hM]; clear hM M
          refine seq_cut fun M hM => ?_
          walk_at "wp"
          refine ⟨p, ns, c11, ws, rfl, sset_same, sc, hw, fun r2 c12 hr2 _ sc => ?_⟩
          rw [sset_sset, hM]; clear hM M
          refine seq_cut fun M hM => ?_
          walk_at "wp"
          refine ⟨by decide, fun i δ' μ' => μ' = sset μ p (.lst c12) ∧ ∃ x11 : Option D, δ' = [some (.scr ns), some (.hd (.ref p)), some (.tup (ws.map .int)), some (.int (oc : Int)), some (.lst (nI ps)), some (qD t), some (qO T.c_Query t ws oc), some (sdR r1), some (.int (pl : Int)), some (sdR rb), some (sdR r2), x11, none, none, none, x], ⟨rfl, _, rfl⟩, ?_, ?_⟩
          · rintro i d δ' μ' hi ⟨rfl, x11, rfl⟩
            obtain ⟨r, rfl, hr⟩ : ∃ r, d = sdR r ∧ RwOk r := by
              have := List.mem_of_getElem? hi
              simp only [List.mem_cons, List.not_mem_nil, or_false] at this
              rcases this with rfl | rfl | rfl | rfl
              · exact ⟨_, rfl, hr1⟩
              · exact ⟨_, rfl, hrb⟩
              · exact ⟨_, rfl, hr2⟩
              · exact ⟨_, rfl, hr1⟩
            exact ⟨_, rfl, _, rfl, _, rfl, _, rfl, ws, oc, t, r, rfl, hw, sz.ok, by omega, hr, _, rfl, nofun, fun _ => ⟨rfl, _, rfl⟩⟩
          rintro δ' μ' ⟨rfl, x11, rfl⟩
          rw [hM]; clear hM M
          refine seq_cut fun M hM => ?_
          walk_at "wp"
          refine ⟨ws, oc, t, rfl, hw, o1, o4, sz, fw, _, rfl, nofun, fun _ => ?_⟩
          rw [hM]; clear hM M
          refine seq_cut fun M hM => ?_
          walk_at "wp"
          refine ⟨by decide, p, ns, c12, ws, oc, t, [], rfl, sset_same, sc, hw, o1, o4, sz.ok, by omega, by show 0 + _ ≤ _; omega, fun d pa c13 hsp hpa sc => ?_⟩
          rw [sset_sset, List.nil_append, hM]; clear hM M
          refine seq_cut fun M hM => ?_
          walk_at "wp"
          refine create_wrong hw (hsp.pl 20) (hsp.wr 20 hdep) ⟨by decide, ne_self side_wrong ⟨_, rfl, nofun, fun _ => ?_⟩⟩ o1 o4
          rw [hM]; clear hM M
          refine seq_cut fun M hM => ?_
          walk_at "wp"
          have hwl := hw.l1
          have hw0 := hw.l0
          refine ⟨p, ns, c13, ws.length, rfl, sset_same, sc, by omega, log_small_c (by omega), fun y c14 y0 y1 sc => ?_⟩
          obtain ⟨at_, rfl⟩ : ∃ a : Nat, y = (a : Int) := ⟨y.toNat, by omega⟩
          rw [sset_sset, hM]; clear hM M
          refine seq_cut fun M hM => ?_
          walk_at "wp"
          refine ⟨by decide, by decide, by simp; omega, by simp; omega, by decide, by simp; omega, by simp; omega, by decide, by decide, by decide, by decide, by decide, p, ns, c14, 4, rfl, sset_same, sc, by decide, by decide, fun y c15 y0 y1 sc => ?_⟩
          rw [sset_sset]
          obtain ⟨ws2, hat, hl2, hnb⟩ := wrong_ws hw (a := at_) (by omega) y0 y1
          walk_at "wp"
          refine ⟨_, hat, ?_⟩
          rw [hM]; clear hM M
          refine seq_cut fun M hM => ?_
          walk_at "wp"
          refine create_range hl2 (qpl_q hw sz.ok) (fun z => hnb z.1) ⟨by decide, ne_self side_range ⟨_, rfl, nofun, fun _ => create_range hl2 (hsp.pl 20) (fun z => hnb z.1) ⟨by decide, ne_self side_range ⟨_, rfl, nofun, fun _ => ?_⟩⟩⟩⟩
          rw [hM]; clear hM M
          walk_at "wps"
          refine ⟨by decide, p, ns, c15, 2, rfl, sset_same, sc, by decide, by decide, fun y c16 y0 y1 sc => ?_⟩
          rw [sset_sset]
          obtain ⟨o2, hat2, ho2⟩ : ∃ o2 : Int, atI [D.int 0, D.int 5] y = some (.int o2) ∧ ¬ (1 ≤ o2 ∧ o2 ≤ 4) := by
            rcases (show y = 0 ∨ y = 1 by omega) with rfl | rfl
            · exact ⟨0, atI_n (j := 0) rfl, by decide⟩
            · exact ⟨5, atI_n (j := 1) rfl, by decide⟩
          walk_at "wps"
          refine ⟨_, hat2, ?_⟩
          refine create_range (by omega) (hsp.pl 20) (fun z => ho2 z.2) ⟨by decide, eq_self side_range ⟨_, rfl, fun _ => ⟨_, _, rfl, rfl, eq_self (q_side (by omega)) (fin _)⟩, nofun⟩⟩
        clear hM
        cases t with
        | tell o =>
          rw [qd_tell] at next ⊢
          walk_at "wp"
          exact ⟨fun z => absurd z (by decide +kernel), fun _ => next pl c9 hpl sc⟩
        | look q ts =>
          have hq : q < 100 := sz.ok.1
          rw [qd_look] at next ⊢
          walk_at "wp"
          refine ⟨⟨p, ns, c9, 3, rfl, sset_same, sc, by decide, by decide, fun y c10 y0 y1 sc => ?_⟩, fun z => absurd trivial z⟩
          rw [sset_sset]
          walk_at "wp"
          exact ⟨fun _ => next q c10 hq sc, fun _ => next pl c10 hpl sc⟩
      clear hM
      walk_at "wp"
      refine ⟨p, ns, c6, 6, rfl, sset_same, sc, by decide, by decide, fun y c7 y0 y1 sc => ?_⟩
      rw [sset_sset]
      walk_at "wp"
      refine ⟨fun _ => ?_, fun _ => next t c7 none sz0 f1 sc⟩
      refine seq_cut fun N hN => ?_
      walk_at "wp"
      refine ⟨by decide, p, ns, c7, 9, rfl, sset_same, sc, by decide, by decide, fun y c8 y0 y1 sc => ?_⟩
      rw [sset_sset]
      walk_at "wp"
      obtain ⟨lc, hlc, lc1, lc2⟩ : ∃ lc : Nat, 15 + y = (lc : Int) ∧ 15 ≤ lc ∧ lc ≤ 23 := ⟨(15 + y).toNat, by omega, by omega, by omega⟩
      rw [hlc]
      refine ⟨p, ns, c8, ws, oc, lc, ps, rfl, sset_same, sc, hw, o1, o4, ne, by omega, lt, by omega, fun t pa c9 ht hd hps hlk hpa hch _ sc => ?_⟩
      rw [sset_sset, hN]; clear hN N
      refine seq_cut fun N hN => ?_
      walk_at "wp"
      rw [hN]; clear hN N
      walk_at "wp"
      refine ⟨fun q => ?_, fun q => ?_⟩
      · rw [show DW.cutD (List.map D.int pa) none (some 20) = (pa.take 20).map .int by rw [List.map_take]; exact cut_to 20]
        refine create_wrong hw (qpl_q hw ht) (hch 20 (by omega)) ⟨by decide, eq_self side_wrong (fin _)⟩ o1 o4
      · obtain ⟨f1, f2⟩ := few_of hw nd lt few81 hps hlk (by omega) l4
        exact next t c9 _ ⟨ht, by omega, by omega, f2⟩ f1 sc
    clear hM
    walk_at "wp"
    refine ⟨p, ns, c3, 8, rfl, sset_same, sc, by decide, by decide, fun y c4 y0 y1 sc => ?_⟩
    rw [sset_sset]
    walk_at "wp"
    refine ⟨fun _ => ⟨p, ns, c4, ws, oc, rfl, sset_same, sc, hw, o1, o4, fun c5 sc => ⟨_, rfl, nofun, fun _ => ?_⟩⟩, fun _ => next _ sc⟩
    rw [sset_sset]
    exact next _ sc
end
end LW
set_option Elab.async false
set_option linter.all false
set_option maxRecDepth 100000
set_option maxHeartbeats 4000000
namespace LW
open PySem PySem.Spec L2 DW PyProof.Rows NdefX HX
theorem kit_refS {K : PySem.W.Frag} {R C : Addr} {b : Bool} (h0 : PySem.W.subIn K (.ref R) (.ref R) = some true) (h1 : PySem.W.isClsIn K C = true) (h2 : PySem.W.typeIn K (.ref C) = some (.type "type")) (h3 : PySem.W.subIn K (.ref R) (.ref C) = some b) : PySem.W.kitOne K (.ref R) (.ref C) = some b := by
  unfold PySem.W.kitOne
  by_cases e : R = C
  · subst e
    rw [h0] at h3
    rw [if_pos (by simp)]
    exact h3
  · rw [if_neg (by simp [e])]
    have h1' : (PySem.W.clsIn K C).isSome = true := h1
    show (if ((PySem.W.clsIn K C).isSome && PySem.W.typeIn K (.ref C) == some (.type "type")) = true then PySem.W.subIn K (.ref R) (.ref C) else none) = some b
    rw [if_pos (by rw [h1', h2] <;> rfl)]
    exact h3
theorem sci_InvalidTerm : NScope ["self", "path", "__class__"] ["self", "path"] ["__class__"] (defScope si_InvalidTerm) := nscope_by (by decide +kernel)
theorem okinit_InvalidTerm {CX : CXT} {P : Program} {w : World} {K : Fg} {mg : Str → Option Value} {base : Heap} {f C D cc cda : Addr} {file : Str} {kV doc pm ct oc : Value} {an od : Option Addr} {osl : Array (Option Value)}
    (lk : K.lookup f = some ⟨oc, od, .func (PySem.W.ksFn "__init__" "InvalidTerm.__init__" (defArgs si_InvalidTerm) (defBody si_InvalidTerm) (defScope si_InvalidTerm) .none kV doc pm an (.ref cda) ct cc), osl⟩)
    (hcd : PySem.W.codeIn K (.ref cda) "InvalidTerm.__init__" = true) (T : SupC K C D cc f cda file) (hfile : ((P.main.file : Str) == file) = true) (htop : (P.main.scope.names.lookup ("super" : Str)).isSome = false) (hms : mg "super" = none) :
    FnOk P w K mg base CX 1 f (PySem.W.ksFn "__init__" "InvalidTerm.__init__" (defArgs si_InvalidTerm) (defBody si_InvalidTerm) (defScope si_InvalidTerm) .none kV doc pm an (.ref cda) ct cc) ["self", "path"] (spInit K C "path" (okPath K)) :=
  sup_fn (k := 0) lk hcd sci_InvalidTerm T rfl rfl hfile htop hms rfl (by decide) fun X hP hw hK hN hsc hL hr => by
    obtain ⟨L, hL⟩ := hL
    have v0 : ∀ p, PE X (.Name "self" p) (tVar 0) := fun p => pv 0 (hN := by rw [hN]; rfl) (hv := .inl (by rw [hsc]; rfl))
    have v1 : ∀ p, PE X (.Name "path" p) (tVar 1) := fun p => pv 1 (hN := by rw [hN]; rfl) (hv := .inl (by rw [hsc]; rfl))
    subst hK
    exact ⟨msg_path hr (by decide) (by decide) (v1 _), by rw [hL]; rfl, by rw [hL]; rfl, by rw [hL]; rfl, by rw [hL]; rfl, ⟨_, by rw [hL]; rfl⟩, by rw [hL]; rfl, v0 _, v1 _⟩
theorem sci_InvalidText : NScope ["self", "position", "__class__"] ["self", "position"] ["__class__"] (defScope si_InvalidText) := nscope_by (by decide +kernel)
theorem okinit_InvalidText {CX : CXT} {P : Program} {w : World} {K : Fg} {mg : Str → Option Value} {base : Heap} {f C D cc cda : Addr} {file : Str} {kV doc pm ct oc : Value} {an od : Option Addr} {osl : Array (Option Value)}
    (lk : K.lookup f = some ⟨oc, od, .func (PySem.W.ksFn "__init__" "InvalidText.__init__" (defArgs si_InvalidText) (defBody si_InvalidText) (defScope si_InvalidText) .none kV doc pm an (.ref cda) ct cc), osl⟩)
    (hcd : PySem.W.codeIn K (.ref cda) "InvalidText.__init__" = true) (T : SupC K C D cc f cda file) (hfile : ((P.main.file : Str) == file) = true) (htop : (P.main.scope.names.lookup ("super" : Str)).isSome = false) (hms : mg "super" = none) :
    FnOk P w K mg base CX 1 f (PySem.W.ksFn "__init__" "InvalidText.__init__" (defArgs si_InvalidText) (defBody si_InvalidText) (defScope si_InvalidText) .none kV doc pm an (.ref cda) ct cc) ["self", "position"] (spInit K C "position" okInt) :=
  sup_fn (k := 0) lk hcd sci_InvalidText T rfl rfl hfile htop hms rfl (by decide) fun X hP hw hK hN hsc hL hr => by
    obtain ⟨L, hL⟩ := hL
    have v0 : ∀ p, PE X (.Name "self" p) (tVar 0) := fun p => pv 0 (hN := by rw [hN]; rfl) (hv := .inl (by rw [hsc]; rfl))
    have v1 : ∀ p, PE X (.Name "position" p) (tVar 1) := fun p => pv 1 (hN := by rw [hN]; rfl) (hv := .inl (by rw [hsc]; rfl))
    
    exact ⟨msg_int (by decide) (v1 _), by rw [hL]; rfl, by rw [hL]; rfl, by rw [hL]; rfl, by rw [hL]; rfl, ⟨_, by rw [hL]; rfl⟩, by rw [hL]; rfl, v0 _, v1 _⟩
open PyProof.Rows in
theorem all_mk {P : Program} {w : World} {K : PySem.W.Frag} {h : Heap} {mg : Str → Option Value} {fa c_InvalidTerm c_InvalidText c_OutOfRange c_TooLarge c_InvalidQuery c_InvalidAim c_InvalidGame c_ChoosersError c_Query c_Row ps26 fi_InvalidTerm fi_InvalidText fi_InvalidQuery f0 f1 f2 f3 f4 f5 f6 f7 f8 f9 f10 f11 f12 f13 f14 f15 f16 f17 f18 f19 f20 f21 f22 f23 f24 f25 f26 f27 dA27 f28 f29 f30 f31 f32 f33 f34 f35 f36 f37 f38 f39 f40 f41 f42 f43 f44 f45 f46 f47 f48 f49 f50 : Addr} (X : K.In h) (G : h.Ns mainGlobals mg) (hfa : mg "law" = some (.ref fa)) (hP : ((P.main.file : Str) == fileP) = true) (htop_ : (P.main.scope.names.lookup ("super" : Str)).isSome = false)
    (FI0 : fnI K f0 = vI "is_number" "is_number" s_is_number [])
    (FI1 : fnI K f1 = vI "is_below" "is_below" s_is_below [])
    (FI2 : fnI K f2 = vI "is_word" "is_word" s_is_word [])
    (FI3 : fnI K f3 = vI "wrong_part" "wrong_part" s_wrong_part [])
    (FI4 : fnI K f4 = vI "text_of" "text_of" s_text_of [])
    (FI5 : fnI K f5 = vI "write_term" "write_term" s_write_term [])
    (FI6 : fnI K f6 = vI "run_end" "run_end" s_run_end [])
    (FI7 : fnI K f7 = vI "read_part" "read_part" s_read_part [])
    (FI8 : fnI K f8 = vI "read_tuple" "read_tuple" s_read_tuple [])
    (FI9 : fnI K f9 = vI "read_term" "read_term" s_read_term [])
    (FI10 : fnI K f10 = vI "read_headed" "read_headed" s_read_headed [])
    (FI11 : fnI K f11 = vI "count_choices" "count_choices" s_count_choices [])
    (FI12 : fnI K f12 = vI "has_outcomes" "has_outcomes" s_has_outcomes [])
    (FI13 : fnI K f13 = vI "width_at" "width_at" s_width_at [])
    (FI14 : fnI K f14 = vI "terms_behind" "terms_behind" s_terms_behind [])
    (FI15 : fnI K f15 = vI "are_widths" "are_widths" s_are_widths [])
    (FI16 : fnI K f16 = vI "require_form" "require_form" s_require_form [])
    (FI17 : fnI K f17 = vI "has_query_form" "has_query_form" s_has_query_form [])
    (FI18 : fnI K f18 = vI "wrong_query" "wrong_query" s_wrong_query [])
    (FI19 : fnI K f19 = vI "places_of" "places_of" s_places_of [])
    (FI20 : fnI K f20 = vI "require_few" "require_few" s_require_few [])
    (FI21 : fnI K f21 = vI "followed" "followed" s_followed [])
    (FI22 : fnI K f22 = vI "looked_places" "looked_places" s_looked_places [])
    (FI23 : fnI K f23 = vI "__init__" "Query.__init__" s_Query___init__ [])
    (FI24 : fnI K f24 = vI "__call__" "Query.__call__" s_Query___call__ [])
    (FI25 : fnI K f25 = vI "text" "Query.text" s_Query_text [])
    (FI26 : fnI K f26 = vI "read" "Query.read" s_Query_read [])
    (FI27 : fnI K f27 = vI "__init__" "Row.__init__" s_Row___init__ [])
    (FI28 : fnI K f28 = vI "__getitem__" "Row.__getitem__" s_Row___getitem__ [])
    (FI29 : fnI K f29 = vI "_law_start" "_law_start" s__law_start [])
    (FI30 : fnI K f30 = vI "_law_pick" "_law_pick" s__law_pick [])
    (FI31 : fnI K f31 = vI "_law_width" "_law_width" s__law_width [])
    (FI32 : fnI K f32 = vI "_law_widths" "_law_widths" s__law_widths [])
    (FI33 : fnI K f33 = vI "_law_places" "_law_places" s__law_places [])
    (FI34 : fnI K f34 = vI "_law_term" "_law_term" s__law_term [])
    (FI35 : fnI K f35 = vI "_law_chain" "_law_chain" s__law_chain [])
    (FI36 : fnI K f36 = vI "_law_many_looks" "_law_many_looks" s__law_many_looks [])
    (FI37 : fnI K f37 = vI "_law_spoilt" "_law_spoilt" s__law_spoilt [])
    (FI38 : fnI K f38 = vI "_law_create" "_law_create" s__law_create [])
    (FI39 : fnI K f39 = vI "_law_entry" "_law_entry" s__law_entry [])
    (FI40 : fnI K f40 = vI "_law_row" "_law_row" s__law_row [])
    (FI41 : fnI K f41 = vI "_law_with" "_law_with" s__law_with [])
    (FI42 : fnI K f42 = vI "_law_follow" "_law_follow" s__law_follow [])
    (FI43 : fnI K f43 = vI "_law_told" "_law_told" s__law_told [])
    (FI44 : fnI K f44 = vI "_law_looked" "_law_looked" s__law_looked [])
    (FI45 : fnI K f45 = vI "_law_answers" "_law_answers" s__law_answers [])
    (FI46 : fnI K f46 = vI "_law_text" "_law_text" s__law_text [])
    (FI47 : fnI K f47 = vI "_law_unread" "_law_unread" s__law_unread [])
    (FI48 : fnI K f48 = vI "_law_texts" "_law_texts" s__law_texts [])
    (FI49 : fnI K f49 = vI "_law_large" "_law_large" s__law_large [])
    (FI50 : fnI K f50 = vI "law" "law" s_law [])
    (I_InvalidTerm : fnI K fi_InvalidTerm = vI "__init__" "InvalidTerm.__init__" si_InvalidTerm ["__class__"])
    (I_InvalidText : fnI K fi_InvalidText = vI "__init__" "InvalidText.__init__" si_InvalidText ["__class__"])
    (I_InvalidQuery : fnI K fi_InvalidQuery = vI "__init__" "InvalidTerm.__init__" si_InvalidTerm ["__class__"])
    (h0_ : ck0 K c_Query c_Row f0 f1 f2 f3 f4 f5 f6 f7 = true)
    (h1_ : ck1 K f7 f8 f9 f10 f11 f12 f13 f14 f15 = true)
    (h2_ : ck2 K c_Query f16 f17 f18 f19 f20 f21 f22 f23 = true)
    (h3_ : ck3 K c_Query c_Row ps26 f24 f25 f26 f27 dA27 f28 f29 f30 = true)
    (h4_ : ck4 K f30 f31 f32 f33 f34 f35 f36 f37 f38 = true)
    (h5_ : ck5 K f38 f39 f40 f41 f42 f43 f44 f45 f46 = true)
    (h6_ : ck6 K f47 f48 f49 f50 = true)
    (h7_ : ck7 K c_InvalidTerm c_InvalidText c_OutOfRange c_TooLarge c_InvalidQuery c_InvalidAim c_InvalidGame c_ChoosersError = true)
    (h8_ : ck8 K c_InvalidTerm c_InvalidText c_OutOfRange c_TooLarge c_InvalidQuery c_InvalidAim c_InvalidGame c_ChoosersError = true)
    (h9_ : ck9 K c_InvalidTerm c_InvalidText c_OutOfRange c_TooLarge c_InvalidQuery c_InvalidAim c_InvalidGame c_ChoosersError = true)
    (h10_ : ck10 K c_InvalidTerm c_OutOfRange c_TooLarge c_InvalidQuery c_InvalidAim c_InvalidGame c_ChoosersError = true)
    (h11_ : ck11 K c_InvalidTerm c_InvalidText c_OutOfRange c_InvalidQuery c_ChoosersError fi_InvalidTerm fi_InvalidText fi_InvalidQuery = true)
    (h12_ : ck12 K c_InvalidTerm c_InvalidText c_OutOfRange c_TooLarge c_InvalidQuery c_InvalidAim c_InvalidGame c_ChoosersError c_Query = true)
    (h13_ : ck13 K c_Query c_Row f24 f28 = true)
    : ∃ fd : FuncData, (∀ (s : Shared) (v : Value), BindsTo s fd ⟨[v], []⟩ [("_law_script", v)]) ∧ ∀ base : Heap, K.In base → base.Ns mainGlobals mg → FnOk P w K mg base (L2N.CX P w) 80 fa fd ["_law_script"] (spOf K c_law) := by
  obtain ⟨g_Query, h0_⟩ := He.ba h0_
  have g_Query := He.eqO_ok g_Query
  obtain ⟨g_Row, h0_⟩ := He.ba h0_
  have g_Row := He.eqO_ok g_Row
  obtain ⟨a0, h0_⟩ := He.ba h0_
  have a0 := He.eqO_ok a0
  obtain ⟨c0, h0_⟩ := He.ba h0_
  obtain ⟨k0, h0_⟩ := He.ba h0_
  obtain ⟨a1, h0_⟩ := He.ba h0_
  have a1 := He.eqO_ok a1
  obtain ⟨c1, h0_⟩ := He.ba h0_
  obtain ⟨k1, h0_⟩ := He.ba h0_
  obtain ⟨a2, h0_⟩ := He.ba h0_
  have a2 := He.eqO_ok a2
  obtain ⟨c2, h0_⟩ := He.ba h0_
  obtain ⟨k2, h0_⟩ := He.ba h0_
  obtain ⟨a3, h0_⟩ := He.ba h0_
  have a3 := He.eqO_ok a3
  obtain ⟨c3, h0_⟩ := He.ba h0_
  obtain ⟨k3, h0_⟩ := He.ba h0_
  obtain ⟨a4, h0_⟩ := He.ba h0_
  have a4 := He.eqO_ok a4
  obtain ⟨c4, h0_⟩ := He.ba h0_
  obtain ⟨k4, h0_⟩ := He.ba h0_
  obtain ⟨a5, h0_⟩ := He.ba h0_
  have a5 := He.eqO_ok a5
  obtain ⟨c5, h0_⟩ := He.ba h0_
  obtain ⟨k5, h0_⟩ := He.ba h0_
  obtain ⟨a6, h0_⟩ := He.ba h0_
  have a6 := He.eqO_ok a6
  obtain ⟨c6, h0_⟩ := He.ba h0_
  obtain ⟨k6, h0_⟩ := He.ba h0_
  obtain ⟨a7, h0_⟩ := He.ba h0_
  have a7 := He.eqO_ok a7
  have c7 := h0_
  obtain ⟨k7, h1_⟩ := He.ba h1_
  obtain ⟨a8, h1_⟩ := He.ba h1_
  have a8 := He.eqO_ok a8
  obtain ⟨c8, h1_⟩ := He.ba h1_
  obtain ⟨k8, h1_⟩ := He.ba h1_
  obtain ⟨a9, h1_⟩ := He.ba h1_
  have a9 := He.eqO_ok a9
  obtain ⟨c9, h1_⟩ := He.ba h1_
  obtain ⟨k9, h1_⟩ := He.ba h1_
  obtain ⟨a10, h1_⟩ := He.ba h1_
  have a10 := He.eqO_ok a10
  obtain ⟨c10, h1_⟩ := He.ba h1_
  obtain ⟨k10, h1_⟩ := He.ba h1_
  obtain ⟨a11, h1_⟩ := He.ba h1_
  have a11 := He.eqO_ok a11
  obtain ⟨c11, h1_⟩ := He.ba h1_
  obtain ⟨k11, h1_⟩ := He.ba h1_
  obtain ⟨a12, h1_⟩ := He.ba h1_
  have a12 := He.eqO_ok a12
  obtain ⟨c12, h1_⟩ := He.ba h1_
  obtain ⟨k12, h1_⟩ := He.ba h1_
  obtain ⟨a13, h1_⟩ := He.ba h1_
  have a13 := He.eqO_ok a13
  obtain ⟨c13, h1_⟩ := He.ba h1_
  obtain ⟨k13, h1_⟩ := He.ba h1_
  obtain ⟨a14, h1_⟩ := He.ba h1_
  have a14 := He.eqO_ok a14
  obtain ⟨c14, h1_⟩ := He.ba h1_
  obtain ⟨k14, h1_⟩ := He.ba h1_
  obtain ⟨a15, h1_⟩ := He.ba h1_
  have a15 := He.eqO_ok a15
  obtain ⟨c15, h1_⟩ := He.ba h1_
  have k15 := h1_
  obtain ⟨a16, h2_⟩ := He.ba h2_
  have a16 := He.eqO_ok a16
  obtain ⟨c16, h2_⟩ := He.ba h2_
  obtain ⟨k16, h2_⟩ := He.ba h2_
  obtain ⟨a17, h2_⟩ := He.ba h2_
  have a17 := He.eqO_ok a17
  obtain ⟨c17, h2_⟩ := He.ba h2_
  obtain ⟨k17, h2_⟩ := He.ba h2_
  obtain ⟨a18, h2_⟩ := He.ba h2_
  have a18 := He.eqO_ok a18
  obtain ⟨c18, h2_⟩ := He.ba h2_
  obtain ⟨k18, h2_⟩ := He.ba h2_
  obtain ⟨a19, h2_⟩ := He.ba h2_
  have a19 := He.eqO_ok a19
  obtain ⟨c19, h2_⟩ := He.ba h2_
  obtain ⟨k19, h2_⟩ := He.ba h2_
  obtain ⟨a20, h2_⟩ := He.ba h2_
  have a20 := He.eqO_ok a20
  obtain ⟨c20, h2_⟩ := He.ba h2_
  obtain ⟨k20, h2_⟩ := He.ba h2_
  obtain ⟨a21, h2_⟩ := He.ba h2_
  have a21 := He.eqO_ok a21
  obtain ⟨c21, h2_⟩ := He.ba h2_
  obtain ⟨k21, h2_⟩ := He.ba h2_
  obtain ⟨a22, h2_⟩ := He.ba h2_
  have a22 := He.eqO_ok a22
  obtain ⟨c22, h2_⟩ := He.ba h2_
  obtain ⟨k22, h2_⟩ := He.ba h2_
  obtain ⟨a23, h2_⟩ := He.ba h2_
  have a23 := He.eqO_ok a23
  obtain ⟨i23, h2_⟩ := He.ba h2_
  obtain ⟨c23, h2_⟩ := He.ba h2_
  have k23 := h2_
  obtain ⟨a24, h3_⟩ := He.ba h3_
  have a24 := He.eqO_ok a24
  obtain ⟨i24, h3_⟩ := He.ba h3_
  obtain ⟨c24, h3_⟩ := He.ba h3_
  obtain ⟨k24, h3_⟩ := He.ba h3_
  obtain ⟨a25, h3_⟩ := He.ba h3_
  have a25 := He.eqO_ok a25
  obtain ⟨i25, h3_⟩ := He.ba h3_
  obtain ⟨c25, h3_⟩ := He.ba h3_
  obtain ⟨k25, h3_⟩ := He.ba h3_
  obtain ⟨sm26, h3_⟩ := He.ba h3_
  obtain ⟨a26, i26⟩ := smB_ok sm26
  obtain ⟨s26, h3_⟩ := He.ba h3_
  have s26 := of_decide_eq_true s26
  obtain ⟨c26, h3_⟩ := He.ba h3_
  obtain ⟨k26, h3_⟩ := He.ba h3_
  obtain ⟨a27, h3_⟩ := He.ba h3_
  have a27 := He.eqO_ok a27
  obtain ⟨i27, h3_⟩ := He.ba h3_
  obtain ⟨c27, h3_⟩ := He.ba h3_
  obtain ⟨dt27, h3_⟩ := He.ba h3_
  have dt27 := tupB_ok dt27
  obtain ⟨k27, h3_⟩ := He.ba h3_
  obtain ⟨a28, h3_⟩ := He.ba h3_
  have a28 := He.eqO_ok a28
  obtain ⟨i28, h3_⟩ := He.ba h3_
  obtain ⟨c28, h3_⟩ := He.ba h3_
  obtain ⟨k28, h3_⟩ := He.ba h3_
  obtain ⟨a29, h3_⟩ := He.ba h3_
  have a29 := He.eqO_ok a29
  obtain ⟨c29, h3_⟩ := He.ba h3_
  obtain ⟨k29, h3_⟩ := He.ba h3_
  have a30 := h3_
  have a30 := He.eqO_ok a30
  obtain ⟨c30, h4_⟩ := He.ba h4_
  obtain ⟨k30, h4_⟩ := He.ba h4_
  obtain ⟨a31, h4_⟩ := He.ba h4_
  have a31 := He.eqO_ok a31
  obtain ⟨c31, h4_⟩ := He.ba h4_
  obtain ⟨k31, h4_⟩ := He.ba h4_
  obtain ⟨a32, h4_⟩ := He.ba h4_
  have a32 := He.eqO_ok a32
  obtain ⟨c32, h4_⟩ := He.ba h4_
  obtain ⟨k32, h4_⟩ := He.ba h4_
  obtain ⟨a33, h4_⟩ := He.ba h4_
  have a33 := He.eqO_ok a33
  obtain ⟨c33, h4_⟩ := He.ba h4_
  obtain ⟨k33, h4_⟩ := He.ba h4_
  obtain ⟨a34, h4_⟩ := He.ba h4_
  have a34 := He.eqO_ok a34
  obtain ⟨c34, h4_⟩ := He.ba h4_
  obtain ⟨k34, h4_⟩ := He.ba h4_
  obtain ⟨a35, h4_⟩ := He.ba h4_
  have a35 := He.eqO_ok a35
  obtain ⟨c35, h4_⟩ := He.ba h4_
  obtain ⟨k35, h4_⟩ := He.ba h4_
  obtain ⟨a36, h4_⟩ := He.ba h4_
  have a36 := He.eqO_ok a36
  obtain ⟨c36, h4_⟩ := He.ba h4_
  obtain ⟨k36, h4_⟩ := He.ba h4_
  obtain ⟨a37, h4_⟩ := He.ba h4_
  have a37 := He.eqO_ok a37
  obtain ⟨c37, h4_⟩ := He.ba h4_
  obtain ⟨k37, h4_⟩ := He.ba h4_
  obtain ⟨a38, h4_⟩ := He.ba h4_
  have a38 := He.eqO_ok a38
  have c38 := h4_
  obtain ⟨k38, h5_⟩ := He.ba h5_
  obtain ⟨a39, h5_⟩ := He.ba h5_
  have a39 := He.eqO_ok a39
  obtain ⟨c39, h5_⟩ := He.ba h5_
  obtain ⟨k39, h5_⟩ := He.ba h5_
  obtain ⟨a40, h5_⟩ := He.ba h5_
  have a40 := He.eqO_ok a40
  obtain ⟨c40, h5_⟩ := He.ba h5_
  obtain ⟨k40, h5_⟩ := He.ba h5_
  obtain ⟨a41, h5_⟩ := He.ba h5_
  have a41 := He.eqO_ok a41
  obtain ⟨c41, h5_⟩ := He.ba h5_
  obtain ⟨k41, h5_⟩ := He.ba h5_
  obtain ⟨a42, h5_⟩ := He.ba h5_
  have a42 := He.eqO_ok a42
  obtain ⟨c42, h5_⟩ := He.ba h5_
  obtain ⟨k42, h5_⟩ := He.ba h5_
  obtain ⟨a43, h5_⟩ := He.ba h5_
  have a43 := He.eqO_ok a43
  obtain ⟨c43, h5_⟩ := He.ba h5_
  obtain ⟨k43, h5_⟩ := He.ba h5_
  obtain ⟨a44, h5_⟩ := He.ba h5_
  have a44 := He.eqO_ok a44
  obtain ⟨c44, h5_⟩ := He.ba h5_
  obtain ⟨k44, h5_⟩ := He.ba h5_
  obtain ⟨a45, h5_⟩ := He.ba h5_
  have a45 := He.eqO_ok a45
  obtain ⟨c45, h5_⟩ := He.ba h5_
  obtain ⟨k45, h5_⟩ := He.ba h5_
  obtain ⟨a46, h5_⟩ := He.ba h5_
  have a46 := He.eqO_ok a46
  obtain ⟨c46, h5_⟩ := He.ba h5_
  have k46 := h5_
  obtain ⟨a47, h6_⟩ := He.ba h6_
  have a47 := He.eqO_ok a47
  obtain ⟨c47, h6_⟩ := He.ba h6_
  obtain ⟨k47, h6_⟩ := He.ba h6_
  obtain ⟨a48, h6_⟩ := He.ba h6_
  have a48 := He.eqO_ok a48
  obtain ⟨c48, h6_⟩ := He.ba h6_
  obtain ⟨k48, h6_⟩ := He.ba h6_
  obtain ⟨a49, h6_⟩ := He.ba h6_
  have a49 := He.eqO_ok a49
  obtain ⟨c49, h6_⟩ := He.ba h6_
  obtain ⟨k49, h6_⟩ := He.ba h6_
  obtain ⟨a50, h6_⟩ := He.ba h6_
  have a50 := He.eqO_ok a50
  obtain ⟨c50, h6_⟩ := He.ba h6_
  obtain ⟨k50, h6_⟩ := He.ba h6_
  obtain ⟨z_isinstance, h6_⟩ := He.ba h6_
  have z_isinstance := He.eqO_ok z_isinstance
  obtain ⟨z_int, h6_⟩ := He.ba h6_
  have z_int := He.eqO_ok z_int
  obtain ⟨z_bool, h6_⟩ := He.ba h6_
  have z_bool := He.eqO_ok z_bool
  obtain ⟨z_all, h6_⟩ := He.ba h6_
  have z_all := He.eqO_ok z_all
  obtain ⟨z_str, h6_⟩ := He.ba h6_
  have z_str := He.eqO_ok z_str
  obtain ⟨z_len, h6_⟩ := He.ba h6_
  have z_len := He.eqO_ok z_len
  obtain ⟨z_enumerate, h6_⟩ := He.ba h6_
  have z_enumerate := He.eqO_ok z_enumerate
  obtain ⟨z_tuple, h6_⟩ := He.ba h6_
  have z_tuple := He.eqO_ok z_tuple
  obtain ⟨z_sorted, h6_⟩ := He.ba h6_
  have z_sorted := He.eqO_ok z_sorted
  obtain ⟨z_set, h6_⟩ := He.ba h6_
  have z_set := He.eqO_ok z_set
  obtain ⟨z_range, h6_⟩ := He.ba h6_
  have z_range := He.eqO_ok z_range
  obtain ⟨z_list, h6_⟩ := He.ba h6_
  have z_list := He.eqO_ok z_list
  have z_min := h6_
  have z_min := He.eqO_ok z_min
  obtain ⟨z_max, h7_⟩ := He.ba h7_
  have z_max := He.eqO_ok z_max
  obtain ⟨z_staticmethod, h7_⟩ := He.ba h7_
  have z_staticmethod := He.eqO_ok z_staticmethod
  obtain ⟨gc_LETTERS, h7_⟩ := He.ba h7_
  obtain ⟨_, gc_LETTERS⟩ := strB_ok gc_LETTERS
  obtain ⟨gc_DIGITS, h7_⟩ := He.ba h7_
  obtain ⟨_, gc_DIGITS⟩ := strB_ok gc_DIGITS
  obtain ⟨gc_LONGEST_WORD, h7_⟩ := He.ba h7_
  obtain ⟨_, gc_LONGEST_WORD⟩ := intB_ok gc_LONGEST_WORD
  obtain ⟨gc_LONGEST_NUMBER, h7_⟩ := He.ba h7_
  obtain ⟨_, gc_LONGEST_NUMBER⟩ := intB_ok gc_LONGEST_NUMBER
  obtain ⟨gc_NUMBERS_END, h7_⟩ := He.ba h7_
  obtain ⟨_, gc_NUMBERS_END⟩ := intB_ok gc_NUMBERS_END
  obtain ⟨gc_DEEPEST_TUPLE, h7_⟩ := He.ba h7_
  obtain ⟨_, gc_DEEPEST_TUPLE⟩ := intB_ok gc_DEEPEST_TUPLE
  obtain ⟨gc_MOST_OUTCOMES, h7_⟩ := He.ba h7_
  obtain ⟨_, gc_MOST_OUTCOMES⟩ := intB_ok gc_MOST_OUTCOMES
  obtain ⟨gc_MOST_WIDTHS, h7_⟩ := He.ba h7_
  obtain ⟨_, gc_MOST_WIDTHS⟩ := intB_ok gc_MOST_WIDTHS
  obtain ⟨gc_WIDEST, h7_⟩ := He.ba h7_
  obtain ⟨_, gc_WIDEST⟩ := intB_ok gc_WIDEST
  obtain ⟨gc_PLACES, h7_⟩ := He.ba h7_
  obtain ⟨_, gc_PLACES⟩ := intB_ok gc_PLACES
  obtain ⟨gc_ITEMS_BEFORE, h7_⟩ := He.ba h7_
  obtain ⟨_, gc_ITEMS_BEFORE⟩ := intB_ok gc_ITEMS_BEFORE
  obtain ⟨gc_TWO_OUTCOMES, h7_⟩ := He.ba h7_
  obtain ⟨_, gc_TWO_OUTCOMES⟩ := intB_ok gc_TWO_OUTCOMES
  obtain ⟨g_InvalidTerm, h7_⟩ := He.ba h7_
  have g_InvalidTerm := He.eqO_ok g_InvalidTerm
  obtain ⟨g_InvalidText, h7_⟩ := He.ba h7_
  have g_InvalidText := He.eqO_ok g_InvalidText
  obtain ⟨g_OutOfRange, h7_⟩ := He.ba h7_
  have g_OutOfRange := He.eqO_ok g_OutOfRange
  obtain ⟨g_TooLarge, h7_⟩ := He.ba h7_
  have g_TooLarge := He.eqO_ok g_TooLarge
  obtain ⟨g_InvalidQuery, h7_⟩ := He.ba h7_
  have g_InvalidQuery := He.eqO_ok g_InvalidQuery
  obtain ⟨g_InvalidAim, h7_⟩ := He.ba h7_
  have g_InvalidAim := He.eqO_ok g_InvalidAim
  obtain ⟨g_InvalidGame, h7_⟩ := He.ba h7_
  have g_InvalidGame := He.eqO_ok g_InvalidGame
  obtain ⟨g_ChoosersError, h7_⟩ := He.ba h7_
  have g_ChoosersError := He.eqO_ok g_ChoosersError
  obtain ⟨x_OutOfRange, h7_⟩ := He.ba h7_
  obtain ⟨x_TooLarge, h7_⟩ := He.ba h7_
  have z_super := h7_
  have z_super := He.eqO_ok z_super
  obtain ⟨opq_, h8_⟩ := He.ba h8_
  have opq_ := He.eqO_ok opq_
  obtain ⟨kc_InvalidTerm, h8_⟩ := He.ba h8_
  obtain ⟨e_InvalidTerm, h8_⟩ := He.ba h8_
  have e_InvalidTerm := of_decide_eq_true e_InvalidTerm
  obtain ⟨t_InvalidTerm, h8_⟩ := He.ba h8_
  have t_InvalidTerm := of_decide_eq_true t_InvalidTerm
  obtain ⟨hg_InvalidTerm, h8_⟩ := He.ba h8_
  have hg_InvalidTerm := He.eqO_ok hg_InvalidTerm
  obtain ⟨hk_InvalidTerm, h8_⟩ := He.ba h8_
  have hk_InvalidTerm := He.eqO_ok hk_InvalidTerm
  obtain ⟨hd_InvalidTerm, h8_⟩ := He.ba h8_
  obtain ⟨ha_InvalidTerm, h8_⟩ := He.ba h8_
  have ha_InvalidTerm := He.eqO_ok ha_InvalidTerm
  obtain ⟨hm_InvalidTerm, h8_⟩ := He.ba h8_
  have hm_InvalidTerm := of_decide_eq_true hm_InvalidTerm
  obtain ⟨s_InvalidTerm_InvalidTerm, h8_⟩ := He.ba h8_
  have s_InvalidTerm_InvalidTerm := of_decide_eq_true s_InvalidTerm_InvalidTerm
  obtain ⟨s_InvalidTerm_InvalidAim, h8_⟩ := He.ba h8_
  have s_InvalidTerm_InvalidAim := of_decide_eq_true s_InvalidTerm_InvalidAim
  obtain ⟨s_InvalidTerm_InvalidGame, h8_⟩ := He.ba h8_
  have s_InvalidTerm_InvalidGame := of_decide_eq_true s_InvalidTerm_InvalidGame
  obtain ⟨s_InvalidTerm_TooLarge, h8_⟩ := He.ba h8_
  have s_InvalidTerm_TooLarge := of_decide_eq_true s_InvalidTerm_TooLarge
  obtain ⟨s_InvalidTerm_ChoosersError, h8_⟩ := He.ba h8_
  have s_InvalidTerm_ChoosersError := of_decide_eq_true s_InvalidTerm_ChoosersError
  obtain ⟨s_InvalidTerm_InvalidQuery, h8_⟩ := He.ba h8_
  have s_InvalidTerm_InvalidQuery := of_decide_eq_true s_InvalidTerm_InvalidQuery
  obtain ⟨s_InvalidTerm_OutOfRange, h8_⟩ := He.ba h8_
  have s_InvalidTerm_OutOfRange := of_decide_eq_true s_InvalidTerm_OutOfRange
  obtain ⟨kc_InvalidText, h8_⟩ := He.ba h8_
  obtain ⟨e_InvalidText, h8_⟩ := He.ba h8_
  have e_InvalidText := of_decide_eq_true e_InvalidText
  obtain ⟨t_InvalidText, h8_⟩ := He.ba h8_
  have t_InvalidText := of_decide_eq_true t_InvalidText
  obtain ⟨hg_InvalidText, h8_⟩ := He.ba h8_
  have hg_InvalidText := He.eqO_ok hg_InvalidText
  obtain ⟨hk_InvalidText, h8_⟩ := He.ba h8_
  have hk_InvalidText := He.eqO_ok hk_InvalidText
  obtain ⟨hd_InvalidText, h8_⟩ := He.ba h8_
  obtain ⟨ha_InvalidText, h8_⟩ := He.ba h8_
  have ha_InvalidText := He.eqO_ok ha_InvalidText
  obtain ⟨hm_InvalidText, h8_⟩ := He.ba h8_
  have hm_InvalidText := of_decide_eq_true hm_InvalidText
  have s_InvalidText_InvalidText := h8_
  have s_InvalidText_InvalidText := of_decide_eq_true s_InvalidText_InvalidText
  obtain ⟨s_InvalidText_InvalidAim, h9_⟩ := He.ba h9_
  have s_InvalidText_InvalidAim := of_decide_eq_true s_InvalidText_InvalidAim
  obtain ⟨s_InvalidText_InvalidGame, h9_⟩ := He.ba h9_
  have s_InvalidText_InvalidGame := of_decide_eq_true s_InvalidText_InvalidGame
  obtain ⟨s_InvalidText_InvalidTerm, h9_⟩ := He.ba h9_
  have s_InvalidText_InvalidTerm := of_decide_eq_true s_InvalidText_InvalidTerm
  obtain ⟨s_InvalidText_TooLarge, h9_⟩ := He.ba h9_
  have s_InvalidText_TooLarge := of_decide_eq_true s_InvalidText_TooLarge
  obtain ⟨s_InvalidText_ChoosersError, h9_⟩ := He.ba h9_
  have s_InvalidText_ChoosersError := of_decide_eq_true s_InvalidText_ChoosersError
  obtain ⟨s_InvalidText_InvalidQuery, h9_⟩ := He.ba h9_
  have s_InvalidText_InvalidQuery := of_decide_eq_true s_InvalidText_InvalidQuery
  obtain ⟨s_InvalidText_OutOfRange, h9_⟩ := He.ba h9_
  have s_InvalidText_OutOfRange := of_decide_eq_true s_InvalidText_OutOfRange
  obtain ⟨kc_OutOfRange, h9_⟩ := He.ba h9_
  obtain ⟨e_OutOfRange, h9_⟩ := He.ba h9_
  have e_OutOfRange := of_decide_eq_true e_OutOfRange
  obtain ⟨t_OutOfRange, h9_⟩ := He.ba h9_
  have t_OutOfRange := of_decide_eq_true t_OutOfRange
  obtain ⟨hg_OutOfRange, h9_⟩ := He.ba h9_
  have hg_OutOfRange := He.eqO_ok hg_OutOfRange
  obtain ⟨hk_OutOfRange, h9_⟩ := He.ba h9_
  have hk_OutOfRange := He.eqO_ok hk_OutOfRange
  obtain ⟨hd_OutOfRange, h9_⟩ := He.ba h9_
  obtain ⟨ha_OutOfRange, h9_⟩ := He.ba h9_
  have ha_OutOfRange := He.eqO_ok ha_OutOfRange
  obtain ⟨hm_OutOfRange, h9_⟩ := He.ba h9_
  have hm_OutOfRange := of_decide_eq_true hm_OutOfRange
  obtain ⟨s_OutOfRange_OutOfRange, h9_⟩ := He.ba h9_
  have s_OutOfRange_OutOfRange := of_decide_eq_true s_OutOfRange_OutOfRange
  obtain ⟨s_OutOfRange_InvalidAim, h9_⟩ := He.ba h9_
  have s_OutOfRange_InvalidAim := of_decide_eq_true s_OutOfRange_InvalidAim
  obtain ⟨s_OutOfRange_InvalidGame, h9_⟩ := He.ba h9_
  have s_OutOfRange_InvalidGame := of_decide_eq_true s_OutOfRange_InvalidGame
  obtain ⟨s_OutOfRange_InvalidTerm, h9_⟩ := He.ba h9_
  have s_OutOfRange_InvalidTerm := of_decide_eq_true s_OutOfRange_InvalidTerm
  obtain ⟨s_OutOfRange_TooLarge, h9_⟩ := He.ba h9_
  have s_OutOfRange_TooLarge := of_decide_eq_true s_OutOfRange_TooLarge
  obtain ⟨s_OutOfRange_ChoosersError, h9_⟩ := He.ba h9_
  have s_OutOfRange_ChoosersError := of_decide_eq_true s_OutOfRange_ChoosersError
  obtain ⟨s_OutOfRange_InvalidQuery, h9_⟩ := He.ba h9_
  have s_OutOfRange_InvalidQuery := of_decide_eq_true s_OutOfRange_InvalidQuery
  obtain ⟨kc_TooLarge, h9_⟩ := He.ba h9_
  obtain ⟨e_TooLarge, h9_⟩ := He.ba h9_
  have e_TooLarge := of_decide_eq_true e_TooLarge
  have t_TooLarge := h9_
  have t_TooLarge := of_decide_eq_true t_TooLarge
  obtain ⟨hg_TooLarge, h10_⟩ := He.ba h10_
  have hg_TooLarge := He.eqO_ok hg_TooLarge
  obtain ⟨hk_TooLarge, h10_⟩ := He.ba h10_
  have hk_TooLarge := He.eqO_ok hk_TooLarge
  obtain ⟨hd_TooLarge, h10_⟩ := He.ba h10_
  obtain ⟨ha_TooLarge, h10_⟩ := He.ba h10_
  have ha_TooLarge := He.eqO_ok ha_TooLarge
  obtain ⟨hm_TooLarge, h10_⟩ := He.ba h10_
  have hm_TooLarge := of_decide_eq_true hm_TooLarge
  obtain ⟨s_TooLarge_TooLarge, h10_⟩ := He.ba h10_
  have s_TooLarge_TooLarge := of_decide_eq_true s_TooLarge_TooLarge
  obtain ⟨s_TooLarge_InvalidAim, h10_⟩ := He.ba h10_
  have s_TooLarge_InvalidAim := of_decide_eq_true s_TooLarge_InvalidAim
  obtain ⟨s_TooLarge_InvalidGame, h10_⟩ := He.ba h10_
  have s_TooLarge_InvalidGame := of_decide_eq_true s_TooLarge_InvalidGame
  obtain ⟨s_TooLarge_InvalidTerm, h10_⟩ := He.ba h10_
  have s_TooLarge_InvalidTerm := of_decide_eq_true s_TooLarge_InvalidTerm
  obtain ⟨s_TooLarge_ChoosersError, h10_⟩ := He.ba h10_
  have s_TooLarge_ChoosersError := of_decide_eq_true s_TooLarge_ChoosersError
  obtain ⟨s_TooLarge_InvalidQuery, h10_⟩ := He.ba h10_
  have s_TooLarge_InvalidQuery := of_decide_eq_true s_TooLarge_InvalidQuery
  obtain ⟨s_TooLarge_OutOfRange, h10_⟩ := He.ba h10_
  have s_TooLarge_OutOfRange := of_decide_eq_true s_TooLarge_OutOfRange
  obtain ⟨kc_InvalidQuery, h10_⟩ := He.ba h10_
  obtain ⟨e_InvalidQuery, h10_⟩ := He.ba h10_
  have e_InvalidQuery := of_decide_eq_true e_InvalidQuery
  obtain ⟨t_InvalidQuery, h10_⟩ := He.ba h10_
  have t_InvalidQuery := of_decide_eq_true t_InvalidQuery
  obtain ⟨hg_InvalidQuery, h10_⟩ := He.ba h10_
  have hg_InvalidQuery := He.eqO_ok hg_InvalidQuery
  obtain ⟨hk_InvalidQuery, h10_⟩ := He.ba h10_
  have hk_InvalidQuery := He.eqO_ok hk_InvalidQuery
  obtain ⟨hd_InvalidQuery, h10_⟩ := He.ba h10_
  obtain ⟨ha_InvalidQuery, h10_⟩ := He.ba h10_
  have ha_InvalidQuery := He.eqO_ok ha_InvalidQuery
  obtain ⟨hm_InvalidQuery, h10_⟩ := He.ba h10_
  have hm_InvalidQuery := of_decide_eq_true hm_InvalidQuery
  obtain ⟨s_InvalidQuery_InvalidQuery, h10_⟩ := He.ba h10_
  have s_InvalidQuery_InvalidQuery := of_decide_eq_true s_InvalidQuery_InvalidQuery
  obtain ⟨s_InvalidQuery_InvalidAim, h10_⟩ := He.ba h10_
  have s_InvalidQuery_InvalidAim := of_decide_eq_true s_InvalidQuery_InvalidAim
  obtain ⟨s_InvalidQuery_InvalidGame, h10_⟩ := He.ba h10_
  have s_InvalidQuery_InvalidGame := of_decide_eq_true s_InvalidQuery_InvalidGame
  obtain ⟨s_InvalidQuery_InvalidTerm, h10_⟩ := He.ba h10_
  have s_InvalidQuery_InvalidTerm := of_decide_eq_true s_InvalidQuery_InvalidTerm
  have s_InvalidQuery_TooLarge := h10_
  have s_InvalidQuery_TooLarge := of_decide_eq_true s_InvalidQuery_TooLarge
  obtain ⟨s_InvalidQuery_ChoosersError, h11_⟩ := He.ba h11_
  have s_InvalidQuery_ChoosersError := of_decide_eq_true s_InvalidQuery_ChoosersError
  obtain ⟨s_InvalidQuery_OutOfRange, h11_⟩ := He.ba h11_
  have s_InvalidQuery_OutOfRange := of_decide_eq_true s_InvalidQuery_OutOfRange
  obtain ⟨ic_InvalidTerm, h11_⟩ := He.ba h11_
  have ic_InvalidTerm := He.eqO_ok ic_InvalidTerm
  obtain ⟨ini_InvalidTerm, h11_⟩ := He.ba h11_
  obtain ⟨ti_InvalidTerm, h11_⟩ := He.ba h11_
  have ti_InvalidTerm := of_decide_eq_true ti_InvalidTerm
  obtain ⟨no_InvalidTerm, h11_⟩ := He.ba h11_
  have no_InvalidTerm := He.eqO_ok no_InvalidTerm
  obtain ⟨own_InvalidTerm, h11_⟩ := He.ba h11_
  obtain ⟨sb_InvalidTerm, h11_⟩ := He.ba h11_
  have sb_InvalidTerm := of_decide_eq_true sb_InvalidTerm
  obtain ⟨ve_InvalidTerm, h11_⟩ := He.ba h11_
  have ve_InvalidTerm := of_decide_eq_true ve_InvalidTerm
  obtain ⟨sup_InvalidTerm, h11_⟩ := He.ba h11_
  have sup_InvalidTerm := He.eqO_ok sup_InvalidTerm
  obtain ⟨ob_InvalidTerm, h11_⟩ := He.ba h11_
  have ob_InvalidTerm := excB_ok ob_InvalidTerm
  obtain ⟨sa_InvalidTerm, h11_⟩ := He.ba h11_
  have sa_InvalidTerm := He.eqO_ok sa_InvalidTerm
  obtain ⟨ic_InvalidText, h11_⟩ := He.ba h11_
  have ic_InvalidText := He.eqO_ok ic_InvalidText
  obtain ⟨ini_InvalidText, h11_⟩ := He.ba h11_
  obtain ⟨ti_InvalidText, h11_⟩ := He.ba h11_
  have ti_InvalidText := of_decide_eq_true ti_InvalidText
  obtain ⟨no_InvalidText, h11_⟩ := He.ba h11_
  have no_InvalidText := He.eqO_ok no_InvalidText
  obtain ⟨own_InvalidText, h11_⟩ := He.ba h11_
  obtain ⟨sb_InvalidText, h11_⟩ := He.ba h11_
  have sb_InvalidText := of_decide_eq_true sb_InvalidText
  obtain ⟨ve_InvalidText, h11_⟩ := He.ba h11_
  have ve_InvalidText := of_decide_eq_true ve_InvalidText
  obtain ⟨sup_InvalidText, h11_⟩ := He.ba h11_
  have sup_InvalidText := He.eqO_ok sup_InvalidText
  obtain ⟨ob_InvalidText, h11_⟩ := He.ba h11_
  have ob_InvalidText := excB_ok ob_InvalidText
  obtain ⟨sa_InvalidText, h11_⟩ := He.ba h11_
  have sa_InvalidText := He.eqO_ok sa_InvalidText
  obtain ⟨ic_InvalidQuery, h11_⟩ := He.ba h11_
  have ic_InvalidQuery := He.eqO_ok ic_InvalidQuery
  obtain ⟨ini_InvalidQuery, h11_⟩ := He.ba h11_
  have ti_InvalidQuery := h11_
  have ti_InvalidQuery := of_decide_eq_true ti_InvalidQuery
  obtain ⟨no_InvalidQuery, h12_⟩ := He.ba h12_
  have no_InvalidQuery := He.eqO_ok no_InvalidQuery
  obtain ⟨own_InvalidQuery, h12_⟩ := He.ba h12_
  obtain ⟨sb_InvalidQuery, h12_⟩ := He.ba h12_
  have sb_InvalidQuery := of_decide_eq_true sb_InvalidQuery
  obtain ⟨ve_InvalidQuery, h12_⟩ := He.ba h12_
  have ve_InvalidQuery := of_decide_eq_true ve_InvalidQuery
  obtain ⟨sup_InvalidQuery, h12_⟩ := He.ba h12_
  have sup_InvalidQuery := He.eqO_ok sup_InvalidQuery
  obtain ⟨ob_InvalidQuery, h12_⟩ := He.ba h12_
  have ob_InvalidQuery := excB_ok ob_InvalidQuery
  obtain ⟨sa_InvalidQuery, h12_⟩ := He.ba h12_
  have sa_InvalidQuery := He.eqO_ok sa_InvalidQuery
  obtain ⟨q_InvalidTerm, h12_⟩ := He.ba h12_
  obtain ⟨q_InvalidText, h12_⟩ := He.ba h12_
  obtain ⟨q_OutOfRange, h12_⟩ := He.ba h12_
  obtain ⟨q_TooLarge, h12_⟩ := He.ba h12_
  obtain ⟨q_InvalidQuery, h12_⟩ := He.ba h12_
  obtain ⟨q_InvalidAim, h12_⟩ := He.ba h12_
  obtain ⟨t_InvalidAim, h12_⟩ := He.ba h12_
  have t_InvalidAim := of_decide_eq_true t_InvalidAim
  obtain ⟨q_InvalidGame, h12_⟩ := He.ba h12_
  obtain ⟨t_InvalidGame, h12_⟩ := He.ba h12_
  have t_InvalidGame := of_decide_eq_true t_InvalidGame
  obtain ⟨q_ChoosersError, h12_⟩ := He.ba h12_
  obtain ⟨t_ChoosersError, h12_⟩ := He.ba h12_
  have t_ChoosersError := of_decide_eq_true t_ChoosersError
  obtain ⟨hn_, h12_⟩ := He.ba h12_
  have hn_ := He.eqO_ok hn_
  obtain ⟨ht_, h12_⟩ := He.ba h12_
  have ht_ := of_decide_eq_true ht_
  obtain ⟨pg_Query, h12_⟩ := He.ba h12_
  obtain ⟨hdc_Query, h12_⟩ := He.ba h12_
  obtain ⟨po_Query, h12_⟩ := He.ba h12_
  obtain ⟨sac_Query, h12_⟩ := He.ba h12_
  have sac_Query := He.eqO_ok sac_Query
  have mk_Query := h12_
  obtain ⟨kcc_Query, h13_⟩ := He.ba h13_
  obtain ⟨fn_Query___call__, h13_⟩ := He.ba h13_
  obtain ⟨na_Query_term, h13_⟩ := He.ba h13_
  have na_Query_term := He.eqO_ok na_Query_term
  obtain ⟨na_Query_widths, h13_⟩ := He.ba h13_
  have na_Query_widths := He.eqO_ok na_Query_widths
  obtain ⟨na_Query_outcomes, h13_⟩ := He.ba h13_
  have na_Query_outcomes := He.eqO_ok na_Query_outcomes
  obtain ⟨rdc_Query, h13_⟩ := He.ba h13_
  obtain ⟨rga_Query, h13_⟩ := He.ba h13_
  have rga_Query := He.eqO_ok rga_Query
  obtain ⟨cv_Query_MOST_LEVELS, h13_⟩ := He.ba h13_
  obtain ⟨_, cv_Query_MOST_LEVELS⟩ := cvB_ok cv_Query_MOST_LEVELS
  obtain ⟨cv_Query_MOST_LOOKS, h13_⟩ := He.ba h13_
  obtain ⟨_, cv_Query_MOST_LOOKS⟩ := cvB_ok cv_Query_MOST_LOOKS
  obtain ⟨cv_Query_MOST_CHOICES, h13_⟩ := He.ba h13_
  obtain ⟨_, cv_Query_MOST_CHOICES⟩ := cvB_ok cv_Query_MOST_CHOICES
  obtain ⟨pg_Row, h13_⟩ := He.ba h13_
  obtain ⟨hdc_Row, h13_⟩ := He.ba h13_
  obtain ⟨po_Row, h13_⟩ := He.ba h13_
  obtain ⟨sac_Row, h13_⟩ := He.ba h13_
  have sac_Row := He.eqO_ok sac_Row
  obtain ⟨mk_Row, h13_⟩ := He.ba h13_
  obtain ⟨kcc_Row, h13_⟩ := He.ba h13_
  obtain ⟨fn_Row___getitem__, h13_⟩ := He.ba h13_
  obtain ⟨na_Row_head, h13_⟩ := He.ba h13_
  have na_Row_head := He.eqO_ok na_Row_head
  have na_Row_cycle := h13_
  have na_Row_cycle := He.eqO_ok na_Row_cycle
  have e := hfa.symm.trans (PySem.W.mg_of X G a50)
  cases e
  obtain ⟨_, F0⟩ := fun_of FI0 c0
  have b0 := F0.binds (ps := ["value"]) fun _ _ _ _ _ _ us hl => match us, hl with | [_], _ => rfl
  obtain ⟨_, F1⟩ := fun_of FI1 c1
  have b1 := F1.binds (ps := ["value", "limit"]) fun _ _ _ _ _ _ us hl => match us, hl with | [_, _], _ => rfl
  obtain ⟨_, F2⟩ := fun_of FI2 c2
  have b2 := F2.binds (ps := ["value"]) fun _ _ _ _ _ _ us hl => match us, hl with | [_], _ => rfl
  obtain ⟨_, F3⟩ := fun_of FI3 c3
  have b3 := F3.binds (ps := ["term", "depth"]) fun _ _ _ _ _ _ us hl => match us, hl with | [_, _], _ => rfl
  obtain ⟨_, F4⟩ := fun_of FI4 c4
  have b4 := F4.binds (ps := ["term"]) fun _ _ _ _ _ _ us hl => match us, hl with | [_], _ => rfl
  obtain ⟨_, F5⟩ := fun_of FI5 c5
  have b5 := F5.binds (ps := ["term"]) fun _ _ _ _ _ _ us hl => match us, hl with | [_], _ => rfl
  obtain ⟨_, F6⟩ := fun_of FI6 c6
  have b6 := F6.binds (ps := ["text", "start", "signs", "most"]) fun _ _ _ _ _ _ us hl => match us, hl with | [_, _, _, _], _ => rfl
  obtain ⟨_, F7⟩ := fun_of FI7 c7
  have b7 := F7.binds (ps := ["text", "start", "depth"]) fun _ _ _ _ _ _ us hl => match us, hl with | [_, _, _], _ => rfl
  obtain ⟨_, F8⟩ := fun_of FI8 c8
  have b8 := F8.binds (ps := ["text", "start", "depth"]) fun _ _ _ _ _ _ us hl => match us, hl with | [_, _, _], _ => rfl
  obtain ⟨_, F9⟩ := fun_of FI9 c9
  have b9 := F9.binds (ps := ["text"]) fun _ _ _ _ _ _ us hl => match us, hl with | [_], _ => rfl
  obtain ⟨_, F10⟩ := fun_of FI10 c10
  have b10 := F10.binds (ps := ["text", "head", "many", "numbers"]) fun _ _ _ _ _ _ us hl => match us, hl with | [_, _, _, _], _ => rfl
  obtain ⟨_, F11⟩ := fun_of FI11 c11
  have b11 := F11.binds (ps := ["widths"]) fun _ _ _ _ _ _ us hl => match us, hl with | [_], _ => rfl
  obtain ⟨_, F12⟩ := fun_of FI12 c12
  have b12 := F12.binds (ps := ["outcomes"]) fun _ _ _ _ _ _ us hl => match us, hl with | [_], _ => rfl
  obtain ⟨_, F13⟩ := fun_of FI13 c13
  have b13 := F13.binds (ps := ["widths", "place"]) fun _ _ _ _ _ _ us hl => match us, hl with | [_, _], _ => rfl
  obtain ⟨_, F14⟩ := fun_of FI14 c14
  have b14 := F14.binds (ps := ["term"]) fun _ _ _ _ _ _ us hl => match us, hl with | [_], _ => rfl
  obtain ⟨_, F15⟩ := fun_of FI15 c15
  have b15 := F15.binds (ps := ["widths"]) fun _ _ _ _ _ _ us hl => match us, hl with | [_], _ => rfl
  obtain ⟨_, F16⟩ := fun_of FI16 c16
  have b16 := F16.binds (ps := ["widths", "outcomes"]) fun _ _ _ _ _ _ us hl => match us, hl with | [_, _], _ => rfl
  obtain ⟨_, F17⟩ := fun_of FI17 c17
  have b17 := F17.binds (ps := ["term", "widths", "level"]) fun _ _ _ _ _ _ us hl => match us, hl with | [_, _, _], _ => rfl
  obtain ⟨_, F18⟩ := fun_of FI18 c18
  have b18 := F18.binds (ps := ["term", "widths", "outcomes", "level"]) fun _ _ _ _ _ _ us hl => match us, hl with | [_, _, _, _], _ => rfl
  obtain ⟨_, F19⟩ := fun_of FI19 c19
  have b19 := F19.binds (ps := ["term"]) fun _ _ _ _ _ _ us hl => match us, hl with | [_], _ => rfl
  obtain ⟨_, F20⟩ := fun_of FI20 c20
  have b20 := F20.binds (ps := ["places", "widths"]) fun _ _ _ _ _ _ us hl => match us, hl with | [_, _], _ => rfl
  obtain ⟨_, F21⟩ := fun_of FI21 c21
  have b21 := F21.binds (ps := ["query", "row"]) fun _ _ _ _ _ _ us hl => match us, hl with | [_, _], _ => rfl
  obtain ⟨_, F22⟩ := fun_of FI22 c22
  have b22 := F22.binds (ps := ["query", "row"]) fun _ _ _ _ _ _ us hl => match us, hl with | [_, _], _ => rfl
  obtain ⟨_, F23⟩ := fun_of FI23 c23
  have b23 := F23.binds (ps := ["self", "term", "widths", "outcomes"]) fun _ _ _ _ _ _ us hl => match us, hl with | [_, _, _, _], _ => rfl
  obtain ⟨_, F24⟩ := fun_of FI24 c24
  have b24 := F24.binds (ps := ["self", "row"]) fun _ _ _ _ _ _ us hl => match us, hl with | [_, _], _ => rfl
  obtain ⟨_, F25⟩ := fun_of FI25 c25
  have b25 := F25.binds (ps := ["self"]) fun _ _ _ _ _ _ us hl => match us, hl with | [_], _ => rfl
  obtain ⟨_, F26⟩ := fun_of FI26 c26
  have b26 := F26.binds (ps := ["text"]) fun _ _ _ _ _ _ us hl => match us, hl with | [_], _ => rfl
  obtain ⟨_, F27⟩ := funD_of FI27 c27
  have b27 := binds_full (F27.binds1 (ps := ["self", "head", "cycle"]) 3 1 (by nofun) rfl fun _ _ _ _ _ _ _ us its hu hi => match us, its, hu, hi with | [_, _, _], [_], _, _ => ⟨_, rfl, rfl⟩)
  have bd27 := F27.binds1 (ps := ["self", "head", "cycle"]) 2 0 (by nofun) rfl fun _ _ _ _ _ _ _ us its hu hi => match us, its, hu, hi with | [_, _], [_], _, _ => ⟨_, rfl, rfl⟩
  obtain ⟨_, F28⟩ := fun_of FI28 c28
  have b28 := F28.binds (ps := ["self", "at"]) fun _ _ _ _ _ _ us hl => match us, hl with | [_, _], _ => rfl
  obtain ⟨_, F29⟩ := fun_of FI29 c29
  have b29 := F29.binds (ps := ["_law_script"]) fun _ _ _ _ _ _ us hl => match us, hl with | [_], _ => rfl
  obtain ⟨_, F30⟩ := fun_of FI30 c30
  have b30 := F30.binds (ps := ["_law_state", "_law_limit"]) fun _ _ _ _ _ _ us hl => match us, hl with | [_, _], _ => rfl
  obtain ⟨_, F31⟩ := fun_of FI31 c31
  have b31 := F31.binds (ps := ["_law_widths_here", "_law_place"]) fun _ _ _ _ _ _ us hl => match us, hl with | [_, _], _ => rfl
  obtain ⟨_, F32⟩ := fun_of FI32 c32
  have b32 := F32.binds (ps := ["_law_state"]) fun _ _ _ _ _ _ us hl => match us, hl with | [_], _ => rfl
  obtain ⟨_, F33⟩ := fun_of FI33 c33
  have b33 := F33.binds (ps := ["_law_state", "_law_widths_here"]) fun _ _ _ _ _ _ us hl => match us, hl with | [_, _], _ => rfl
  obtain ⟨_, F34⟩ := fun_of FI34 c34
  have b34 := F34.binds (ps := ["_law_state", "_law_size", "_law_places_here", "_law_levels"]) fun _ _ _ _ _ _ us hl => match us, hl with | [_, _, _, _], _ => rfl
  obtain ⟨_, F35⟩ := fun_of FI35 c35
  have b35 := F35.binds (ps := ["_law_state", "_law_size", "_law_places_here", "_law_levels"]) fun _ _ _ _ _ _ us hl => match us, hl with | [_, _, _, _], _ => rfl
  obtain ⟨_, F36⟩ := fun_of FI36 c36
  have b36 := F36.binds (ps := ["_law_many", "_law_place", "_law_options"]) fun _ _ _ _ _ _ us hl => match us, hl with | [_, _, _], _ => rfl
  obtain ⟨_, F37⟩ := fun_of FI37 c37
  have b37 := F37.binds (ps := ["_law_state", "_law_term_here", "_law_outcomes", "_law_path"]) fun _ _ _ _ _ _ us hl => match us, hl with | [_, _, _, _], _ => rfl
  obtain ⟨_, F38⟩ := fun_of FI38 c38
  have b38 := F38.binds (ps := ["_law_term_here", "_law_widths_here", "_law_outcomes"]) fun _ _ _ _ _ _ us hl => match us, hl with | [_, _, _], _ => rfl
  obtain ⟨_, F39⟩ := fun_of FI39 c39
  have b39 := F39.binds (ps := ["_law_row_here", "_law_place"]) fun _ _ _ _ _ _ us hl => match us, hl with | [_, _], _ => rfl
  obtain ⟨_, F40⟩ := fun_of FI40 c40
  have b40 := F40.binds (ps := ["_law_state", "_law_widths_here"]) fun _ _ _ _ _ _ us hl => match us, hl with | [_, _], _ => rfl
  obtain ⟨_, F41⟩ := fun_of FI41 c41
  have b41 := F41.binds (ps := ["_law_row_here", "_law_place", "_law_entry_here"]) fun _ _ _ _ _ _ us hl => match us, hl with | [_, _, _], _ => rfl
  obtain ⟨_, F42⟩ := fun_of FI42 c42
  have b42 := F42.binds (ps := ["_law_term_here", "_law_widths_here", "_law_row_here"]) fun _ _ _ _ _ _ us hl => match us, hl with | [_, _, _], _ => rfl
  obtain ⟨_, F43⟩ := fun_of FI43 c43
  have b43 := F43.binds (ps := ["_law_query", "_law_row_here"]) fun _ _ _ _ _ _ us hl => match us, hl with | [_, _], _ => rfl
  obtain ⟨_, F44⟩ := fun_of FI44 c44
  have b44 := F44.binds (ps := ["_law_query", "_law_row_here"]) fun _ _ _ _ _ _ us hl => match us, hl with | [_, _], _ => rfl
  obtain ⟨_, F45⟩ := fun_of FI45 c45
  have b45 := F45.binds (ps := ["_law_query", "_law_term_here", "_law_widths_here", "_law_row_here"]) fun _ _ _ _ _ _ us hl => match us, hl with | [_, _, _, _], _ => rfl
  obtain ⟨_, F46⟩ := fun_of FI46 c46
  have b46 := F46.binds (ps := ["_law_term_here"]) fun _ _ _ _ _ _ us hl => match us, hl with | [_], _ => rfl
  obtain ⟨_, F47⟩ := fun_of FI47 c47
  have b47 := F47.binds (ps := ["_law_text_here"]) fun _ _ _ _ _ _ us hl => match us, hl with | [_], _ => rfl
  obtain ⟨_, F48⟩ := fun_of FI48 c48
  have b48 := F48.binds (ps := ["_law_query", "_law_term_here", "_law_widths_here", "_law_outcomes"]) fun _ _ _ _ _ _ us hl => match us, hl with | [_, _, _, _], _ => rfl
  obtain ⟨_, F49⟩ := fun_of FI49 c49
  have b49 := F49.binds (ps := ["_law_state", "_law_widths_here", "_law_outcomes"]) fun _ _ _ _ _ _ us hl => match us, hl with | [_, _, _], _ => rfl
  obtain ⟨fdl_, F50⟩ := fun_of FI50 c50
  have b50 := F50.binds (ps := ["_law_script"]) fun _ _ _ _ _ _ us hl => match us, hl with | [_], _ => rfl
  obtain ⟨_, _, _, _, _, _, _, _, _, cc_InvalidTerm, li_InvalidTerm, cdi_InvalidTerm, cell_InvalidTerm, code_InvalidTerm⟩ := init_of I_InvalidTerm ini_InvalidTerm
  have ox_InvalidTerm : OexC K c_InvalidTerm := ⟨ob_InvalidTerm, sa_InvalidTerm, e_InvalidTerm, t_InvalidTerm, kc_InvalidTerm⟩
  have su_InvalidTerm : SupC K c_InvalidTerm c_InvalidTerm cc_InvalidTerm fi_InvalidTerm _ fileP := ⟨ox_InvalidTerm, cell_InvalidTerm, own_InvalidTerm, sb_InvalidTerm, ve_InvalidTerm, opq_, sup_InvalidTerm, code_InvalidTerm⟩
  obtain ⟨_, _, _, _, _, _, _, _, _, cc_InvalidText, li_InvalidText, cdi_InvalidText, cell_InvalidText, code_InvalidText⟩ := init_of I_InvalidText ini_InvalidText
  have ox_InvalidText : OexC K c_InvalidText := ⟨ob_InvalidText, sa_InvalidText, e_InvalidText, t_InvalidText, kc_InvalidText⟩
  have su_InvalidText : SupC K c_InvalidText c_InvalidText cc_InvalidText fi_InvalidText _ fileP := ⟨ox_InvalidText, cell_InvalidText, own_InvalidText, sb_InvalidText, ve_InvalidText, opq_, sup_InvalidText, code_InvalidText⟩
  obtain ⟨_, _, _, _, _, _, _, _, _, cc_InvalidQuery, li_InvalidQuery, cdi_InvalidQuery, cell_InvalidQuery, code_InvalidQuery⟩ := init_of I_InvalidQuery ini_InvalidQuery
  have ox_InvalidQuery : OexC K c_InvalidQuery := ⟨ob_InvalidQuery, sa_InvalidQuery, e_InvalidQuery, t_InvalidQuery, kc_InvalidQuery⟩
  have su_InvalidQuery : SupC K c_InvalidQuery c_InvalidTerm cc_InvalidQuery fi_InvalidQuery _ fileP := ⟨ox_InvalidQuery, cell_InvalidQuery, own_InvalidQuery, sb_InvalidQuery, ve_InvalidQuery, opq_, sup_InvalidQuery, code_InvalidQuery⟩
  have bl_ : ∀ (s : Shared) (v : Value), BindsTo s fdl_ ⟨[v], []⟩ [("_law_script", v)] := fun s v => by
    obtain ⟨⟨_, _, _, _, _, _, _, _, _, e, _, _⟩, _⟩ := F50
    rw [e]
    exact .of_eq rfl
  exact ⟨_, bl_, fun base _ _ => ok_law (⟨f0, _, F0, PySem.W.mg_of X G a0, b0,
    f1, _, F1, PySem.W.mg_of X G a1, b1,
    f2, _, F2, PySem.W.mg_of X G a2, b2,
    f3, _, F3, PySem.W.mg_of X G a3, b3,
    f4, _, F4, PySem.W.mg_of X G a4, b4,
    f5, _, F5, PySem.W.mg_of X G a5, b5,
    f6, _, F6, PySem.W.mg_of X G a6, b6,
    f7, _, F7, PySem.W.mg_of X G a7, b7,
    f8, _, F8, PySem.W.mg_of X G a8, b8,
    f9, _, F9, PySem.W.mg_of X G a9, b9,
    f10, _, F10, PySem.W.mg_of X G a10, b10,
    f11, _, F11, PySem.W.mg_of X G a11, b11,
    f12, _, F12, PySem.W.mg_of X G a12, b12,
    f13, _, F13, PySem.W.mg_of X G a13, b13,
    f14, _, F14, PySem.W.mg_of X G a14, b14,
    f15, _, F15, PySem.W.mg_of X G a15, b15,
    f16, _, F16, PySem.W.mg_of X G a16, b16,
    f17, _, F17, PySem.W.mg_of X G a17, b17,
    f18, _, F18, PySem.W.mg_of X G a18, b18,
    f19, _, F19, PySem.W.mg_of X G a19, b19,
    f20, _, F20, PySem.W.mg_of X G a20, b20,
    f21, _, F21, PySem.W.mg_of X G a21, b21,
    f22, _, F22, PySem.W.mg_of X G a22, b22,
    f23, _, F23, b23,
    f24, _, F24, b24,
    f25, _, F25, b25,
    f26, _, F26, b26,
    dA27, dt27, f27, _, F27, b27, bd27,
    f28, _, F28, b28,
    f29, _, F29, PySem.W.mg_of X G a29, b29,
    f30, _, F30, PySem.W.mg_of X G a30, b30,
    f31, _, F31, PySem.W.mg_of X G a31, b31,
    f32, _, F32, PySem.W.mg_of X G a32, b32,
    f33, _, F33, PySem.W.mg_of X G a33, b33,
    f34, _, F34, PySem.W.mg_of X G a34, b34,
    f35, _, F35, PySem.W.mg_of X G a35, b35,
    f36, _, F36, PySem.W.mg_of X G a36, b36,
    f37, _, F37, PySem.W.mg_of X G a37, b37,
    f38, _, F38, PySem.W.mg_of X G a38, b38,
    f39, _, F39, PySem.W.mg_of X G a39, b39,
    f40, _, F40, PySem.W.mg_of X G a40, b40,
    f41, _, F41, PySem.W.mg_of X G a41, b41,
    f42, _, F42, PySem.W.mg_of X G a42, b42,
    f43, _, F43, PySem.W.mg_of X G a43, b43,
    f44, _, F44, PySem.W.mg_of X G a44, b44,
    f45, _, F45, PySem.W.mg_of X G a45, b45,
    f46, _, F46, PySem.W.mg_of X G a46, b46,
    f47, _, F47, PySem.W.mg_of X G a47, b47,
    f48, _, F48, PySem.W.mg_of X G a48, b48,
    f49, _, F49, PySem.W.mg_of X G a49, b49,
    fa, _, F50, PySem.W.mg_of X G a50, b50,
    PySem.W.mg_none_of X G z_isinstance,
    PySem.W.mg_none_of X G z_int,
    PySem.W.mg_none_of X G z_bool,
    PySem.W.mg_none_of X G z_all,
    PySem.W.mg_none_of X G z_str,
    PySem.W.mg_none_of X G z_len,
    PySem.W.mg_none_of X G z_enumerate,
    PySem.W.mg_none_of X G z_tuple,
    PySem.W.mg_none_of X G z_sorted,
    PySem.W.mg_none_of X G z_set,
    PySem.W.mg_none_of X G z_range,
    PySem.W.mg_none_of X G z_list,
    PySem.W.mg_none_of X G z_min,
    PySem.W.mg_none_of X G z_max,
    PySem.W.mg_none_of X G z_staticmethod,
    ⟨_, PySem.W.mg_of X G gc_LETTERS⟩,
    ⟨_, PySem.W.mg_of X G gc_DIGITS⟩,
    ⟨_, PySem.W.mg_of X G gc_LONGEST_WORD⟩,
    ⟨_, PySem.W.mg_of X G gc_LONGEST_NUMBER⟩,
    ⟨_, PySem.W.mg_of X G gc_NUMBERS_END⟩,
    ⟨_, PySem.W.mg_of X G gc_DEEPEST_TUPLE⟩,
    ⟨_, PySem.W.mg_of X G gc_MOST_OUTCOMES⟩,
    ⟨_, PySem.W.mg_of X G gc_MOST_WIDTHS⟩,
    ⟨_, PySem.W.mg_of X G gc_WIDEST⟩,
    ⟨_, PySem.W.mg_of X G gc_PLACES⟩,
    ⟨_, PySem.W.mg_of X G gc_ITEMS_BEFORE⟩,
    ⟨_, PySem.W.mg_of X G gc_TWO_OUTCOMES⟩,
    c_InvalidTerm, PySem.W.mg_of X G g_InvalidTerm,
    c_InvalidText, PySem.W.mg_of X G g_InvalidText,
    c_OutOfRange, PySem.W.mg_of X G g_OutOfRange,
    c_TooLarge, PySem.W.mg_of X G g_TooLarge,
    c_InvalidQuery, PySem.W.mg_of X G g_InvalidQuery,
    c_InvalidAim, PySem.W.mg_of X G g_InvalidAim,
    c_InvalidGame, PySem.W.mg_of X G g_InvalidGame,
    c_ChoosersError, PySem.W.mg_of X G g_ChoosersError,
    fi_InvalidTerm, _, ox_InvalidTerm, ic_InvalidTerm, ti_InvalidTerm, no_InvalidTerm, ⟨hg_InvalidTerm, hk_InvalidTerm, e_InvalidTerm, hd_InvalidTerm⟩, ⟨hg_InvalidTerm, hk_InvalidTerm, e_InvalidTerm, hd_InvalidTerm, ha_InvalidTerm, hn_, ht_, hm_InvalidTerm⟩, okinit_InvalidTerm li_InvalidTerm cdi_InvalidTerm su_InvalidTerm hP htop_ (PySem.W.mg_none_of X G z_super), Binds.all fun us hl => match us, hl with | [_, _], _ => rfl,
    kit_refS s_InvalidTerm_InvalidTerm q_InvalidAim t_InvalidAim s_InvalidTerm_InvalidAim,
    kit_refS s_InvalidTerm_InvalidTerm q_InvalidGame t_InvalidGame s_InvalidTerm_InvalidGame,
    kit_refS s_InvalidTerm_InvalidTerm q_InvalidTerm t_InvalidTerm s_InvalidTerm_InvalidTerm,
    kit_refS s_InvalidTerm_InvalidTerm q_TooLarge t_TooLarge s_InvalidTerm_TooLarge,
    kit_refS s_InvalidTerm_InvalidTerm q_ChoosersError t_ChoosersError s_InvalidTerm_ChoosersError,
    kit_refS s_InvalidTerm_InvalidTerm q_InvalidQuery t_InvalidQuery s_InvalidTerm_InvalidQuery,
    PySem.W.exm_ref e_InvalidQuery hd_InvalidQuery t_InvalidQuery s_InvalidTerm_InvalidQuery,
    PySem.W.exm_ref e_OutOfRange hd_OutOfRange t_OutOfRange s_InvalidTerm_OutOfRange,
    PySem.W.exm_ref e_TooLarge hd_TooLarge t_TooLarge s_InvalidTerm_TooLarge,
    PySem.W.exm_ref e_InvalidTerm hd_InvalidTerm t_InvalidTerm s_InvalidTerm_InvalidTerm,
    fi_InvalidText, _, ox_InvalidText, ic_InvalidText, ti_InvalidText, no_InvalidText, ⟨hg_InvalidText, hk_InvalidText, e_InvalidText, hd_InvalidText⟩, ⟨hg_InvalidText, hk_InvalidText, e_InvalidText, hd_InvalidText, ha_InvalidText, hn_, ht_, hm_InvalidText⟩, okinit_InvalidText li_InvalidText cdi_InvalidText su_InvalidText hP htop_ (PySem.W.mg_none_of X G z_super), Binds.all fun us hl => match us, hl with | [_, _], _ => rfl,
    kit_refS s_InvalidText_InvalidText q_InvalidAim t_InvalidAim s_InvalidText_InvalidAim,
    kit_refS s_InvalidText_InvalidText q_InvalidGame t_InvalidGame s_InvalidText_InvalidGame,
    kit_refS s_InvalidText_InvalidText q_InvalidTerm t_InvalidTerm s_InvalidText_InvalidTerm,
    kit_refS s_InvalidText_InvalidText q_TooLarge t_TooLarge s_InvalidText_TooLarge,
    kit_refS s_InvalidText_InvalidText q_ChoosersError t_ChoosersError s_InvalidText_ChoosersError,
    kit_refS s_InvalidText_InvalidText q_InvalidQuery t_InvalidQuery s_InvalidText_InvalidQuery,
    PySem.W.exm_ref e_InvalidQuery hd_InvalidQuery t_InvalidQuery s_InvalidText_InvalidQuery,
    PySem.W.exm_ref e_OutOfRange hd_OutOfRange t_OutOfRange s_InvalidText_OutOfRange,
    PySem.W.exm_ref e_TooLarge hd_TooLarge t_TooLarge s_InvalidText_TooLarge,
    PySem.W.exm_ref e_InvalidTerm hd_InvalidTerm t_InvalidTerm s_InvalidText_InvalidTerm,
    fi_InvalidQuery, _, ox_InvalidQuery, ic_InvalidQuery, ti_InvalidQuery, no_InvalidQuery, ⟨hg_InvalidQuery, hk_InvalidQuery, e_InvalidQuery, hd_InvalidQuery⟩, ⟨hg_InvalidQuery, hk_InvalidQuery, e_InvalidQuery, hd_InvalidQuery, ha_InvalidQuery, hn_, ht_, hm_InvalidQuery⟩, okinit_InvalidTerm li_InvalidQuery cdi_InvalidQuery su_InvalidQuery hP htop_ (PySem.W.mg_none_of X G z_super), Binds.all fun us hl => match us, hl with | [_, _], _ => rfl,
    kit_refS s_InvalidQuery_InvalidQuery q_InvalidAim t_InvalidAim s_InvalidQuery_InvalidAim,
    kit_refS s_InvalidQuery_InvalidQuery q_InvalidGame t_InvalidGame s_InvalidQuery_InvalidGame,
    kit_refS s_InvalidQuery_InvalidQuery q_InvalidTerm t_InvalidTerm s_InvalidQuery_InvalidTerm,
    kit_refS s_InvalidQuery_InvalidQuery q_TooLarge t_TooLarge s_InvalidQuery_TooLarge,
    kit_refS s_InvalidQuery_InvalidQuery q_ChoosersError t_ChoosersError s_InvalidQuery_ChoosersError,
    kit_refS s_InvalidQuery_InvalidQuery q_InvalidQuery t_InvalidQuery s_InvalidQuery_InvalidQuery,
    PySem.W.exm_ref e_InvalidQuery hd_InvalidQuery t_InvalidQuery s_InvalidQuery_InvalidQuery,
    PySem.W.exm_ref e_OutOfRange hd_OutOfRange t_OutOfRange s_InvalidQuery_OutOfRange,
    PySem.W.exm_ref e_TooLarge hd_TooLarge t_TooLarge s_InvalidQuery_TooLarge,
    PySem.W.exm_ref e_InvalidTerm hd_InvalidTerm t_InvalidTerm s_InvalidQuery_InvalidTerm,
    x_OutOfRange, kc_OutOfRange, e_OutOfRange, t_OutOfRange, ⟨hg_OutOfRange, hk_OutOfRange, e_OutOfRange, hd_OutOfRange, ha_OutOfRange, hn_, ht_, hm_OutOfRange⟩,
    kit_refS s_OutOfRange_OutOfRange q_InvalidAim t_InvalidAim s_OutOfRange_InvalidAim,
    kit_refS s_OutOfRange_OutOfRange q_InvalidGame t_InvalidGame s_OutOfRange_InvalidGame,
    kit_refS s_OutOfRange_OutOfRange q_InvalidTerm t_InvalidTerm s_OutOfRange_InvalidTerm,
    kit_refS s_OutOfRange_OutOfRange q_TooLarge t_TooLarge s_OutOfRange_TooLarge,
    kit_refS s_OutOfRange_OutOfRange q_ChoosersError t_ChoosersError s_OutOfRange_ChoosersError,
    kit_refS s_OutOfRange_OutOfRange q_InvalidQuery t_InvalidQuery s_OutOfRange_InvalidQuery,
    PySem.W.exm_ref e_InvalidQuery hd_InvalidQuery t_InvalidQuery s_OutOfRange_InvalidQuery,
    PySem.W.exm_ref e_OutOfRange hd_OutOfRange t_OutOfRange s_OutOfRange_OutOfRange,
    PySem.W.exm_ref e_TooLarge hd_TooLarge t_TooLarge s_OutOfRange_TooLarge,
    PySem.W.exm_ref e_InvalidTerm hd_InvalidTerm t_InvalidTerm s_OutOfRange_InvalidTerm,
    x_TooLarge, kc_TooLarge, e_TooLarge, t_TooLarge, ⟨hg_TooLarge, hk_TooLarge, e_TooLarge, hd_TooLarge, ha_TooLarge, hn_, ht_, hm_TooLarge⟩,
    kit_refS s_TooLarge_TooLarge q_InvalidAim t_InvalidAim s_TooLarge_InvalidAim,
    kit_refS s_TooLarge_TooLarge q_InvalidGame t_InvalidGame s_TooLarge_InvalidGame,
    kit_refS s_TooLarge_TooLarge q_InvalidTerm t_InvalidTerm s_TooLarge_InvalidTerm,
    kit_refS s_TooLarge_TooLarge q_TooLarge t_TooLarge s_TooLarge_TooLarge,
    kit_refS s_TooLarge_TooLarge q_ChoosersError t_ChoosersError s_TooLarge_ChoosersError,
    kit_refS s_TooLarge_TooLarge q_InvalidQuery t_InvalidQuery s_TooLarge_InvalidQuery,
    PySem.W.exm_ref e_InvalidQuery hd_InvalidQuery t_InvalidQuery s_TooLarge_InvalidQuery,
    PySem.W.exm_ref e_OutOfRange hd_OutOfRange t_OutOfRange s_TooLarge_OutOfRange,
    PySem.W.exm_ref e_TooLarge hd_TooLarge t_TooLarge s_TooLarge_TooLarge,
    PySem.W.exm_ref e_InvalidTerm hd_InvalidTerm t_InvalidTerm s_TooLarge_InvalidTerm,
    c_Query, PySem.W.mg_of X G g_Query, ⟨mk_Query, a23, i23, kcc_Query⟩, ⟨pg_Query, hdc_Query, po_Query, sac_Query⟩,
    fn_Query___call__,
    na_Query_term,
    na_Query_widths,
    na_Query_outcomes,
    .type "type", ⟨rdc_Query, rga_Query⟩,
    ⟨_, cv_Query_MOST_LEVELS, ⟨_, rfl⟩⟩,
    ⟨_, cv_Query_MOST_LOOKS, ⟨_, rfl⟩⟩,
    ⟨_, cv_Query_MOST_CHOICES, ⟨_, rfl⟩⟩,
    ⟨a24, i24, k24⟩,
    ⟨a25, i25, k25⟩,
    _, ⟨a26, i26, k26, s26⟩,
    c_Row, PySem.W.mg_of X G g_Row, ⟨mk_Row, a27, i27, kcc_Row⟩, ⟨pg_Row, hdc_Row, po_Row, sac_Row⟩,
    fn_Row___getitem__,
    na_Row_head,
    na_Row_cycle,
    ⟨a28, i28, k28⟩⟩ : Txt P w K mg)⟩
theorem sp_law_of {K : Fg} {H : Hp} {a : Addr} {ns : List Int} (hl : ns.length ≤ 63) (hS : SqL K H a (ns.map V.int)) : spOf K c_law [.ref a] H (fun v _ => v = .bl true) fun _ _ _ => False :=
  ⟨fun _ => none, [.scr ns], fun d _ => d = .bl true, fun _ _ => False, (fun _ _ z => nomatch z), .scr (hS.elim (fun q => .inl ⟨q, .of rfl⟩) fun q => .inr q) .nil, ⟨ns, rfl, hl, rfl⟩, fun v H' d μ' _ _ r e => by subst e; exact Rep.bl_inv r, fun _ _ _ _ _ _ _ _ z => z⟩
theorem facts {w : World} {K : PySem.W.Frag} {h : Heap} {mg : Str → Option Value} {fa : Addr} (X : K.In h) (G : h.Ns mainGlobals mg) (hfa : mg "law" = some (.ref fa)) (hc : ckA K = true) (hv : (atsA.map fun f => fnI K (f K)) = valsA) (hd : (dsA.map fun f => He.dicW K (f K)) = kysA.map fun k => some (He.keysIn w.params k)) :
    ∃ fd : FuncData, (∀ (s : Shared) (v : Value), BindsTo s fd ⟨[v], []⟩ [("_law_script", v)]) ∧ ∀ base : Heap, K.In base → base.Ns mainGlobals mg → FnOk (PySem.Challenge.rw_choosersrow_k39_queries_and_looks).prog w K mg base (L2N.CX (PySem.Challenge.rw_choosersrow_k39_queries_and_looks).prog w) 80 fa fd ["_law_script"] (spOf K c_law) := by
  obtain ⟨h0_, hc⟩ := He.ba hc
  obtain ⟨h1_, hc⟩ := He.ba hc
  obtain ⟨h2_, hc⟩ := He.ba hc
  obtain ⟨h3_, hc⟩ := He.ba hc
  obtain ⟨h4_, hc⟩ := He.ba hc
  obtain ⟨h5_, hc⟩ := He.ba hc
  obtain ⟨h6_, hc⟩ := He.ba hc
  obtain ⟨h7_, hc⟩ := He.ba hc
  obtain ⟨h8_, hc⟩ := He.ba hc
  obtain ⟨h9_, hc⟩ := He.ba hc
  obtain ⟨h10_, hc⟩ := He.ba hc
  obtain ⟨h11_, hc⟩ := He.ba hc
  obtain ⟨h12_, hc⟩ := He.ba hc
  have h13_ := hc
  exact all_mk X G hfa (by kernel_rfl) (by kernel_rfl) (fn_at hv 0) (fn_at hv 1) (fn_at hv 2) (fn_at hv 3) (fn_at hv 4) (fn_at hv 5) (fn_at hv 6) (fn_at hv 7) (fn_at hv 8) (fn_at hv 9) (fn_at hv 10) (fn_at hv 11) (fn_at hv 12) (fn_at hv 13) (fn_at hv 14) (fn_at hv 15) (fn_at hv 16) (fn_at hv 17) (fn_at hv 18) (fn_at hv 19) (fn_at hv 20) (fn_at hv 21) (fn_at hv 22) (fn_at hv 23) (fn_at hv 24) (fn_at hv 25) (fn_at hv 26) (fn_at hv 27) (fn_at hv 28) (fn_at hv 29) (fn_at hv 30) (fn_at hv 31) (fn_at hv 32) (fn_at hv 33) (fn_at hv 34) (fn_at hv 35) (fn_at hv 36) (fn_at hv 37) (fn_at hv 38) (fn_at hv 39) (fn_at hv 40) (fn_at hv 41) (fn_at hv 42) (fn_at hv 43) (fn_at hv 44) (fn_at hv 45) (fn_at hv 46) (fn_at hv 47) (fn_at hv 48) (fn_at hv 49) (fn_at hv 50) (fn_at hv 51) (fn_at hv 52) (fn_at hv 53) h0_ h1_ h2_ h3_ h4_ h5_ h6_ h7_ h8_ h9_ h10_ h11_ h12_ h13_
end LW
open PySem PySem.W PySem.Calls PyProof.Rows in
set_option maxRecDepth 100000 in
set_option maxHeartbeats 0 in
theorem PySem.Challenge.cw_choosersrow_k39_queries_and_looks_holds : PySem.Challenge.rw_choosersrow_k39_queries_and_looks.Holds := by
  w_on; o_law
  refine HandSHeadRun.head_any (r := OpenLaw.row PySem.Challenge.rw_choosersrow_k39_queries_and_looks) (q := view (OpenLaw.row PySem.Challenge.rw_choosersrow_k39_queries_and_looks).prog [80]) (H := LW.hkA) (ob := LW.obA) (M := 20000) (loose := LW.namesA) (d := HandSHeadRun.topDef (OpenLaw.row PySem.Challenge.rw_choosersrow_k39_queries_and_looks).prog 80) (kwd := []) LW.obA_eq
    (by kernel_rfl) (fun s => by kernel_rfl) LW.runA (by kernel_rfl) (by kernel_rfl) (by kernel_rfl) (by rfl) (by first | assumption | decide +kernel) (by decide +kernel) ⟨rfl, rfl, rfl, rfl, rfl, by decide +kernel⟩ ?hw ?hc
  case hw => w_witness2
  case hc =>
    refine HX.walk_of (l := PySem.Challenge.rw_choosersrow_k39_queries_and_looks) (n := 63) (k := 80) (x := "_law_script") (CX := fun w => L2N.CX (PySem.Challenge.rw_choosersrow_k39_queries_and_looks).prog w) rfl (by decide) (by kernel_rfl) ⟨rfl, by decide, by decide⟩ ?F (fun _ _ _ _ _ h => by
      obtain ⟨_, _, _, _, _, _, _, _, _, _, _, _, z⟩ := h
      exact z)
    intro w mg fa h Y G hmg0
    obtain ⟨K, KX, hc, hv, hd⟩ := Y
    have hmg : mg ("law" : PySem.Str) = some (.ref fa) := by
      have e : (HandSHeadRun.topDef (OpenLaw.row PySem.Challenge.rw_choosersrow_k39_queries_and_looks).prog 80).name = ("law" : PySem.Str) := by kernel_rfl
      rw [← e]
      exact hmg0
    obtain ⟨fd, hb, hF⟩ := LW.facts (w := w) KX G hmg hc hv hd
    exact ⟨K, fd, DW.spOf K LW.c_law, KX, hb, fun H a ns hl _ hS => LW.sp_law_of hl hS, hF⟩
