import PyProof.Rows.All
import HandS.ForMost
import HandS.TupAny
import HandS.TupMul
import HandS.ForExc
import HandS.EndBits
import HandS.Wide
import HandS.WideBits
import HandS.Zip
import HandS.IsInst
import HandS.ExcIs
import HandS.Flow
import HandS.Strs
import HandS.Conv
import HandS.Style
import HandS.GenList
import HandS.ExcCtx
import HandS.Hot
import HandS.HotCalls
import HandS.WordsExc
import HandS.Text
import HandS.RaiseMore
import KE.GoesEnumKw
import HandS.Nested
import HandS.ExcInit
import KE.KSuper
import KE.KExcSuper
import HandS.ExcField
import KE.KExcIs
import HandS.FStr
import HandS.FStrTup
import PyProof.ListStr
import HandS.ExcOwn
import HandS.SetFor
import HandS.More
import HandS.Sort
import PyProof.Rows.SetFrom
import HandS.IterVal
import HandS.Iter
import PyProof.Rows.CallKwBuiltin
import KE.GoesZip
import KE.GoesMore
import KE.GoesEnum
import PyProof.P3Eq
import KE.KOpsOwn
import KE.KCallOwn
import KE.KTupSum
import HandS.Star
import HandS.Defaults
import HandS.ClsMeth
import OpenK.KWalk
import KE.DataMinMax
import HandS.Deep
import HandS.DictComp
import PySem.Challenge.RW_choosersrow_k42_whole_first_rows
import HandS.Head0
import HandS.Head1
import HandS.Head2
import HandS.HeadEnd
import HandS.HeadHook1
import HandS.HeadHook2
import HandS.HeadHook3
import Wide.All
import OpenK.AllK
import Wide.FinOn
import KE.KStateDown
import Open.SpecLaws
import KE.OsGo
import KE.RegKSuper
import HandS.SortInts
import PyProof.TupleOfSeq
set_option Elab.async false
set_option linter.all false
set_option maxRecDepth 100000
set_option maxHeartbeats 4000000
namespace DW
open PySem PySem.Spec PyProof.Rows L2
/-- the object of a new tuple -/
abbrev tupObj (its : List Value) : Obj := { cls := .type "tuple", data := .seq its.toArray }
theorem tup_okN {P : Program} {w : World} {H : Hp} {h : Heap} {xs : List V} {its : List Value} (hz : xs.length ≤ sizeLine) (r : Vals xs its) :
    ObjOk P w H (h.push (tupObj its)) h.objs.size (.frz (tupObj its) (.tup xs)) := ⟨Heap.get?_push_size _ rfl, hz, its, r, IsTup.new _ _⟩
section
variable {X : Cx} {pins : List (Addr × Obj)} {σ : L2.St} {H : Hp} {s : Shared} {Q : VK}
/-- what is wished of a new tuple -/
def NewT (H : Hp) (xs : List V) (Q : VK) : Prop := ∀ p o, o.dict = none → o.cls = .type "tuple" → H p = none → Q (.ref p) (upd H p (.frz o (.tup xs)))
theorem new_tup {xs : List V} {its : List Value} (I : Inv X pins σ H s) (hz : xs.length ≤ sizeLine) (r : Vals xs its) (q : NewT H xs Q) : EP X pins σ Q (.ref s.heap.objs.size) { s with heap := s.heap.push (tupObj its) } :=
  ⟨.ref s.heap.objs.size, _, I.laid (t' := s.toks) (fun b u e => Heap.get?_push_of_some _ e) (Nat.le_refl _) (tup_okN hz r), rfl, q _ _ rfl rfl (I.hok.fresh (Nat.le_refl _))⟩
end
def tTupN (t : TA) : TE := fun σ H Q => t σ H fun xs H1 => xs.length ≤ sizeLine ∧ NewT H1 xs Q
theorem pe_tupN {X : Cx} {es : List Expr} {x1 : Nat} {pos : Pos} {t : TA} (h : PA X es t) : PE X (.Tuple es x1 pos) (tTupN t) :=
  ⟨fun pins s σ H Q I hq => wpAny_Tuple_spliced (thn (h.run pos pins s σ H _ I hq) fun us s1 ⟨xs, H1, I1, r, z, q⟩ => ⟨by rw [← r.length]; exact z, new_tup I1 z r q⟩)⟩
/-- t + u -/
def rCatN (K : PySem.W.Frag) : R2 := fun x y H Q => ∃ a b xs ys, x = .ref a ∧ y = .ref b ∧ SqT K H a xs ∧ SqT K H b ys ∧ xs.length + ys.length ≤ sizeLine ∧
  (xs = [] → Q (.ref b) H) ∧ (xs ≠ [] → ys = [] → Q (.ref a) H) ∧ (xs ≠ [] → ys ≠ [] → NewT H (xs ++ ys) Q)
theorem op_catN {X : Cx} : OpR X (binaryOp .Add) (rCatN X.K) := by
  intro pins s σ H x y v u Q I rx ry h
  obtain ⟨a, b, xs, ys, rfl, rfl, ha, hb, hz, q0, q1, q2⟩ := h
  cases rx
  cases ry
  obtain ⟨its, r1, p1, _⟩ := I.tuple ha
  obtain ⟨its2, r2, p2, _⟩ := I.tuple hb
  by_cases hx : xs = []
  · subst hx
    cases r1
    exact cat_tup0 p1 p2 ⟨.ref b, H, I, rfl, q0 rfl⟩
  · refine HT.cat_tup p1 p2 (fun z => hx (r1.nil_iff.mp z)) (fun z => ⟨.ref a, H, I, rfl, q1 hx (r2.nil_iff.mp z)⟩) (fun z => ?_) (by rw [← r1.length, ← r2.length]; exact hz)
    exact new_tup I (by rw [List.length_append]; exact hz) (r1.append r2) (q2 hx fun w => z (r2.nil_iff.mpr w))
/-- t[lo:hi] -/
def rSlN (K : PySem.W.Frag) : V → Option Int → Option Int → Hp → VK → Prop := fun x lo hi H Q => ∃ a xs, x = .ref a ∧ SqT K H a xs ∧
  (HT.sIx xs.length 0 lo = 0 ∧ HT.sIx xs.length xs.length hi = xs.length → Q (.ref a) H) ∧ (¬ (HT.sIx xs.length 0 lo = 0 ∧ HT.sIx xs.length xs.length hi = xs.length) → NewT H (cutV xs lo hi) Q)
theorem sl_tupN {X : Cx} : SlR X (rSlN X.K) := by
  intro pins s σ H x v vl vu lo hi sl Q I rx hs pl pu h
  obtain ⟨a, xs, rfl, hx, q1, q2⟩ := h
  cases rx
  obtain ⟨its, r, ht, hz⟩ := I.tuple hx
  have many : its.toArray.size = xs.length := by rw [List.size_toArray]; exact r.length.symm
  refine ⟨"tuple", _, PyProof.Rows.slot_tuple_getitem.lookup, ht.typeIs, ?_⟩
  by_cases hw : HT.sIx xs.length 0 lo = 0 ∧ HT.sIx xs.length xs.length hi = xs.length
  · exact getItem_tuple_whole ht hs pl pu (by rw [many]; exact hw) ⟨.ref a, H, I, rfl, q1 hw⟩
  · refine HT.getItem_tuple_cut ht hs pl pu (by rw [many]; exact hw) ?_ (by rw [many]; exact hz)
    rw [many]
    exact new_tup I (Nat.le_trans (cutV_length xs lo hi) hz) ((r.drop (HT.sIx xs.length 0 lo)).take (HT.sIx xs.length xs.length hi - HT.sIx xs.length 0 lo)) (q2 hw)
/-- tuple(xs) -/
theorem call_tupleN {X : Cx} : CallR X (.type "tuple") (fun xs H Q => ∃ p ys, xs = [.ref p] ∧ ((SqL X.K H p ys ∧ NewT H ys Q) ∨ (SqT X.K H p ys ∧ Q (.ref p) H))) := by
  intro pins s σ H xs us Q I r h
  obtain ⟨p, ys, rfl, h⟩ := h
  obtain ⟨u, rfl, rx⟩ := vals1 r
  cases rx
  rcases h with ⟨hq, q⟩ | ⟨hq, q⟩
  · obtain ⟨its, r', pl, hz⟩ := I.list hq
    have many := r'.length
    refine call_tuple_list pl.isList (fun h' kp => ?_) (by simp only [List.size_toArray] <;> omega)
    have I1 : Inv X pins σ H { s with heap := h' } := I.kept (t' := s.toks) kp
    exact new_tup I1 hz r' q
  · obtain ⟨its, r', pl, hz⟩ := I.tuple hq
    exact call_tuple_same pl ⟨.ref p, H, I, rfl, q⟩
end DW
set_option Elab.async false
set_option linter.all false
set_option maxRecDepth 100000
namespace DW
open PySem PySem.Spec L2
abbrev Fg := PySem.W.Frag
/-- plain data: what a value stands for; hd: a value taken as it is (a handle, a def, a type) -/
inductive D where
  | non | bl (b : Bool) | int (i : Int) | str (x : Str)
  | tup (xs : List D) | lst (xs : List D)
  | pr (xs : List D)
  | obj (C : Addr) (ns : List Str) (ds : List D)
  | hd (v : V)
  | scr (ns : List Int)
/-- what stands at a handle's address: a list that may change, one that stands still, an instance in the making -/
inductive Cell where
  | lst (ds : List D) | frz (ds : List D) | ins (C : Addr) (ns : List Str) (ds : List D)
  /-- a range object -/
  | rng (lo hi : Int)
  /-- a dict of numbers -/
  | dct (ps : List (Int × Int))
abbrev Sto := Addr → Option Cell
def sset (μ : Sto) (a : Addr) (c : Cell) : Sto := fun b => if b = a then some c else μ b
theorem sset_same {μ : Sto} {a : Addr} {c : Cell} : sset μ a c a = some c := by unfold sset; rw [if_pos rfl]
theorem sset_ne {μ : Sto} {a b : Addr} {c : Cell} (h : b ≠ a) : sset μ a c b = μ b := by unfold sset; rw [if_neg h]
theorem sset_sset {μ : Sto} {a : Addr} {c d : Cell} : sset (sset μ a c) a d = sset μ a d := by
  funext b; unfold sset; split <;> rfl
def still : Option Cell → Prop
  | some (.lst _) => False
  | some (.ins _ _ _) => False
  | some (.dct _) => False
  | _ => True
/-- nothing that may change stands at a -/
def NM (μ : Sto) (a : Addr) : Prop := still (μ a)
theorem NM.of {μ : Sto} {a : Addr} (h : μ a = none) : NM μ a := by unfold NM; rw [h]; exact trivial
theorem NM.frz {μ : Sto} {a : Addr} {ds : List D} (h : μ a = some (.frz ds)) : NM μ a := by unfold NM; rw [h]; exact trivial
theorem NM.notL {μ : Sto} {a : Addr} {ds : List D} (h : NM μ a) (q : μ a = some (.lst ds)) : False := by unfold NM at h; rw [q] at h; exact h
theorem NM.notD {μ : Sto} {a : Addr} {ps : List (Int × Int)} (h : NM μ a) (q : μ a = some (.dct ps)) : False := by unfold NM at h; rw [q] at h; exact h
theorem NM.notI {μ : Sto} {a C : Addr} {ns : List Str} {ds : List D} (h : NM μ a) (q : μ a = some (.ins C ns ds)) : False := by unfold NM at h; rw [q] at h; exact h
def SqLw (K : Fg) (a : Addr) (xs : List V) : Prop :=
  ∃ (o : Obj) (its : Array Value) (n : Nat), K.lookup a = some o ∧ o.cls = .type "list" ∧ o.dict = none ∧ o.data = .seq its n ∧ its.size ≤ sizeLine ∧ Vals xs its.toList
def SqTw (K : Fg) (a : Addr) (xs : List V) : Prop :=
  ∃ (o : Obj) (its : Array Value) (n : Nat), K.lookup a = some o ∧ o.cls = .type "tuple" ∧ o.dict = none ∧ o.data = .seq its n ∧ its.size ≤ sizeLine ∧ Vals xs its.toList
def LstAt (μ : Sto) (H : Hp) (a : Addr) (xs : List V) : Prop := H a = some (.lst xs) ∧ NM μ a
def ScrAt (K : Fg) (μ : Sto) (H : Hp) (a : Addr) (xs : List V) : Prop := (Rd H a (.lst xs) ∧ NM μ a) ∨ SqLw K a xs
def TupAt (K : Fg) (μ : Sto) (H : Hp) (a : Addr) (xs : List V) : Prop := (∃ o : Obj, H a = some (.frz o (.tup xs)) ∧ o.dict = none ∧ o.cls = .type "tuple" ∧ NM μ a) ∨ SqTw K a xs
/-- a tuple that is taken apart at once -/
def PrAt (μ : Sto) (H : Hp) (a : Addr) (xs : List V) : Prop := Rd H a (.tup xs) ∧ NM μ a
theorem LstAt.sq {K : Fg} {μ : Sto} {H : Hp} {a : Addr} {xs : List V} (h : LstAt μ H a xs) : SqL K H a xs := .inl (.inl h.1)
theorem ScrAt.sq {K : Fg} {μ : Sto} {H : Hp} {a : Addr} {xs : List V} (h : ScrAt K μ H a xs) : SqL K H a xs := h.elim (fun q => .inl q.1) fun q => .inr q
theorem TupAt.sq {K : Fg} {μ : Sto} {H : Hp} {a : Addr} {xs : List V} (h : TupAt K μ H a xs) : SqT K H a xs := h.elim (fun ⟨o, q, _⟩ => .inl (.inr ⟨o, q⟩)) fun ⟨o, its, n, q1, q2, _, q3⟩ => .inr ⟨o, its, n, q1, q2, q3⟩
theorem PrAt.sq {K : Fg} {μ : Sto} {H : Hp} {a : Addr} {xs : List V} (h : PrAt μ H a xs) : SqT K H a xs := .inl h.1
/-- what values stand for what data -/
inductive Reps (K : Fg) (μ : Sto) (H : Hp) : List V → List D → Prop
  | nil : Reps K μ H [] []
  | non {vs ds} : Reps K μ H vs ds → Reps K μ H (.non :: vs) (.non :: ds)
  | bl {vs ds} (b : Bool) : Reps K μ H vs ds → Reps K μ H (.bl b :: vs) (.bl b :: ds)
  | int {vs ds} (i : Int) : Reps K μ H vs ds → Reps K μ H (.int i :: vs) (.int i :: ds)
  | str {vs ds} (x : Str) : Reps K μ H vs ds → Reps K μ H (.str x :: vs) (.str x :: ds)
  | hd {vs ds} (v : V) : Reps K μ H vs ds → Reps K μ H (v :: vs) (.hd v :: ds)
  | tup {vs ds a us es} : TupAt K μ H a us → Reps K μ H us es → Reps K μ H vs ds → Reps K μ H (.ref a :: vs) (.tup es :: ds)
  | pr {vs ds a us es} : PrAt μ H a us → Reps K μ H us es → Reps K μ H vs ds → Reps K μ H (.ref a :: vs) (.pr es :: ds)
  | scr {vs ds a ns} : ScrAt K μ H a (ns.map V.int) → Reps K μ H vs ds → Reps K μ H (.ref a :: vs) (.scr ns :: ds)
  | lst {vs ds a us es} : LstAt μ H a us → Reps K μ H us es → Reps K μ H vs ds → Reps K μ H (.ref a :: vs) (.lst es :: ds)
  | obj {vs ds a C dx ns us es} : H a = some (.ins C dx (ns.zip us)) → NM μ a → us.length = ns.length → Reps K μ H us es → Reps K μ H vs ds → Reps K μ H (.ref a :: vs) (.obj C ns es :: ds)
abbrev Rep (K : Fg) (μ : Sto) (H : Hp) (v : V) (d : D) : Prop := Reps K μ H [v] [d]
section
variable {K : Fg} {μ μ' μ'' : Sto} {H H' H'' : Hp} {v w : V} {d e : D} {vs us : List V} {ds es : List D}
theorem Reps.length (h : Reps K μ H vs ds) : vs.length = ds.length := by
  induction h <;> simp_all
theorem Reps.split (h : Reps K μ H (v :: vs) (d :: ds)) : Rep K μ H v d ∧ Reps K μ H vs ds := by
  cases h with
  | non r => exact ⟨.non .nil, r⟩
  | bl b r => exact ⟨.bl b .nil, r⟩
  | int i r => exact ⟨.int i .nil, r⟩
  | str x r => exact ⟨.str x .nil, r⟩
  | hd v r => exact ⟨.hd v .nil, r⟩
  | tup h1 h2 r => exact ⟨.tup h1 h2 .nil, r⟩
  | pr h1 h2 r => exact ⟨.pr h1 h2 .nil, r⟩
  | lst h1 h2 r => exact ⟨.lst h1 h2 .nil, r⟩
  | scr h1 r => exact ⟨.scr h1 .nil, r⟩
  | obj h1 h2 h3 h4 r => exact ⟨.obj h1 h2 h3 h4 .nil, r⟩
theorem Reps.cons (h : Rep K μ H v d) (r : Reps K μ H vs ds) : Reps K μ H (v :: vs) (d :: ds) := by
  cases h with
  | non _ => exact .non r
  | bl b _ => exact .bl b r
  | int i _ => exact .int i r
  | str x _ => exact .str x r
  | hd v _ => exact .hd v r
  | tup h1 h2 _ => exact .tup h1 h2 r
  | pr h1 h2 _ => exact .pr h1 h2 r
  | lst h1 h2 _ => exact .lst h1 h2 r
  | scr h1 _ => exact .scr h1 r
  | obj h1 h2 h3 h4 _ => exact .obj h1 h2 h3 h4 r
theorem Reps.get (h : Reps K μ H vs ds) : ∀ {i : Nat} {d : D}, ds[i]? = some d → ∃ v, vs[i]? = some v ∧ Rep K μ H v d := by
  intro i
  induction i generalizing vs ds with
  | zero =>
    intro d e
    cases ds with
    | nil => cases e
    | cons x r =>
      cases vs with
      | nil => have := h.length; simp at this
      | cons v vs =>
        cases e
        exact ⟨v, rfl, h.split.1⟩
  | succ i ih =>
    intro d e
    cases ds with
    | nil => cases e
    | cons x r =>
      cases vs with
      | nil => have := h.length; simp at this
      | cons v vs => exact ih h.split.2 e
theorem Reps.getV (h : Reps K μ H vs ds) {i : Nat} {v : V} (e : vs[i]? = some v) : ∃ d, ds[i]? = some d ∧ Rep K μ H v d := by
  have hi : i < ds.length := by rw [← h.length]; exact (List.getElem?_eq_some_iff.mp e).1
  obtain ⟨v', e', r⟩ := h.get (List.getElem?_eq_getElem hi)
  rw [e] at e'
  cases e'
  exact ⟨_, List.getElem?_eq_getElem hi, r⟩
theorem Reps.append (h : Reps K μ H vs ds) (r : Reps K μ H us es) : Reps K μ H (vs ++ us) (ds ++ es) := by
  induction vs generalizing ds with
  | nil => cases h; exact r
  | cons v vs ih =>
    cases ds with
    | nil => have := h.length; simp at this
    | cons d ds => exact .cons h.split.1 (ih h.split.2)
theorem Reps.take (h : Reps K μ H vs ds) : ∀ n, Reps K μ H (vs.take n) (ds.take n) := by
  intro n
  induction n generalizing vs ds with
  | zero => exact .nil
  | succ n ih =>
    cases ds with
    | nil =>
      cases vs with
      | nil => exact .nil
      | cons v vs => have := h.length; simp at this
    | cons d ds =>
      cases vs with
      | nil => have := h.length; simp at this
      | cons v vs => exact .cons h.split.1 (ih h.split.2)
theorem Reps.drop (h : Reps K μ H vs ds) : ∀ n, Reps K μ H (vs.drop n) (ds.drop n) := by
  intro n
  induction n generalizing vs ds with
  | zero => exact h
  | succ n ih =>
    cases ds with
    | nil =>
      cases vs with
      | nil => exact .nil
      | cons v vs => have := h.length; simp at this
    | cons d ds =>
      cases vs with
      | nil => have := h.length; simp at this
      | cons v vs => exact ih h.split.2
theorem Reps.set (h : Reps K μ H vs ds) (r : Rep K μ H v d) : ∀ j, Reps K μ H (vs.set j v) (ds.set j d) := by
  intro j
  induction j generalizing vs ds with
  | zero =>
    cases ds with
    | nil =>
      cases vs with
      | nil => exact .nil
      | cons v vs => have := h.length; simp at this
    | cons d ds =>
      cases vs with
      | nil => have := h.length; simp at this
      | cons v vs => exact .cons r h.split.2
  | succ n ih =>
    cases ds with
    | nil =>
      cases vs with
      | nil => exact .nil
      | cons v vs => have := h.length; simp at this
    | cons d ds =>
      cases vs with
      | nil => have := h.length; simp at this
      | cons v vs => exact .cons h.split.1 (ih h.split.2)
theorem Reps.reverse (h : Reps K μ H vs ds) : Reps K μ H vs.reverse ds.reverse := by
  induction vs generalizing ds with
  | nil => cases h; exact .nil
  | cons v vs ih =>
    cases ds with
    | nil => have := h.length; simp at this
    | cons d ds =>
      rw [List.reverse_cons, List.reverse_cons]
      exact (ih h.split.2).append (.cons h.split.1 .nil)
/-- all that stands still there, stands still here; nothing is gone -/
structure Evo (μ : Sto) (H : Hp) (μ' : Sto) (H' : Hp) : Prop where
  st : ∀ b o, H b = some o → NM μ b → H' b = some o ∧ NM μ' b
  th : ∀ b, H' b = none → H b = none
theorem Evo.refl : Evo μ H μ H := ⟨fun _ _ h n => ⟨h, n⟩, fun _ h => h⟩
theorem Evo.trans (a : Evo μ H μ' H') (b : Evo μ' H' μ'' H'') : Evo μ H μ'' H'' := ⟨fun c o h n => b.st c o (a.st c o h n).1 (a.st c o h n).2, fun c h => a.th c (b.th c h)⟩
theorem Evo.rd {a : Addr} {u : HO} (e : Evo μ H μ' H') (h : Rd H a u) (n : NM μ a) : Rd H' a u ∧ NM μ' a := by
  rcases h with h | ⟨o, h⟩
  · exact ⟨.inl (e.st a _ h n).1, (e.st a _ h n).2⟩
  · exact ⟨.inr ⟨o, (e.st a _ h n).1⟩, (e.st a _ h n).2⟩
theorem LstAt.mono {a : Addr} {xs : List V} (e : Evo μ H μ' H') (h : LstAt μ H a xs) : LstAt μ' H' a xs := e.st _ _ h.1 h.2
theorem ScrAt.mono {a : Addr} {xs : List V} (e : Evo μ H μ' H') (h : ScrAt K μ H a xs) : ScrAt K μ' H' a xs := by
  rcases h with ⟨h, n⟩ | h
  · exact .inl (e.rd h n)
  · exact .inr h
theorem TupAt.mono {a : Addr} {xs : List V} (e : Evo μ H μ' H') (h : TupAt K μ H a xs) : TupAt K μ' H' a xs := by
  rcases h with ⟨o, h, d, c, n⟩ | h
  · exact .inl ⟨o, (e.st a _ h n).1, d, c, (e.st a _ h n).2⟩
  · exact .inr h
theorem Reps.mono (e : Evo μ H μ' H') (h : Reps K μ H vs ds) : Reps K μ' H' vs ds := by
  induction h with
  | nil => exact .nil
  | non _ i => exact .non i
  | bl b _ i => exact .bl b i
  | int b _ i => exact .int b i
  | str b _ i => exact .str b i
  | hd b _ i => exact .hd b i
  | tup h1 _ _ i1 i2 => exact .tup (h1.mono e) i1 i2
  | pr h1 _ _ i1 i2 => exact .pr ⟨(e.rd h1.1 h1.2).1, (e.rd h1.1 h1.2).2⟩ i1 i2
  | lst h1 _ _ i1 i2 => exact .lst (h1.mono e) i1 i2
  | scr h1 _ i1 => exact .scr (h1.mono e) i1
  | obj h1 h2 h3 _ _ i1 i2 => exact .obj (e.st _ _ h1 h2).1 (e.st _ _ h1 h2).2 h3 i1 i2
/-- what is said of the handles holds of the heap -/
def CellOk (K : Fg) (μ : Sto) (H : Hp) (a : Addr) : Cell → Prop
  | .lst ds => ∃ vs, H a = some (.lst vs) ∧ Reps K μ H vs ds
  | .frz ds => ∃ vs, H a = some (.lst vs) ∧ Reps K μ H vs ds
  | .ins C ns ds => ∃ dx us, H a = some (.ins C dx (ns.zip us)) ∧ us.length = ns.length ∧ Reps K μ H us ds
  | .rng lo hi => H a = some (.rng lo hi)
  | .dct ps => H a = some (.dK (ps.map fun p => (Sum.inl p.1, V.int p.2)))
def StoOk (K : Fg) (μ : Sto) (H : Hp) : Prop := ∀ a c, μ a = some c → CellOk K μ H a c
theorem CellOk.there {a : Addr} {c : Cell} (h : CellOk K μ H a c) : ∃ o, H a = some o := by
  cases c with
  | lst ds => obtain ⟨_, e, _⟩ := h; exact ⟨_, e⟩
  | frz ds => obtain ⟨_, e, _⟩ := h; exact ⟨_, e⟩
  | ins C ns ds => obtain ⟨_, _, e, _⟩ := h; exact ⟨_, e⟩
  | rng lo hi => exact ⟨_, h⟩
  | dct ps => exact ⟨_, h⟩
theorem StoOk.fresh {p : Addr} (s : StoOk K μ H) (h : H p = none) : μ p = none := by
  cases e : μ p with
  | none => rfl
  | some c =>
    obtain ⟨o, q⟩ := (s p c e).there
    rw [h] at q
    cases q
theorem CellOk.mono {a : Addr} {c : Cell} (e : Evo μ H μ' H') (hs : ∀ o, H a = some o → H' a = some o) (h : CellOk K μ H a c) : CellOk K μ' H' a c := by
  cases c with
  | lst ds => obtain ⟨vs, q, r⟩ := h; exact ⟨vs, hs _ q, r.mono e⟩
  | frz ds => obtain ⟨vs, q, r⟩ := h; exact ⟨vs, hs _ q, r.mono e⟩
  | ins C ns ds => obtain ⟨dx, us, q, l, r⟩ := h; exact ⟨dx, us, hs _ q, l, r.mono e⟩
  | rng lo hi => exact hs _ h
  | dct ps => exact hs _ h
/-- a new object -/
theorem upd_th {p : Addr} {o : HO} {b : Addr} (h : upd H p o b = none) : H b = none := by
  by_cases e : b = p
  · subst e; rw [upd_same] at h; cases h
  · rw [upd_ne e] at h; exact h
theorem Evo.new {p : Addr} {o : HO} (h : H p = none) : Evo μ H μ (upd H p o) := ⟨fun b u e n => ⟨by rw [upd_ne (ne_of_none e h)]; exact e, n⟩, fun b q => upd_th q⟩
theorem StoOk.new {p : Addr} {o : HO} (s : StoOk K μ H) (h : H p = none) : StoOk K μ (upd H p o) := fun a c e =>
  (s a c e).mono (.new h) fun u q => by rw [upd_ne (ne_of_none q h)]; exact q
theorem NM.new {p : Addr} (s : StoOk K μ H) (h : H p = none) : NM μ p := .of (s.fresh h)
/-- a new object that has a cell -/
theorem Evo.newC {p : Addr} {o : HO} {c : Cell} (s : StoOk K μ H) (h : H p = none) : Evo μ H (sset μ p c) (upd H p o) := ⟨fun b u e n => by
  have hb : b ≠ p := ne_of_none e h
  refine ⟨by rw [upd_ne hb]; exact e, ?_⟩
  unfold NM
  rw [sset_ne hb]
  exact n, fun b q => upd_th q⟩
/-- the cell at p changes; nothing else does -/
theorem Evo.cell {p : Addr} {o : HO} {c c' : Cell} (hp : μ p = some c) (hn : ¬ NM μ p) : Evo μ H (sset μ p c') (upd H p o) := ⟨fun b u e n => by
  have hb : b ≠ p := fun q => hn (q ▸ n)
  refine ⟨by rw [upd_ne hb]; exact e, ?_⟩
  unfold NM
  rw [sset_ne hb]
  exact n, fun b q => upd_th q⟩
theorem StoOk.cell {p : Addr} {o : HO} {c' : Cell} (s : StoOk K μ H) (e : Evo μ H (sset μ p c') (upd H p o)) (h : CellOk K (sset μ p c') (upd H p o) p c') : StoOk K (sset μ p c') (upd H p o) := fun a x q => by
  by_cases ha : a = p
  · subst ha
    rw [sset_same] at q
    cases q
    exact h
  · rw [sset_ne ha] at q
    exact (s a x q).mono e fun u z => by rw [upd_ne ha]; exact z
/-- a list comes to rest -/
theorem Evo.rest {p : Addr} {ds : List D} (hp : μ p = some (.lst ds)) : Evo μ H (sset μ p (.frz ds)) H := ⟨fun b u e n => by
  have hb : b ≠ p := fun q => by subst q; exact n.notL hp
  refine ⟨e, ?_⟩
  unfold NM
  rw [sset_ne hb]
  exact n, fun _ q => q⟩
theorem StoOk.rest {p : Addr} {ds : List D} (s : StoOk K μ H) (hp : μ p = some (.lst ds)) : StoOk K (sset μ p (.frz ds)) H := fun a x q => by
  by_cases ha : a = p
  · subst ha
    rw [sset_same] at q
    cases q
    exact (s a _ hp).mono (.rest hp) fun _ z => z
  · rw [sset_ne ha] at q
    exact (s a x q).mono (.rest hp) fun _ z => z
/-- fewer cells -/
def Sub (μ μ' : Sto) : Prop := ∀ a c, μ a = some c → μ' a = some c
theorem Sub.refl : Sub μ μ := fun _ _ h => h
theorem Sub.trans (a : Sub μ μ') (b : Sub μ' μ'') : Sub μ μ'' := fun c x h => b c x (a c x h)
theorem Sub.set {p : Addr} {c : Cell} (s : Sub μ μ') (h : μ p = none) : Sub μ (sset μ' p c) := fun a x e => by
  have : a ≠ p := fun q => by subst q; rw [h] at e; cases e
  rw [sset_ne this]
  exact s a x e
theorem Sub.none {p : Addr} (s : Sub μ μ') (h : μ' p = none) : μ p = none := by
  cases e : μ p with
  | none => rfl
  | some c => rw [s p c e] at h; cases h
theorem Sub.nm {a : Addr} (s : Sub μ μ') (h : NM μ' a) : NM μ a := by
  unfold NM at h ⊢
  cases e : μ a with
  | none => exact trivial
  | some c => rw [s a c e] at h; exact h
theorem Sub.evo (s : Sub μ' μ) : Evo μ H μ' H := ⟨fun b o e n => ⟨e, s.nm n⟩, fun _ q => q⟩
/-- without the cell at p -/
def sdel (μ : Sto) (p : Addr) : Sto := fun b => if b = p then none else μ b
theorem sdel_sub {p : Addr} : Sub (sdel μ p) μ := fun a c e => by
  unfold sdel at e
  split at e
  · cases e
  · exact e
theorem sdel_sset {p : Addr} {c : Cell} (h : μ p = none) : sdel (sset μ p c) p = μ := by
  funext b; unfold sdel sset; by_cases e : b = p
  · subst e; rw [if_pos rfl, h]
  · rw [if_neg e, if_neg e]
theorem sdel_same {p : Addr} : sdel μ p p = none := by unfold sdel; rw [if_pos rfl]
theorem Sub.sto (s : Sub μ' μ) (h : StoOk K μ H) : StoOk K μ' H := fun a c e => (h a c (s a c e)).mono s.evo fun _ z => z
/-- the names' values -/
abbrev DEnv := List (Option D)
structure EnvOk (K : Fg) (μ : Sto) (H : Hp) (σ : St) (δ : DEnv) : Prop where
  len : σ.length = δ.length
  at_ : ∀ (i : Nat) (d : D), δ[i]? = some (some d) → ∃ v, σ[i]? = some (some v) ∧ Rep K μ H v d
theorem EnvOk.mono {σ : St} {δ : DEnv} (e : Evo μ H μ' H') (h : EnvOk K μ H σ δ) : EnvOk K μ' H' σ δ := ⟨h.len, fun i d q => by
  obtain ⟨v, a, b⟩ := h.at_ i d q
  exact ⟨v, a, b.mono e⟩⟩
theorem EnvOk.set {σ : St} {δ : DEnv} (h : EnvOk K μ H σ δ) (r : Rep K μ H v d) (j : Nat) : EnvOk K μ H (σ.set j (some v)) (δ.set j (some d)) := ⟨by rw [List.length_set, List.length_set]; exact h.len, fun i x q => by
  rw [List.getElem?_set] at q
  rw [List.getElem?_set]
  by_cases hj : j = i
  · rw [if_pos hj] at q ⊢
    rw [h.len]
    by_cases hl : j < δ.length
    · rw [if_pos hl] at q ⊢
      cases q
      exact ⟨v, rfl, r⟩
    · rw [if_neg hl] at q
      cases q
  · rw [if_neg hj] at q ⊢
    exact h.at_ i x q⟩
/-- what is known where one stands -/
structure Sm (K : Fg) (H0 : Hp) (μ0 : Sto) (σ : St) (H : Hp) (δ : DEnv) (μ : Sto) : Prop where
  evo : Evo μ0 H0 μ H
  sto : StoOk K μ H
  env : EnvOk K μ H σ δ
theorem Sm.step {H0 : Hp} {μ0 : Sto} {σ : St} {δ : DEnv} (S : Sm K H0 μ0 σ H δ μ) (e : Evo μ H μ' H') (s : StoOk K μ' H') : Sm K H0 μ0 σ H' δ μ' := ⟨S.evo.trans e, s, S.env.mono e⟩
theorem Sm.set {H0 : Hp} {μ0 : Sto} {σ : St} {δ : DEnv} (S : Sm K H0 μ0 σ H δ μ) (r : Rep K μ H v d) (j : Nat) : Sm K H0 μ0 (σ.set j (some v)) H (δ.set j (some d)) μ := ⟨S.evo, S.sto, S.env.set r j⟩
end
end DW
set_option Elab.async false
set_option linter.all false
set_option maxRecDepth 100000
namespace DW
open PySem PySem.Spec L2
/-- an exception that is on its way: its class, its own fields -/
inductive XD where
  | mk (C : Addr) (fs : Option (List Str × List D))
abbrev XP := XD → DEnv → Sto → Prop
abbrev DK := D → Sto → Prop
def RepX (K : Fg) (μ : Sto) (H : Hp) (cls : Value) (dd : Option Addr) : XD → Prop
  | .mk C none => cls = .ref C ∧ dd = none
  | .mk C (some (ns, ds)) => cls = .ref C ∧ ∃ d us, dd = some d ∧ H d = some (.xd (ns.zip us)) ∧ NM μ d ∧ us.length = ns.length ∧ Reps K μ H us ds
/-- where a piece of code stands: the written part, the heap and the handles at the entry, what is wished of exceptions -/
structure Bx (K : Fg) where
  H0 : Hp
  μ0 : Sto
  W : WX
  Ψ : XP
  hW : ∀ cls dd σ H x δ μ, Sm K H0 μ0 σ H δ μ → RepX K μ H cls dd x → Ψ x δ μ → W cls dd σ H
/-- the same, from a later moment on -/
abbrev Bx.re {K : Fg} (B : Bx K) (H1 : Hp) (μ1 : Sto) (e : Evo B.μ0 B.H0 μ1 H1) : Bx K := ⟨H1, μ1, B.W, B.Ψ, fun cls dd σ H x δ μ S => B.hW cls dd σ H x δ μ ⟨e.trans S.evo, S.sto, S.env⟩⟩
abbrev DE := XP → DEnv → Sto → DK → Prop
abbrev DA := XP → DEnv → Sto → (List D → Sto → Prop) → Prop
abbrev DT := XP → DEnv → Sto → (Bool → Sto → Prop) → Prop
structure DEnds where
  nx : DEnv → Sto → Prop
  rt : D → Sto → Prop
  bk : DEnv → Sto → Prop
  ct : DEnv → Sto → Prop
abbrev DSt := XP → DEnds → DEnv → Sto → Prop
section
variable {K : Fg} (B : Bx K)
abbrev Bx.S {K : Fg} (B : Bx K) (σ : L2.St) (H : Hp) (δ : DEnv) (μ : Sto) : Prop := Sm K B.H0 B.μ0 σ H δ μ
/-- the reading te follows from the data's reading φ -/
def SE (te : TE) (φ : DE) : Prop := ∀ (σ : L2.St) (H : Hp) (δ : DEnv) (μ : Sto) (Φ : DK) (Q : VK), B.S σ H δ μ → φ B.Ψ δ μ Φ →
  (∀ v H' d μ', B.S σ H' δ μ' → Evo μ H μ' H' → Rep K μ' H' v d → Φ d μ' → Q v H') → te σ H Q
def SA (ta : TA) (φ : DA) : Prop := ∀ (σ : L2.St) (H : Hp) (δ : DEnv) (μ : Sto) (Φ : List D → Sto → Prop) (Q : List V → Hp → Prop), B.S σ H δ μ → φ B.Ψ δ μ Φ →
  (∀ vs H' ds μ', B.S σ H' δ μ' → Evo μ H μ' H' → Reps K μ' H' vs ds → Φ ds μ' → Q vs H') → ta σ H Q
def ST (tt : TT) (φ : DT) : Prop := ∀ (σ : L2.St) (H : Hp) (δ : DEnv) (μ : Sto) (Φ : Bool → Sto → Prop) (Q : Bool → Hp → Prop), B.S σ H δ μ → φ B.Ψ δ μ Φ →
  (∀ b H' μ', B.S σ H' δ μ' → Evo μ H μ' H' → Φ b μ' → Q b H') → tt σ H Q
structure EO (D : Ends) (Δ : DEnds) : Prop where
  nx : ∀ σ H δ μ, B.S σ H δ μ → Δ.nx δ μ → D.nx σ H
  rt : ∀ v H d μ σ δ, B.S σ H δ μ → Rep K μ H v d → Δ.rt d μ → D.rt v H
  bk : ∀ σ H δ μ, B.S σ H δ μ → Δ.bk δ μ → D.bk σ H
  ct : ∀ σ H δ μ, B.S σ H δ μ → Δ.ct δ μ → D.ct σ H
def SS (ts : TS) (φ : DSt) : Prop := ∀ (D : Ends) (Δ : DEnds) (σ : L2.St) (H : Hp) (δ : DEnv) (μ : Sto), EO B D Δ → B.S σ H δ μ → φ B.Ψ Δ δ μ → ts D σ H
end
section
variable {K : Fg} {B : Bx K} {te ta tb tc : TE} {φ φa φb φc : DE} {tt tu : TT} {θ ϑ : DT} {tas : TA} {ψ : DA} {ts tz : TS} {ω ζ : DSt}
def dVar (i : Nat) : DE := fun _ δ μ Φ => ∃ d, δ[i]? = some (some d) ∧ Φ d μ
theorem sVar {i : Nat} : SE B (tVar i) (dVar i) := fun σ H δ μ Φ Q S h k => by
  obtain ⟨d, e, h⟩ := h
  obtain ⟨v, ev, r⟩ := S.env.at_ i d e
  exact ⟨v, ev, k v H d μ S .refl r h⟩
/-- a name that holds a list's handle, read as the list: it changes no more -/
def dRest (i : Nat) : DE := fun _ δ μ Φ => ∃ a ds, δ[i]? = some (some (.hd (.ref a))) ∧ μ a = some (.lst ds) ∧ Φ (.lst ds) (sset μ a (.frz ds))
theorem Rep.hd_inv {K : Fg} {μ : Sto} {H : Hp} {v w : V} (h : Rep K μ H v (.hd w)) : v = w := by cases h; rfl
theorem sRest {i : Nat} : SE B (tVar i) (dRest i) := fun σ H δ μ Φ Q S h k => by
  obtain ⟨a, ds, e, hm, h⟩ := h
  obtain ⟨v, ev, r⟩ := S.env.at_ i _ e
  obtain rfl := Rep.hd_inv r
  have ev2 : Evo μ H (sset μ a (.frz ds)) H := .rest hm
  have st2 := S.sto.rest hm
  obtain ⟨vs, q1, q2⟩ := st2 a _ sset_same
  exact ⟨_, ev, k _ H _ _ (S.step ev2 st2) ev2 (.lst ⟨q1, .frz sset_same⟩ q2 .nil) h⟩
def dC (d : D) : DE := fun _ _ μ Φ => Φ d μ
theorem sC {v : V} {d : D} (r : ∀ K μ H, Rep K μ H v d) : SE B (tC v) (dC d) := fun σ H δ μ Φ Q S h k => k v H d μ S .refl (r _ _ _) h
theorem sInt {i : Int} : SE B (tC (.int i)) (dC (.int i)) := sC fun _ _ _ => .int i .nil
theorem sStr {x : Str} : SE B (tC (.str x)) (dC (.str x)) := sC fun _ _ _ => .str x .nil
theorem sBl {b : Bool} : SE B (tC (.bl b)) (dC (.bl b)) := sC fun _ _ _ => .bl b .nil
theorem sNon : SE B (tC .non) (dC .non) := sC fun _ _ _ => .non .nil
theorem sHd {v : V} : SE B (tC v) (dC (.hd v)) := sC fun _ _ _ => .hd v .nil
/-- an operator by data -/
abbrev DO := D → D → Sto → DK → Prop
def RO (K : Fg) (r : R2) (ρ : DO) : Prop := ∀ (H : Hp) (μ : Sto) (v w : V) (d e : D) (Φ : DK) (Q : VK), StoOk K μ H → Rep K μ H v d → Rep K μ H w e → ρ d e μ Φ →
  (∀ z H' c μ', Evo μ H μ' H' → StoOk K μ' H' → Rep K μ' H' z c → Φ c μ' → Q z H') → r v w H Q
def dOp (ρ : DO) (φa φb : DE) : DE := fun Ψ δ μ Φ => φa Ψ δ μ fun x μ1 => φb Ψ δ μ1 fun y μ2 => ρ x y μ2 Φ
theorem sOp {r : R2} {ρ : DO} (h : RO K r ρ) (a : SE B ta φa) (b : SE B tb φb) : SE B (tOp r ta tb) (dOp ρ φa φb) := fun σ H δ μ Φ Q S q k =>
  a σ H δ μ _ _ S q fun v H1 x μ1 S1 e1 r1 q1 => b σ H1 δ μ1 _ _ S1 q1 fun w H2 y μ2 S2 e2 r2 q2 =>
    h H2 μ2 v w x y Φ Q S2.sto (Reps.mono e2 r1) r2 q2 fun z H3 c μ3 e3 s3 r3 p => k z H3 c μ3 (S2.step e3 s3) ((e1.trans e2).trans e3) r3 p
abbrev DU := D → Sto → DK → Prop
def RU (K : Fg) (r : V → Hp → VK → Prop) (ρ : DU) : Prop := ∀ (H : Hp) (μ : Sto) (v : V) (d : D) (Φ : DK) (Q : VK), StoOk K μ H → Rep K μ H v d → ρ d μ Φ →
  (∀ z H' c μ', Evo μ H μ' H' → StoOk K μ' H' → Rep K μ' H' z c → Φ c μ' → Q z H') → r v H Q
def dUn (ρ : DU) (φa : DE) : DE := fun Ψ δ μ Φ => φa Ψ δ μ fun x μ1 => ρ x μ1 Φ
theorem sUn {r : V → Hp → VK → Prop} {ρ : DU} (h : RU K r ρ) (a : SE B ta φa) : SE B (tUn r ta) (dUn ρ φa) := fun σ H δ μ Φ Q S q k =>
  a σ H δ μ _ _ S q fun v H1 x μ1 S1 e1 r1 q1 => h H1 μ1 v x Φ Q S1.sto r1 q1 fun z H3 c μ3 e3 s3 r3 p => k z H3 c μ3 (S1.step e3 s3) (e1.trans e3) r3 p
def dTest (φ : DE) : DT := fun Ψ δ μ Φ => φ Ψ δ μ fun x μ1 => ∃ b, x = .bl b ∧ Φ b μ1
theorem Rep.bl_inv {K : Fg} {μ : Sto} {H : Hp} {v : V} {b : Bool} (h : Rep K μ H v (.bl b)) : v = .bl b := by cases h; rfl
theorem Rep.int_inv {K : Fg} {μ : Sto} {H : Hp} {v : V} {b : Int} (h : Rep K μ H v (.int b)) : v = .int b := by cases h; rfl
theorem Rep.non_inv {K : Fg} {μ : Sto} {H : Hp} {v : V} (h : Rep K μ H v .non) : v = .non := by cases h; rfl
theorem sTest (a : SE B ta φa) : ST B (tTest ta) (dTest φa) := fun σ H δ μ Φ Q S q k =>
  a σ H δ μ _ _ S q fun v H1 x μ1 S1 e1 r1 q1 => by
    obtain ⟨b, rfl, q2⟩ := q1
    obtain rfl := Rep.bl_inv r1
    exact ⟨b, rfl, k b H1 μ1 S1 e1 q2⟩
theorem sB (a : SE B ta φa) : ST B (tB ta) (dTest φa) := fun σ H δ μ Φ Q S q k =>
  a σ H δ μ _ _ S q fun v H1 x μ1 S1 e1 r1 q1 => by
    obtain ⟨b, rfl, q2⟩ := q1
    obtain rfl := Rep.bl_inv r1
    exact ⟨b, rfl, k b H1 μ1 S1 e1 q2⟩
def dAnd (θ ϑ : DT) : DT := fun Ψ δ μ Φ => θ Ψ δ μ fun b μ1 => (b = true → ϑ Ψ δ μ1 Φ) ∧ (b = false → Φ false μ1)
def dOr (θ ϑ : DT) : DT := fun Ψ δ μ Φ => θ Ψ δ μ fun b μ1 => (b = true → Φ true μ1) ∧ (b = false → ϑ Ψ δ μ1 Φ)
def dNot (θ : DT) : DT := fun Ψ δ μ Φ => θ Ψ δ μ fun b μ1 => Φ (!b) μ1
theorem sAnd (a : ST B tt θ) (b : ST B tu ϑ) : ST B (tAnd tt tu) (dAnd θ ϑ) := fun σ H δ μ Φ Q S q k =>
  a σ H δ μ _ _ S q fun v H1 μ1 S1 e1 q1 => by
    cases v with
    | true => exact b σ H1 δ μ1 _ _ S1 (q1.1 rfl) fun w H2 μ2 S2 e2 q2 => k w H2 μ2 S2 (e1.trans e2) q2
    | false => exact k false H1 μ1 S1 e1 (q1.2 rfl)
theorem sOr (a : ST B tt θ) (b : ST B tu ϑ) : ST B (tOr tt tu) (dOr θ ϑ) := fun σ H δ μ Φ Q S q k =>
  a σ H δ μ _ _ S q fun v H1 μ1 S1 e1 q1 => by
    cases v with
    | true => exact k true H1 μ1 S1 e1 (q1.1 rfl)
    | false => exact b σ H1 δ μ1 _ _ S1 (q1.2 rfl) fun w H2 μ2 S2 e2 q2 => k w H2 μ2 S2 (e1.trans e2) q2
theorem sNot (a : ST B tt θ) : ST B (tNot tt) (dNot θ) := fun σ H δ μ Φ Q S q k =>
  a σ H δ μ _ _ S q fun v H1 μ1 S1 e1 q1 => k (!v) H1 μ1 S1 e1 q1
def dAndV (φa φb : DE) : DE := fun Ψ δ μ Φ => φa Ψ δ μ fun x μ1 => ∃ b, x = .bl b ∧ (b = true → φb Ψ δ μ1 Φ) ∧ (b = false → Φ (.bl false) μ1)
def dOrV (φa φb : DE) : DE := fun Ψ δ μ Φ => φa Ψ δ μ fun x μ1 => ∃ b, x = .bl b ∧ (b = true → Φ (.bl true) μ1) ∧ (b = false → φb Ψ δ μ1 Φ)
def dNotV (φa : DE) : DE := fun Ψ δ μ Φ => φa Ψ δ μ fun x μ1 => ∃ b, x = .bl b ∧ Φ (.bl (!b)) μ1
theorem sAndV (a : SE B ta φa) (b : SE B tb φb) : SE B (tAndV ta tb) (dAndV φa φb) := fun σ H δ μ Φ Q S q k =>
  a σ H δ μ _ _ S q fun v H1 x μ1 S1 e1 r1 q1 => by
    obtain ⟨c, rfl, q2, q3⟩ := q1
    obtain rfl := Rep.bl_inv r1
    refine ⟨c, rfl, ?_⟩
    cases c with
    | true => exact b σ H1 δ μ1 _ _ S1 (q2 rfl) fun w H2 y μ2 S2 e2 r2 p => k w H2 y μ2 S2 (e1.trans e2) r2 p
    | false => exact k _ H1 _ μ1 S1 e1 (.bl false .nil) (q3 rfl)
theorem sOrV (a : SE B ta φa) (b : SE B tb φb) : SE B (tOrV ta tb) (dOrV φa φb) := fun σ H δ μ Φ Q S q k =>
  a σ H δ μ _ _ S q fun v H1 x μ1 S1 e1 r1 q1 => by
    obtain ⟨c, rfl, q2, q3⟩ := q1
    obtain rfl := Rep.bl_inv r1
    refine ⟨c, rfl, ?_⟩
    cases c with
    | true => exact k _ H1 _ μ1 S1 e1 (.bl true .nil) (q2 rfl)
    | false => exact b σ H1 δ μ1 _ _ S1 (q3 rfl) fun w H2 y μ2 S2 e2 r2 p => k w H2 y μ2 S2 (e1.trans e2) r2 p
theorem sNotV (a : SE B ta φa) : SE B (tNotV ta) (dNotV φa) := fun σ H δ μ Φ Q S q k =>
  a σ H δ μ _ _ S q fun v H1 x μ1 S1 e1 r1 q1 => by
    obtain ⟨c, rfl, q2⟩ := q1
    obtain rfl := Rep.bl_inv r1
    exact ⟨c, rfl, k _ H1 _ μ1 S1 e1 (.bl _ .nil) q2⟩
def dIf (θ : DT) (φa φb : DE) : DE := fun Ψ δ μ Φ => θ Ψ δ μ fun b μ1 => (b = true → φa Ψ δ μ1 Φ) ∧ (b = false → φb Ψ δ μ1 Φ)
theorem sIf (c : ST B tt θ) (a : SE B ta φa) (b : SE B tb φb) : SE B (tIf tt ta tb) (dIf θ φa φb) := fun σ H δ μ Φ Q S q k =>
  c σ H δ μ _ _ S q fun v H1 μ1 S1 e1 q1 => by
    cases v with
    | true => exact a σ H1 δ μ1 _ _ S1 (q1.1 rfl) fun w H2 y μ2 S2 e2 r2 p => k w H2 y μ2 S2 (e1.trans e2) r2 p
    | false => exact b σ H1 δ μ1 _ _ S1 (q1.2 rfl) fun w H2 y μ2 S2 e2 r2 p => k w H2 y μ2 S2 (e1.trans e2) r2 p
/-- a comparison of three -/
def dChain (ρ ρ' : DO) (φa φb φc : DE) : DE := fun Ψ δ μ Φ => φa Ψ δ μ fun x μ1 => φb Ψ δ μ1 fun y μ2 => ρ x y μ2 fun z μ3 => ∃ b, z = .bl b ∧ (b = true → φc Ψ δ μ3 fun u μ4 => ρ' y u μ4 Φ) ∧ (b = false → Φ (.bl false) μ3)
theorem sChain {r r' : R2} {ρ ρ' : DO} (h : RO K r ρ) (h' : RO K r' ρ') (a : SE B ta φa) (b : SE B tb φb) (c : SE B tc φc) : SE B (tChain r r' ta tb tc) (dChain ρ ρ' φa φb φc) := fun σ H δ μ Φ Q S q k =>
  a σ H δ μ _ _ S q fun v H1 x μ1 S1 e1 r1 q1 => b σ H1 δ μ1 _ _ S1 q1 fun w H2 y μ2 S2 e2 r2 q2 =>
    h H2 μ2 v w x y _ _ S2.sto (Reps.mono e2 r1) r2 q2 fun z H3 d μ3 e3 s3 r3 p => by
      obtain ⟨i, rfl, p1, p2⟩ := p
      obtain rfl := Rep.bl_inv r3
      refine ⟨i, rfl, ?_⟩
      have S3 := S2.step e3 s3
      cases i with
      | true =>
        exact c σ H3 δ μ3 _ _ S3 (p1 rfl) fun w4 H4 y4 μ4 S4 e4 r4 p4 =>
          h' H4 μ4 w w4 y y4 _ _ S4.sto (Reps.mono (e3.trans e4) r2) r4 p4 fun z5 H5 d5 μ5 e5 s5 r5 p5 => k z5 H5 d5 μ5 (S4.step e5 s5) (((e1.trans e2).trans e3).trans (e4.trans e5)) r5 p5
      | false => exact k _ H3 _ μ3 S3 ((e1.trans e2).trans e3) (.bl false .nil) (p2 rfl)
def dNil : DA := fun _ _ μ Φ => Φ [] μ
def dCons (φ : DE) (ψ : DA) : DA := fun Ψ δ μ Φ => φ Ψ δ μ fun x μ1 => ψ Ψ δ μ1 fun xs μ2 => Φ (x :: xs) μ2
theorem sNil : SA B tNil dNil := fun σ H δ μ Φ Q S q k => k [] H [] μ S .refl .nil q
theorem sCons (a : SE B ta φa) (b : SA B tas ψ) : SA B (tCons ta tas) (dCons φa ψ) := fun σ H δ μ Φ Q S q k =>
  a σ H δ μ _ _ S q fun v H1 x μ1 S1 e1 r1 q1 => b σ H1 δ μ1 _ _ S1 q1 fun vs H2 xs μ2 S2 e2 r2 q2 => k _ H2 _ μ2 S2 (e1.trans e2) (.cons (Reps.mono e2 r1) r2) q2
def dTup (ψ : DA) : DE := fun Ψ δ μ Φ => ψ Ψ δ μ fun xs μ1 => xs.length ≤ 100000 ∧ Φ (.tup xs) μ1
theorem rep_tup {K : Fg} {μ : Sto} {H : Hp} {p : Addr} {vs : List V} {ds : List D} (s : StoOk K μ H) (hp : H p = none) (r : Reps K μ H vs ds) : Rep K μ (upd H p (.tup vs)) (.ref p) (.pr ds) :=
  .pr ⟨.inl upd_same, .new s hp⟩ (r.mono (.new hp)) .nil
theorem rep_tupN {K : Fg} {μ : Sto} {H : Hp} {p : Addr} {o : Obj} {vs : List V} {ds : List D} (s : StoOk K μ H) (hp : H p = none) (ho : o.dict = none) (hc : o.cls = .type "tuple") (r : Reps K μ H vs ds) : Rep K μ (upd H p (.frz o (.tup vs))) (.ref p) (.tup ds) :=
  .tup (.inl ⟨o, upd_same, ho, hc, .new s hp⟩) (r.mono (.new hp)) .nil
theorem rep_lst {K : Fg} {μ : Sto} {H : Hp} {p : Addr} {vs : List V} {ds : List D} (s : StoOk K μ H) (hp : H p = none) (r : Reps K μ H vs ds) : Rep K μ (upd H p (.lst vs)) (.ref p) (.lst ds) :=
  .lst ⟨upd_same, .new s hp⟩ (r.mono (.new hp)) .nil
theorem sz {n : Nat} (h : n ≤ 100000) : n ≤ sizeLine := Nat.le_trans h (by decide)
theorem sTup (b : SA B tas ψ) : SE B (tTupN tas) (dTup ψ) := fun σ H δ μ Φ Q S q k =>
  b σ H δ μ _ _ S q fun vs H1 xs μ1 S1 e1 r1 q1 => ⟨sz (by rw [r1.length]; exact q1.1), fun p o ho hc hp => k _ _ _ μ1 (S1.step (.new hp) (S1.sto.new hp)) (e1.trans (.new hp)) (rep_tupN S1.sto hp ho hc r1) q1.2⟩
def dLst (ψ : DA) : DE := fun Ψ δ μ Φ => ψ Ψ δ μ fun xs μ1 => xs.length ≤ 100000 ∧ Φ (.lst xs) μ1
theorem sLst (b : SA B tas ψ) : SE B (tLst tas) (dLst ψ) := fun σ H δ μ Φ Q S q k =>
  b σ H δ μ _ _ S q fun vs H1 xs μ1 S1 e1 r1 q1 => ⟨sz (by rw [r1.length]; exact q1.1), fun p hp => k _ _ _ μ1 (S1.step (.new hp) (S1.sto.new hp)) (e1.trans (.new hp)) (rep_lst S1.sto hp r1) q1.2⟩
/-- a list that will change: its handle -/
def dOwn (ψ : DA) : DE := fun Ψ δ μ Φ => ψ Ψ δ μ fun xs μ1 => xs.length ≤ 100000 ∧ ∀ p, μ1 p = none → Φ (.hd (.ref p)) (sset μ1 p (.lst xs))
theorem sto_own {K : Fg} {μ : Sto} {H : Hp} {p : Addr} {vs : List V} {ds : List D} (s : StoOk K μ H) (hp : H p = none) (r : Reps K μ H vs ds) : StoOk K (sset μ p (.lst ds)) (upd H p (.lst vs)) :=
  s.cell (.newC s hp) ⟨vs, upd_same, r.mono (.newC s hp)⟩
theorem sOwn (b : SA B tas ψ) : SE B (tLst tas) (dOwn ψ) := fun σ H δ μ Φ Q S q k =>
  b σ H δ μ _ _ S q fun vs H1 xs μ1 S1 e1 r1 q1 => ⟨sz (by rw [r1.length]; exact q1.1), fun p hp =>
    k _ _ _ _ (S1.step (.newC S1.sto hp) (sto_own S1.sto hp r1)) (e1.trans (.newC S1.sto hp)) (.hd _ .nil) (q1.2 p (S1.sto.fresh hp))⟩
def dSeq (ω ζ : DSt) : DSt := fun Ψ Δ δ μ => ω Ψ { Δ with nx := ζ Ψ Δ } δ μ
theorem sSeq (a : SS B ts ω) (b : SS B tz ζ) : SS B (tSeq ts tz) (dSeq ω ζ) := fun D Δ σ H δ μ E S q =>
  a { D with nx := tz D } { Δ with nx := ζ B.Ψ Δ } σ H δ μ ⟨fun σ' H' δ' μ' S' q' => b D Δ σ' H' δ' μ' E S' q', E.rt, E.bk, E.ct⟩ S q
def dNext : DSt := fun _ Δ δ μ => Δ.nx δ μ
theorem sNext : SS B tNext dNext := fun D Δ σ H δ μ E S q => E.nx σ H δ μ S q
def dBreak : DSt := fun _ Δ δ μ => Δ.bk δ μ
def dCont : DSt := fun _ Δ δ μ => Δ.ct δ μ
def dDrop (φ : DE) : DSt := fun Ψ Δ δ μ => φ Ψ δ μ fun _ μ1 => Δ.nx δ μ1
theorem sDrop (a : SE B ta φa) : SS B (tDrop ta) (dDrop φa) := fun D Δ σ H δ μ E S q => a σ H δ μ _ _ S q fun v H1 x μ1 S1 e1 r1 q1 => E.nx σ H1 δ μ1 S1 q1
def dRet (φ : DE) : DSt := fun Ψ Δ δ μ => φ Ψ δ μ Δ.rt
theorem sRet (a : SE B ta φa) : SS B (tRet ta) (dRet φa) := fun D Δ σ H δ μ E S q => a σ H δ μ _ _ S q fun v H1 x μ1 S1 e1 r1 q1 => E.rt v H1 x μ1 σ δ S1 r1 q1
def dRetN : DSt := fun _ Δ δ μ => Δ.rt .non μ
def dIfS (θ : DT) (ω ζ : DSt) : DSt := fun Ψ Δ δ μ => θ Ψ δ μ fun b μ1 => (b = true → ω Ψ Δ δ μ1) ∧ (b = false → ζ Ψ Δ δ μ1)
theorem sIfS (c : ST B tt θ) (a : SS B ts ω) (b : SS B tz ζ) : SS B (tIfS tt ts tz) (dIfS θ ω ζ) := fun D Δ σ H δ μ E S q =>
  c σ H δ μ _ _ S q fun v H1 μ1 S1 e1 q1 => by
    cases v with
    | true => exact a D Δ σ H1 δ μ1 E S1 (q1.1 rfl)
    | false => exact b D Δ σ H1 δ μ1 E S1 (q1.2 rfl)
/-- targets -/
abbrev DG := D → DEnv → Sto → (DEnv → Sto → Prop) → Prop
def SG {K : Fg} (B : Bx K) (g : TG) (γ : DG) : Prop := ∀ (v : V) (d : D) (σ : L2.St) (H : Hp) (δ : DEnv) (μ : Sto) (Φ : DEnv → Sto → Prop) (Q : L2.St → Hp → Prop), B.S σ H δ μ → Rep K μ H v d → γ d δ μ Φ →
  (∀ σ' H' δ' μ', B.S σ' H' δ' μ' → Evo μ H μ' H' → Φ δ' μ' → Q σ' H') → g v σ H Q
def SGs {K : Fg} (B : Bx K) (g : TGs) (γ : List D → DEnv → Sto → (DEnv → Sto → Prop) → Prop) : Prop := ∀ (v : List V) (d : List D) (σ : L2.St) (H : Hp) (δ : DEnv) (μ : Sto) (Φ : DEnv → Sto → Prop) (Q : L2.St → Hp → Prop), B.S σ H δ μ → Reps K μ H v d → γ d δ μ Φ →
  (∀ σ' H' δ' μ', B.S σ' H' δ' μ' → Evo μ H μ' H' → Φ δ' μ' → Q σ' H') → g v σ H Q
def eName (i : Nat) : DG := fun d δ μ Φ => Φ (δ.set i (some d)) μ
theorem sName {i : Nat} : SG B (gName i) (eName i) := fun v d σ H δ μ Φ Q S r q k => k _ H _ μ (S.set r i) .refl q
def eNil : List D → DEnv → Sto → (DEnv → Sto → Prop) → Prop := fun ds δ μ Φ => ds = [] ∧ Φ δ μ
def eCons (γ : DG) (η : List D → DEnv → Sto → (DEnv → Sto → Prop) → Prop) : List D → DEnv → Sto → (DEnv → Sto → Prop) → Prop := fun ds δ μ Φ => ∃ d r, ds = d :: r ∧ γ d δ μ fun δ' μ' => η r δ' μ' Φ
theorem sgNil : SGs B gNil eNil := fun v d σ H δ μ Φ Q S r q k => by
  obtain ⟨rfl, q⟩ := q
  cases r
  exact ⟨rfl, k σ H δ μ S .refl q⟩
theorem sgCons {g : TG} {gs : TGs} {γ : DG} {η : List D → DEnv → Sto → (DEnv → Sto → Prop) → Prop} (a : SG B g γ) (b : SGs B gs η) : SGs B (gCons g gs) (eCons γ η) := fun v d σ H δ μ Φ Q S r q k => by
  obtain ⟨x, xs, rfl, q⟩ := q
  cases v with
  | nil => have := r.length; simp at this
  | cons v vs =>
    exact ⟨v, vs, rfl, a v x σ H δ μ _ _ S r.split.1 q fun σ1 H1 δ1 μ1 S1 e1 q1 => b vs xs σ1 H1 δ1 μ1 _ _ S1 (r.split.2.mono e1) q1 fun σ2 H2 δ2 μ2 S2 e2 q2 => k σ2 H2 δ2 μ2 S2 (e1.trans e2) q2⟩
def tpl : D → Option (List D)
  | .tup ds => some ds
  | .pr ds => some ds
  | _ => none
def eTup (n : Nat) (η : List D → DEnv → Sto → (DEnv → Sto → Prop) → Prop) : DG := fun d δ μ Φ => ∃ ds, tpl d = some ds ∧ ds.length = n ∧ η ds δ μ Φ
theorem Rep.tup_inv {K : Fg} {μ : Sto} {H : Hp} {v : V} {ds : List D} (h : Rep K μ H v (.tup ds)) : ∃ a vs, v = .ref a ∧ TupAt K μ H a vs ∧ Reps K μ H vs ds := by
  cases h with
  | tup h1 h2 _ => exact ⟨_, _, rfl, h1, h2⟩
theorem Rep.lst_inv {K : Fg} {μ : Sto} {H : Hp} {v : V} {ds : List D} (h : Rep K μ H v (.lst ds)) : ∃ a vs, v = .ref a ∧ LstAt μ H a vs ∧ Reps K μ H vs ds := by
  cases h with
  | lst h1 h2 _ => exact ⟨_, _, rfl, h1, h2⟩
theorem Rep.tpl_inv {K : Fg} {μ : Sto} {H : Hp} {v : V} {d : D} {ds : List D} (h : Rep K μ H v d) (e : tpl d = some ds) : ∃ a vs, v = .ref a ∧ SqT K H a vs ∧ Reps K μ H vs ds := by
  cases h with
  | tup h1 h2 _ => cases e; exact ⟨_, _, rfl, h1.sq, h2⟩
  | pr h1 h2 _ => cases e; exact ⟨_, _, rfl, h1.sq, h2⟩
  | _ => cases e
theorem sgTup {n : Nat} {gs : TGs} {η : List D → DEnv → Sto → (DEnv → Sto → Prop) → Prop} (b : SGs B gs η) : SG B (gTup K n gs) (eTup n η) := fun v d σ H δ μ Φ Q S r q k => by
  obtain ⟨ds, ed, hn, q⟩ := q
  obtain ⟨a, vs, rfl, ht, hr⟩ := Rep.tpl_inv r ed
  exact ⟨a, vs, rfl, ht, by rw [hr.length]; exact hn, b vs ds σ H δ μ Φ Q S hr q k⟩
def dAsg (φ : DE) (γ : DG) : DSt := fun Ψ Δ δ μ => φ Ψ δ μ fun x μ1 => γ x δ μ1 Δ.nx
theorem sAsg {g : TG} {γ : DG} (a : SE B ta φa) (b : SG B g γ) : SS B (tAsg ta g) (dAsg φa γ) := fun D Δ σ H δ μ E S q =>
  a σ H δ μ _ _ S q fun v H1 x μ1 S1 e1 r1 q1 => b v x σ H1 δ μ1 _ _ S1 r1 q1 fun σ2 H2 δ2 μ2 S2 e2 q2 => E.nx σ2 H2 δ2 μ2 S2 q2
/-- x += e -/
def dAug (i : Nat) (φ : DE) (ρ : DO) : DSt := fun Ψ Δ δ μ => ∃ x, δ[i]? = some (some x) ∧ φ Ψ δ μ fun y μ1 => ρ x y μ1 fun z μ2 => Δ.nx (δ.set i (some z)) μ2
theorem sAug {i : Nat} {ip : TIp} {ρ : DO} (h : RO K ip ρ) (a : SE B ta φa) : SS B (tAug i ta ip) (dAug i φa ρ) := fun D Δ σ H δ μ E S q => by
  obtain ⟨x, ex, q⟩ := q
  obtain ⟨v, ev, rv⟩ := S.env.at_ i x ex
  exact ⟨v, ev, a σ H δ μ _ _ S q fun w H1 y μ1 S1 e1 r1 q1 => h H1 μ1 v w x y _ _ S1.sto (Reps.mono e1 rv) r1 q1 fun z H2 c μ2 e2 s2 r2 q2 => E.nx _ _ _ _ ((S1.step e2 s2).set r2 i) q2⟩
/-- while, by a word and a number that falls -/
def dWhile (θ : DT) (ω : DSt) : DSt := fun Ψ Δ δ μ => ∃ W : Nat → DEnv → Sto → Prop, (∃ m, W m δ μ) ∧ ∀ m δ μ, W m δ μ → θ Ψ δ μ fun b μ1 =>
  (b = true → ω Ψ { Δ with nx := fun δ' μ' => ∃ m', m' < m ∧ W m' δ' μ', ct := fun δ' μ' => ∃ m', m' < m ∧ W m' δ' μ', bk := Δ.nx } δ μ1) ∧ (b = false → Δ.nx δ μ1)
theorem sWhile (c : ST B tt θ) (a : SS B ts ω) : SS B (tWhile tt ts) (dWhile θ ω) := fun D Δ σ H δ μ E S q => by
  obtain ⟨W, ⟨m0, w0⟩, q⟩ := q
  refine ⟨fun m σ H => ∃ δ μ, B.S σ H δ μ ∧ W m δ μ, ⟨m0, δ, μ, S, w0⟩, fun m σ1 H1 ⟨δ1, μ1, S1, w1⟩ => ?_⟩
  refine c σ1 H1 δ1 μ1 _ _ S1 (q m δ1 μ1 w1) fun b H2 μ2 S2 e2 q2 => ?_
  cases b with
  | true =>
    refine ⟨fun σ' H' => ∃ δ' μ', B.S σ' H' δ' μ' ∧ ∃ m', m' < m ∧ W m' δ' μ', fun σ' H' ⟨δ', μ', S', m', hm, w'⟩ => ⟨m', hm, δ', μ', S', w'⟩, ?_⟩
    exact a _ { Δ with nx := fun δ' μ' => ∃ m', m' < m ∧ W m' δ' μ', ct := fun δ' μ' => ∃ m', m' < m ∧ W m' δ' μ', bk := Δ.nx } σ1 H2 δ1 μ2 ⟨fun σ' H' δ' μ' S' q' => ⟨δ', μ', S', q'⟩, E.rt, E.nx, fun σ' H' δ' μ' S' q' => ⟨δ', μ', S', q'⟩⟩ S2 (q2.1 rfl)
  | false => exact E.nx _ _ _ _ S2 (q2.2 rfl)
end
end DW
set_option Elab.async false
set_option linter.all false
set_option maxRecDepth 100000
namespace DW
open PySem PySem.Spec L2
section
variable {K : Fg}
def oI (C : Int → Int → Prop) (g : Int → Int → D) : DO := fun x y μ Φ => ∃ i j, x = .int i ∧ y = .int j ∧ C i j ∧ Φ (g i j) μ
def oI0 (g : Int → Int → D) : DO := fun x y μ Φ => ∃ i j, x = .int i ∧ y = .int j ∧ Φ (g i j) μ
theorem roI {C : Int → Int → Prop} {g : Int → Int → V} {g' : Int → Int → D} (hg : ∀ i j μ H, Rep K μ H (g i j) (g' i j)) : RO K (rI C g) (oI C g') := fun H μ v w d e Φ Q s r1 r2 q k => by
  obtain ⟨i, j, rfl, rfl, hc, q⟩ := q
  exact ⟨i, j, Rep.int_inv r1, Rep.int_inv r2, hc, k _ H _ μ .refl s (hg i j μ H) q⟩
theorem roI0 {g : Int → Int → V} {g' : Int → Int → D} (hg : ∀ i j μ H, Rep K μ H (g i j) (g' i j)) : RO K (rI0 g) (oI0 g') := fun H μ v w d e Φ Q s r1 r2 q k => by
  obtain ⟨i, j, rfl, rfl, q⟩ := q
  exact ⟨i, j, Rep.int_inv r1, Rep.int_inv r2, k _ H _ μ .refl s (hg i j μ H) q⟩
theorem roInt {C : Int → Int → Prop} {g : Int → Int → Int} : RO K (rI C fun i j => .int (g i j)) (oI C fun i j => .int (g i j)) := roI fun _ _ _ _ => .int _ .nil
theorem roInt0 {g : Int → Int → Int} : RO K (rI0 fun i j => .int (g i j)) (oI0 fun i j => .int (g i j)) := roI0 fun _ _ _ _ => .int _ .nil
theorem roBl0 {g : Int → Int → Bool} : RO K (rI0 fun i j => .bl (g i j)) (oI0 fun i j => .bl (g i j)) := roI0 fun _ _ _ _ => .bl _ .nil
theorem roIp {g : Int → Int → Int} : RO K (ipI g) (oI0 fun i j => .int (g i j)) := fun H μ v w d e Φ Q s r1 r2 q k => by
  obtain ⟨i, j, rfl, rfl, q⟩ := q
  exact ⟨i, j, Rep.int_inv r1, Rep.int_inv r2, k _ H _ μ .refl s (.int _ .nil) q⟩
def uI (g : Int → Int) : DU := fun x μ Φ => ∃ i, x = .int i ∧ Φ (.int (g i)) μ
theorem ruInt {g : Int → Int} : RU K (rU fun i => .int (g i)) (uI g) := fun H μ v d Φ Q s r q k => by
  obtain ⟨i, rfl, q⟩ := q
  exact ⟨i, Rep.int_inv r, k _ H _ μ .refl s (.int _ .nil) q⟩
def sEq : D → D → Option Bool
  | .int i, .int j => some (decide (i = j))
  | .str i, .str j => some (decide (i = j))
  | .bl i, .bl j => some (decide (i = j))
  | .non, .non => some true
  | .non, .int _ => some false
  | .int _, .non => some false
  | .non, .bl _ => some false
  | .bl _, .non => some false
  | .non, .str _ => some false
  | .str _, .non => some false
  | .int _, .str _ => some false
  | .str _, .int _ => some false
  | .bl _, .str _ => some false
  | .str _, .bl _ => some false
  | _, _ => none
theorem sEq_ok {μ : Sto} {H : Hp} {v w : V} {d e : D} {b : Bool} (r1 : Rep K μ H v d) (r2 : Rep K μ H w e) (h : sEq d e = some b) : scal v w = true ∧ decide (v = w) = b := by
  cases d <;> cases e <;> (first | (unfold sEq at h; cases h; done) | skip) <;> cases r1 <;> cases r2 <;> (injection h with h; subst h; first | exact ⟨rfl, by simp⟩ | exact ⟨rfl, rfl⟩)
def oEq : DO := fun x y μ Φ => ∃ b, sEq x y = some b ∧ Φ (.bl b) μ
def oNe : DO := fun x y μ Φ => ∃ b, sEq x y = some b ∧ Φ (.bl (!b)) μ
theorem roEq : RO K rEq oEq := fun H μ v w d e Φ Q s r1 r2 q k => by
  obtain ⟨b, hb, q⟩ := q
  obtain ⟨h1, h2⟩ := sEq_ok r1 r2 hb
  exact ⟨h1, by rw [h2]; exact k _ H _ μ .refl s (.bl _ .nil) q⟩
theorem roNe : RO K rNe oNe := fun H μ v w d e Φ Q s r1 r2 q k => by
  obtain ⟨b, hb, q⟩ := q
  obtain ⟨h1, h2⟩ := sEq_ok r1 r2 hb
  exact ⟨h1, by rw [h2]; exact k _ H _ μ .refl s (.bl _ .nil) q⟩
def isNone : D → Option Bool
  | .non => some true
  | .bl _ => some false
  | .int _ => some false
  | .str _ => some false
  | .tup _ => some false
  | .lst _ => some false
  | .obj _ _ _ => some false
  | _ => none
theorem isNone_ok {μ : Sto} {H : Hp} {v : V} {d : D} {b : Bool} (r1 : Rep K μ H v d) (h : isNone d = some b) : decide (v = .non) = b := by
  cases d <;> unfold isNone at h <;> first | (cases h; done) | (cases h; cases r1; rfl) | (cases h; cases r1; simp)
def oIsN : DO := fun x y μ Φ => y = .non ∧ ∃ b, isNone x = some b ∧ Φ (.bl b) μ
def oNotN : DO := fun x y μ Φ => y = .non ∧ ∃ b, isNone x = some b ∧ Φ (.bl (!b)) μ
theorem roIsN : RO K (fun x y H Q => y = .non ∧ Q (.bl (decide (x = .non))) H) oIsN := fun H μ v w d e Φ Q s r1 r2 q k => by
  obtain ⟨rfl, b, hb, q⟩ := q
  exact ⟨Rep.non_inv r2, by rw [isNone_ok r1 hb]; exact k _ H _ μ .refl s (.bl _ .nil) q⟩
theorem roNotN : RO K (fun x y H Q => y = .non ∧ Q (.bl (!decide (x = .non))) H) oNotN := fun H μ v w d e Φ Q s r1 r2 q k => by
  obtain ⟨rfl, b, hb, q⟩ := q
  exact ⟨Rep.non_inv r2, by rw [isNone_ok r1 hb]; exact k _ H _ μ .refl s (.bl _ .nil) q⟩
def flatD : D → Bool
  | .non => true
  | .bl _ => true
  | .int _ => true
  | .str _ => true
  | _ => false
def eqF : D → D → Bool
  | .non, .non => true
  | .bl a, .bl b => a == b
  | .bl a, .int b => (if a then 1 else 0) == b
  | .int a, .bl b => a == (if b then 1 else 0)
  | .int a, .int b => a == b
  | .str a, .str b => a == b
  | _, _ => false
theorem flatD_ok {μ : Sto} {H : Hp} {v : V} {d : D} (r : Rep K μ H v d) (h : flatD d = true) : flatV v = true := by
  cases d <;> (first | (exact absurd h Bool.false_ne_true) | skip) <;> cases r <;> rfl
theorem eqF_ok {μ : Sto} {H : Hp} {v w : V} {d e : D} (r1 : Rep K μ H v d) (r2 : Rep K μ H w e) (f1 : flatD d = true) (f2 : flatD e = true) : eqV v w = eqF d e := by
  cases d <;> (first | (exact absurd f1 Bool.false_ne_true) | skip) <;> cases r1 <;> cases e <;> (first | (exact absurd f2 Bool.false_ne_true) | skip) <;> cases r2 <;> rfl
theorem flatAll_ok {μ : Sto} {H : Hp} : ∀ {vs : List V} {ds : List D}, Reps K μ H vs ds → ds.all flatD = true → vs.all flatV = true
  | [], [], _, _ => rfl
  | [], _ :: _, r, _ => by have := r.length; simp at this
  | _ :: _, [], r, _ => by have := r.length; simp at this
  | v :: vs, d :: ds, r, h => by
    rw [List.all_cons, Bool.and_eq_true] at h ⊢
    exact ⟨flatD_ok r.split.1 h.1, flatAll_ok r.split.2 h.2⟩
def inD (x : D) (ds : List D) : Bool := ds.any fun y => eqF y x
theorem inD_ok {μ : Sto} {H : Hp} {v : V} {d : D} (r1 : Rep K μ H v d) (f1 : flatD d = true) : ∀ {vs : List V} {ds : List D}, Reps K μ H vs ds → ds.all flatD = true → inV v vs = inD d ds
  | [], [], _, _ => rfl
  | [], _ :: _, r, _ => by have := r.length; simp at this
  | _ :: _, [], r, _ => by have := r.length; simp at this
  | w :: vs, e :: ds, r, h => by
    rw [List.all_cons, Bool.and_eq_true] at h
    have ih := inD_ok r1 f1 r.split.2 h.2
    unfold inV inD at ih ⊢
    rw [List.any_cons, List.any_cons, eqF_ok r.split.1 r1 h.1 f1, ih]
/-- the items of a tuple, of a list, of a handle's list -/
inductive Items (μ : Sto) : D → List D → Prop
  | tup (ds) : Items μ (.tup ds) ds
  | lst (ds) : Items μ (.lst ds) ds
  | own {a ds} : μ a = some (.lst ds) → Items μ (.hd (.ref a)) ds
  | frz {a ds} : μ a = some (.frz ds) → Items μ (.hd (.ref a)) ds
  | scr (ns) : Items μ (.scr ns) (ns.map .int)
theorem reps_ints {μ : Sto} {H : Hp} : ∀ (ns : List Int), Reps K μ H (ns.map V.int) (ns.map D.int)
  | [] => .nil
  | n :: ns => .int n (reps_ints ns)
theorem Items.ok {μ : Sto} {H : Hp} {v : V} {d : D} {ds : List D} (s : StoOk K μ H) (r : Rep K μ H v d) (h : Items μ d ds) : ∃ a vs, v = .ref a ∧ (SqL K H a vs ∨ SqT K H a vs) ∧ Reps K μ H vs ds := by
  cases h with
  | tup => obtain ⟨a, vs, rfl, h1, h2⟩ := Rep.tup_inv r; exact ⟨a, vs, rfl, .inr h1.sq, h2⟩
  | lst => obtain ⟨a, vs, rfl, h1, h2⟩ := Rep.lst_inv r; exact ⟨a, vs, rfl, .inl h1.sq, h2⟩
  | own h => obtain rfl := Rep.hd_inv r; obtain ⟨vs, h1, h2⟩ := s _ _ h; exact ⟨_, vs, rfl, .inl (.of h1), h2⟩
  | frz h => obtain rfl := Rep.hd_inv r; obtain ⟨vs, h1, h2⟩ := s _ _ h; exact ⟨_, vs, rfl, .inl (.of h1), h2⟩
  | scr ns =>
    cases r with
    | scr h1 _ => exact ⟨_, _, rfl, .inl h1.sq, reps_ints ns⟩
def oIn (neg : Bool) : DO := fun x y μ Φ => ∃ ds, Items μ y ds ∧ flatD x = true ∧ ds.all flatD = true ∧ Φ (.bl (if neg then !inD x ds else inD x ds)) μ
theorem roIn {neg : Bool} : RO K (rIn K neg) (oIn neg) := fun H μ v w d e Φ Q s r1 r2 q k => by
  obtain ⟨ds, hi, f1, f2, q⟩ := q
  obtain ⟨a, vs, rfl, h1, h2⟩ := hi.ok s r2
  refine ⟨a, vs, rfl, h1, flatD_ok r1 f1, flatAll_ok h2 f2, ?_⟩
  rw [inD_ok r1 f1 h2 f2]
  exact k _ H _ μ .refl s (.bl _ .nil) q
theorem atI_reps {μ : Sto} {H : Hp} {vs : List V} {ds : List D} (r : Reps K μ H vs ds) {i : Int} {d : D} (h : atI ds i = some d) : ∃ v, atI vs i = some v ∧ Rep K μ H v d := by
  unfold atI at h ⊢
  rw [r.length]
  cases e : ixN ds.length i with
  | none => rw [e] at h; cases h
  | some j => rw [e] at h; exact r.get h
def isTup : D → Bool
  | .tup _ => true
  | _ => false
def oIxT : DO := fun x y μ Φ => ∃ ds i d, x = .tup ds ∧ y = .int i ∧ atI ds i = some d ∧ Φ d μ
theorem roIxT : RO K (rIxT K) oIxT := fun H μ v w d e Φ Q s r1 r2 q k => by
  obtain ⟨ds, i, c, rfl, rfl, hi, q⟩ := q
  obtain ⟨a, vs, rfl, h1, h2⟩ := Rep.tup_inv r1
  obtain ⟨z, hz, rz⟩ := atI_reps h2 hi
  exact ⟨a, vs, i, z, rfl, Rep.int_inv r2, h1.sq, hz, k _ H _ μ .refl s rz q⟩
def oIxL : DO := fun x y μ Φ => ∃ ds i d, Items μ x ds ∧ isTup x = false ∧ y = .int i ∧ atI ds i = some d ∧ Φ d μ
theorem Items.okL {μ : Sto} {H : Hp} {v : V} {d : D} {ds : List D} (s : StoOk K μ H) (r : Rep K μ H v d) (h : Items μ d ds) (n : isTup d = false) : ∃ a vs, v = .ref a ∧ SqL K H a vs ∧ Reps K μ H vs ds := by
  cases h with
  | tup => cases n
  | lst => obtain ⟨a, vs, rfl, h1, h2⟩ := Rep.lst_inv r; exact ⟨a, vs, rfl, h1.sq, h2⟩
  | own h => obtain rfl := Rep.hd_inv r; obtain ⟨vs, h1, h2⟩ := s _ _ h; exact ⟨_, vs, rfl, .of h1, h2⟩
  | frz h => obtain rfl := Rep.hd_inv r; obtain ⟨vs, h1, h2⟩ := s _ _ h; exact ⟨_, vs, rfl, .of h1, h2⟩
  | scr ns =>
    cases r with
    | scr h1 _ => exact ⟨_, _, rfl, h1.sq, reps_ints ns⟩
theorem roIxL : RO K (rIxL K) oIxL := fun H μ v w d e Φ Q s r1 r2 q k => by
  obtain ⟨ds, i, c, hi, hn, rfl, ha, q⟩ := q
  obtain ⟨a, vs, rfl, h1, h2⟩ := hi.okL s r1 hn
  obtain ⟨z, hz, rz⟩ := atI_reps h2 ha
  exact ⟨a, vs, i, z, rfl, Rep.int_inv r2, h1, hz, k _ H _ μ .refl s rz q⟩
/-- t + u, tuples -/
def oCatT : DO := fun x y μ Φ => ∃ xs ys, x = .tup xs ∧ y = .tup ys ∧ xs.length + ys.length ≤ 100000 ∧ Φ (.tup (xs ++ ys)) μ
theorem roCatT : RO K (rCatN K) oCatT := fun H μ v w d e Φ Q s r1 r2 q k => by
  obtain ⟨xs, ys, rfl, rfl, hz, q⟩ := q
  obtain ⟨a, vs, rfl, h1, h2⟩ := Rep.tup_inv r1
  obtain ⟨b, us, rfl, h3, h4⟩ := Rep.tup_inv r2
  refine ⟨a, b, vs, us, rfl, rfl, h1.sq, h3.sq, sz (by rw [h2.length, h4.length]; exact hz), fun e => ?_, fun _ e => ?_, fun _ _ p o ho hc hp => ?_⟩
  · subst e
    have ex : xs = [] := List.eq_nil_of_length_eq_zero (by rw [← h2.length]; rfl)
    subst ex
    exact k _ H _ μ .refl s r2 q
  · subst e
    have ex : ys = [] := List.eq_nil_of_length_eq_zero (by rw [← h4.length]; rfl)
    subst ex
    rw [List.append_nil] at q
    exact k _ H _ μ .refl s r1 q
  · exact k _ _ _ μ (.new hp) (s.new hp) (rep_tupN s hp ho hc (h2.append h4)) q
/-- xs + ys, lists -/
def oCatL : DO := fun x y μ Φ => ∃ xs ys, x = .lst xs ∧ y = .lst ys ∧ xs.length + ys.length ≤ 100000 ∧ Φ (.lst (xs ++ ys)) μ
theorem roCatL : RO K rCat oCatL := fun H μ v w d e Φ Q s r1 r2 q k => by
  obtain ⟨xs, ys, rfl, rfl, hz, q⟩ := q
  obtain ⟨a, vs, rfl, h1, h2⟩ := Rep.lst_inv r1
  obtain ⟨b, us, rfl, h3, h4⟩ := Rep.lst_inv r2
  exact ⟨a, b, vs, us, rfl, rfl, h1.1, h3.1, sz (by rw [h2.length, h4.length]; exact hz), fun p hp => k _ _ _ μ (.new hp) (s.new hp) (rep_lst s hp (h2.append h4)) q⟩
/-- t * k for k of two or more -/
theorem reps_rep {μ : Sto} {H : Hp} {vs : List V} {ds : List D} (r : Reps K μ H vs ds) : ∀ n, Reps K μ H (List.replicate n vs).flatten (List.replicate n ds).flatten
  | 0 => .nil
  | n + 1 => by
    rw [List.replicate_succ, List.replicate_succ, List.flatten_cons, List.flatten_cons]
    exact r.append (reps_rep r n)
def dNoPart : XP → DEnv → Sto → (Option Int → Sto → Prop) → Prop := fun _ _ μ Φ => Φ none μ
def dPart (φ : DE) : XP → DEnv → Sto → (Option Int → Sto → Prop) → Prop := fun Ψ δ μ Φ => φ Ψ δ μ fun x μ1 => ∃ i, x = .int i ∧ Φ (some i) μ1
def SO (B : Bx K) (to : TO) (φ : XP → DEnv → Sto → (Option Int → Sto → Prop) → Prop) : Prop := ∀ (σ : L2.St) (H : Hp) (δ : DEnv) (μ : Sto) (Φ : Option Int → Sto → Prop) (Q : Option Int → Hp → Prop), B.S σ H δ μ → φ B.Ψ δ μ Φ →
  (∀ o H' μ', B.S σ H' δ μ' → Evo μ H μ' H' → Φ o μ' → Q o H') → to σ H Q
theorem sNoPart {B : Bx K} : SO B tNoPart dNoPart := fun σ H δ μ Φ Q S q k => k none H μ S .refl q
theorem sPart {B : Bx K} {te : TE} {φ : DE} (a : SE B te φ) : SO B (tPart te) (dPart φ) := fun σ H δ μ Φ Q S q k =>
  a σ H δ μ _ _ S q fun v H1 x μ1 S1 e1 r1 q1 => by
    obtain ⟨i, rfl, q2⟩ := q1
    obtain rfl := Rep.int_inv r1
    exact ⟨i, rfl, k (some i) H1 μ1 S1 e1 q2⟩
def cutD (xs : List D) (lo hi : Option Int) : List D := (xs.drop (HT.sIx xs.length 0 lo)).take (HT.sIx xs.length xs.length hi - HT.sIx xs.length 0 lo)
theorem cut_reps {μ : Sto} {H : Hp} {vs : List V} {ds : List D} (r : Reps K μ H vs ds) (lo hi : Option Int) : Reps K μ H (cutV vs lo hi) (cutD ds lo hi) := by
  unfold cutV cutD
  rw [r.length]
  exact (r.drop _).take _
def dSlT (φ : DE) (ol oh : XP → DEnv → Sto → (Option Int → Sto → Prop) → Prop) : DE := fun Ψ δ μ Φ => φ Ψ δ μ fun x μ1 => ol Ψ δ μ1 fun lo μ2 => oh Ψ δ μ2 fun hi μ3 => ∃ ds, x = .tup ds ∧ Φ (.tup (cutD ds lo hi)) μ3
theorem cutD_whole {ds : List D} {lo hi : Option Int} (h : HT.sIx ds.length 0 lo = 0 ∧ HT.sIx ds.length ds.length hi = ds.length) : cutD ds lo hi = ds := by
  unfold cutD
  rw [h.1, h.2, List.drop_zero, Nat.sub_zero, List.take_length]
theorem sSlT {B : Bx K} {te : TE} {tl th : TO} {φ : DE} {ol oh : XP → DEnv → Sto → (Option Int → Sto → Prop) → Prop} (a : SE B te φ) (b : SO B tl ol) (c : SO B th oh) : SE B (tSl (rSlN K) te tl th) (dSlT φ ol oh) := fun σ H δ μ Φ Q S q k =>
  a σ H δ μ _ _ S q fun v H1 x μ1 S1 e1 r1 q1 => b σ H1 δ μ1 _ _ S1 q1 fun lo H2 μ2 S2 e2 q2 => c σ H2 δ μ2 _ _ S2 q2 fun hi H3 μ3 S3 e3 q3 => by
    obtain ⟨ds, rfl, q3⟩ := q3
    obtain ⟨p, vs, rfl, h1, h2⟩ := Rep.tup_inv ((r1.mono e2).mono e3)
    refine ⟨p, vs, rfl, h1.sq, fun w => ?_, fun w o ob hd hc ho => ?_⟩
    · rw [h2.length] at w
      rw [cutD_whole w] at q3
      exact k _ H3 _ μ3 S3 ((e1.trans e2).trans e3) (.tup h1 h2 .nil) q3
    · exact k _ _ _ μ3 (S3.step (.new ho) (S3.sto.new ho)) (((e1.trans e2).trans e3).trans (.new ho)) (rep_tupN S3.sto ho hd hc (cut_reps h2 lo hi)) q3
def dSlL (φ : DE) (ol oh : XP → DEnv → Sto → (Option Int → Sto → Prop) → Prop) : DE := fun Ψ δ μ Φ => φ Ψ δ μ fun x μ1 => ol Ψ δ μ1 fun lo μ2 => oh Ψ δ μ2 fun hi μ3 => ∃ ds, Items μ3 x ds ∧ isTup x = false ∧ Φ (.lst (cutD ds lo hi)) μ3
theorem sSlL {B : Bx K} {te : TE} {tl th : TO} {φ : DE} {ol oh : XP → DEnv → Sto → (Option Int → Sto → Prop) → Prop} (a : SE B te φ) (b : SO B tl ol) (c : SO B th oh) : SE B (tSl (rSlL K) te tl th) (dSlL φ ol oh) := fun σ H δ μ Φ Q S q k =>
  a σ H δ μ _ _ S q fun v H1 x μ1 S1 e1 r1 q1 => b σ H1 δ μ1 _ _ S1 q1 fun lo H2 μ2 S2 e2 q2 => c σ H2 δ μ2 _ _ S2 q2 fun hi H3 μ3 S3 e3 q3 => by
    obtain ⟨ds, hi', hn, q3⟩ := q3
    obtain ⟨p, vs, rfl, h1, h2⟩ := hi'.okL S3.sto ((r1.mono e2).mono e3) hn
    exact ⟨p, vs, rfl, h1, fun o ho => k _ _ _ μ3 (S3.step (.new ho) (S3.sto.new ho)) (((e1.trans e2).trans e3).trans (.new ho)) (rep_lst S3.sto ho (cut_reps h2 lo hi)) q3⟩
/-- xs[::-1], lists -/
def dRevL (φ : DE) : DE := fun Ψ δ μ Φ => φ Ψ δ μ fun x μ1 => ∃ ds, Items μ1 x ds ∧ isTup x = false ∧ Φ (.lst ds.reverse) μ1
abbrev DC := List D → Sto → DK → Prop
def RC (K : Fg) (r : List V → Hp → VK → Prop) (ρ : DC) : Prop := ∀ (H : Hp) (μ : Sto) (vs : List V) (ds : List D) (Φ : DK) (Q : VK), StoOk K μ H → Reps K μ H vs ds → ρ ds μ Φ →
  (∀ z H' c μ', Evo μ H μ' H' → StoOk K μ' H' → Rep K μ' H' z c → Φ c μ' → Q z H') → r vs H Q
def dCB (ρ : DC) (ψ : DA) : DE := fun Ψ δ μ Φ => ψ Ψ δ μ fun xs μ1 => ρ xs μ1 Φ
theorem sCB {B : Bx K} {r : List V → Hp → VK → Prop} {ρ : DC} {tas : TA} {ψ : DA} (h : RC K r ρ) (a : SA B tas ψ) : SE B (tCB r tas) (dCB ρ ψ) := fun σ H δ μ Φ Q S q k =>
  a σ H δ μ _ _ S q fun vs H1 xs μ1 S1 e1 r1 q1 => h H1 μ1 vs xs Φ Q S1.sto r1 q1 fun z H3 c μ3 e3 s3 r3 p => k z H3 c μ3 (S1.step e3 s3) (e1.trans e3) r3 p
theorem reps1 {μ : Sto} {H : Hp} {vs : List V} {d : D} (r : Reps K μ H vs [d]) : ∃ v, vs = [v] ∧ Rep K μ H v d := by
  cases vs with
  | nil => have := r.length; simp at this
  | cons v vs =>
    cases vs with
    | nil => exact ⟨v, rfl, r⟩
    | cons w vs => have := r.length; simp at this
theorem reps2 {μ : Sto} {H : Hp} {vs : List V} {d e : D} (r : Reps K μ H vs [d, e]) : ∃ v w, vs = [v, w] ∧ Rep K μ H v d ∧ Rep K μ H w e := by
  cases vs with
  | nil => have := r.length; simp at this
  | cons v vs =>
    obtain ⟨w, rfl, r2⟩ := reps1 r.split.2
    exact ⟨v, w, rfl, r.split.1, r2⟩
def cLen : DC := fun xs μ Φ => ∃ x ds, xs = [x] ∧ Items μ x ds ∧ Φ (.int ds.length) μ
theorem rcLen : RC K (fun xs H Q => ∃ p ys, xs = [.ref p] ∧ (SqL K H p ys ∨ SqT K H p ys) ∧ Q (.int ys.length) H) cLen := fun H μ vs ds Φ Q s r q k => by
  obtain ⟨x, es, rfl, hi, q⟩ := q
  obtain ⟨v, rfl, r⟩ := reps1 r
  obtain ⟨a, us, rfl, h1, h2⟩ := hi.ok s r
  refine ⟨a, us, rfl, h1, ?_⟩
  rw [h2.length]
  exact k _ H _ μ .refl s (.int _ .nil) q
/-- list(..) of a list or tuple -/
def cList : DC := fun xs μ Φ => ∃ x ds, xs = [x] ∧ Items μ x ds ∧ Φ (.lst ds) μ
theorem rcList : RC K (fun xs H Q => ∃ p ys, xs = [.ref p] ∧ (SqL K H p ys ∨ SqT K H p ys) ∧ ∀ l, H l = none → Q (.ref l) (upd H l (.lst ys))) cList := fun H μ vs ds Φ Q s r q k => by
  obtain ⟨x, es, rfl, hi, q⟩ := q
  obtain ⟨v, rfl, r⟩ := reps1 r
  obtain ⟨a, us, rfl, h1, h2⟩ := hi.ok s r
  exact ⟨a, us, rfl, h1, fun p hp => k _ _ _ μ (.new hp) (s.new hp) (rep_lst s hp h2) q⟩
/-- the same, a handle -/
def cListOwn : DC := fun xs μ Φ => ∃ x ds, xs = [x] ∧ Items μ x ds ∧ ∀ p, μ p = none → Φ (.hd (.ref p)) (sset μ p (.lst ds))
theorem rcListOwn : RC K (fun xs H Q => ∃ p ys, xs = [.ref p] ∧ (SqL K H p ys ∨ SqT K H p ys) ∧ ∀ l, H l = none → Q (.ref l) (upd H l (.lst ys))) cListOwn := fun H μ vs ds Φ Q s r q k => by
  obtain ⟨x, es, rfl, hi, q⟩ := q
  obtain ⟨v, rfl, r⟩ := reps1 r
  obtain ⟨a, us, rfl, h1, h2⟩ := hi.ok s r
  exact ⟨a, us, rfl, h1, fun p hp => k _ _ _ _ (.newC s hp) (sto_own s hp h2) (.hd _ .nil) (q p (s.fresh hp))⟩
def cTuple : DC := fun xs μ Φ => ∃ x ds, xs = [x] ∧ Items μ x ds ∧ Φ (.tup ds) μ
theorem rcTuple : RC K (fun xs H Q => ∃ p ys, xs = [.ref p] ∧ ((SqL K H p ys ∧ NewT H ys Q) ∨ (SqT K H p ys ∧ Q (.ref p) H))) cTuple := fun H μ vs ds Φ Q s r q k => by
  obtain ⟨x, es, rfl, hi, q⟩ := q
  obtain ⟨v, rfl, r⟩ := reps1 r
  cases hi with
  | tup => obtain ⟨a, us, rfl, h1, h2⟩ := Rep.tup_inv r; exact ⟨a, us, rfl, .inr ⟨h1.sq, k _ H _ μ .refl s r q⟩⟩
  | lst => obtain ⟨a, us, rfl, h1, h2⟩ := (Items.lst es).okL s r rfl; exact ⟨a, us, rfl, .inl ⟨h1, fun p o ho hc hp => k _ _ _ μ (.new hp) (s.new hp) (rep_tupN s hp ho hc h2) q⟩⟩
  | own h => obtain ⟨a, us, rfl, h1, h2⟩ := (Items.own h).okL s r rfl; exact ⟨a, us, rfl, .inl ⟨h1, fun p o ho hc hp => k _ _ _ μ (.new hp) (s.new hp) (rep_tupN s hp ho hc h2) q⟩⟩
  | frz h => obtain ⟨a, us, rfl, h1, h2⟩ := (Items.frz h).okL s r rfl; exact ⟨a, us, rfl, .inl ⟨h1, fun p o ho hc hp => k _ _ _ μ (.new hp) (s.new hp) (rep_tupN s hp ho hc h2) q⟩⟩
  | scr ns => obtain ⟨a, us, rfl, h1, h2⟩ := (Items.scr ns).okL s r rfl; exact ⟨a, us, rfl, .inl ⟨h1, fun p o ho hc hp => k _ _ _ μ (.new hp) (s.new hp) (rep_tupN s hp ho hc h2) q⟩⟩
def cInt : DC := fun xs μ Φ => ∃ i, xs = [.int i] ∧ Φ (.int i) μ ∨ ∃ b, xs = [.bl b] ∧ Φ (.int (if b then 1 else 0)) μ
theorem rcInt : RC K (fun xs H Q => (∃ i, xs = [.int i] ∧ Q (.int i) H) ∨ ∃ k, xs = [.bl k] ∧ Q (.int (if k then 1 else 0)) H) cInt := fun H μ vs ds Φ Q s r q k => by
  obtain ⟨i, q⟩ := q
  rcases q with ⟨rfl, q⟩ | ⟨b, rfl, q⟩
  · obtain ⟨v, rfl, r⟩ := reps1 r
    obtain rfl := Rep.int_inv r
    exact .inl ⟨i, rfl, k _ H _ μ .refl s r q⟩
  · obtain ⟨v, rfl, r⟩ := reps1 r
    obtain rfl := Rep.bl_inv r
    exact .inr ⟨b, rfl, k _ H _ μ .refl s (.int _ .nil) q⟩
theorem reps_bls {μ : Sto} {H : Hp} : ∀ {vs : List V} {bs : List Bool}, Reps K μ H vs (bs.map .bl) → vs = bs.map .bl
  | [], [], _ => rfl
  | [], _ :: _, r => by have := r.length; simp at this
  | _ :: _, [], r => by have := r.length; simp at this
  | v :: vs, b :: bs, r => by
    have e := Rep.bl_inv r.split.1
    have ih := reps_bls r.split.2
    rw [e, ih, List.map_cons]
theorem reps_intsV {μ : Sto} {H : Hp} : ∀ {vs : List V} {ns : List Int}, Reps K μ H vs (ns.map .int) → vs = ns.map .int
  | [], [], _ => rfl
  | [], _ :: _, r => by have := r.length; simp at this
  | _ :: _, [], r => by have := r.length; simp at this
  | v :: vs, b :: bs, r => by
    have e := Rep.int_inv r.split.1
    have ih := reps_intsV r.split.2
    rw [e, ih, List.map_cons]
def cAll : DC := fun xs μ Φ => ∃ bs : List Bool, xs = [.lst (bs.map .bl)] ∧ Φ (.bl (bs.all id)) μ
def cAny : DC := fun xs μ Φ => ∃ bs : List Bool, xs = [.lst (bs.map .bl)] ∧ Φ (.bl (bs.any id)) μ
theorem rcAll : RC K (rAll K) cAll := fun H μ vs ds Φ Q s r q k => by
  obtain ⟨bs, rfl, q⟩ := q
  obtain ⟨v, rfl, r⟩ := reps1 r
  obtain ⟨a, us, rfl, h1, h2⟩ := Rep.lst_inv r
  have e := reps_bls h2
  subst e
  exact ⟨a, bs, rfl, h1.sq, k _ H _ μ .refl s (.bl _ .nil) q⟩
theorem rcAny : RC K (rAny K) cAny := fun H μ vs ds Φ Q s r q k => by
  obtain ⟨bs, rfl, q⟩ := q
  obtain ⟨v, rfl, r⟩ := reps1 r
  obtain ⟨a, us, rfl, h1, h2⟩ := Rep.lst_inv r
  have e := reps_bls h2
  subst e
  exact ⟨a, bs, rfl, h1.sq, k _ H _ μ .refl s (.bl _ .nil) q⟩
def cMin2 : DC := fun xs μ Φ => ∃ i j, xs = [.int i, .int j] ∧ Φ (.int (if j < i then j else i)) μ
def cDivmod : DC := fun xs μ Φ => ∃ i j, xs = [.int i, .int j] ∧ CDivP i j ∧ Φ (.pr [.int (i / j), .int (i % j)]) μ
def tyD : D → Option String
  | .non => some "NoneType"
  | .bl _ => some "bool"
  | .int _ => some "int"
  | .str _ => some "str"
  | .tup _ => some "tuple"
  | .lst _ => some "list"
  | _ => none
theorem tyD_ok {μ : Sto} {H : Hp} {v : V} {d : D} {n : String} (r : Rep K μ H v d) (h : tyD d = some n) : TyX K H v (.type n) := by
  cases d with
  | non => cases h; cases r; exact .base .non
  | bl b => cases h; cases r; exact .base (.bl b)
  | int i => cases h; cases r; exact .base (.int i)
  | str i => cases h; cases r; exact .base (.str i)
  | tup ds =>
    cases h
    obtain ⟨a, vs, rfl, h1, h2⟩ := Rep.tup_inv r
    rcases h1 with ⟨o, h1, _⟩ | ⟨o, its, n, h1, h3, _⟩
    · exact .fTuple h1
    · exact .kTuple h1 h3
  | lst ds =>
    cases h
    obtain ⟨a, vs, rfl, h1, h2⟩ := Rep.lst_inv r
    exact .base (.lst h1.1)
  | obj C ns ds => cases h
  | hd v => cases h
  | scr ns => cases h
  | pr ns => cases h
def instB : D → String → Option Bool
  | .non, "int" => some false | .non, "bool" => some false | .non, "str" => some false | .non, "tuple" => some false | .non, "list" => some false
  | .int _, "int" => some true | .int _, "bool" => some false | .int _, "str" => some false | .int _, "tuple" => some false | .int _, "list" => some false
  | .bl _, "int" => some true | .bl _, "bool" => some true | .bl _, "str" => some false | .bl _, "tuple" => some false | .bl _, "list" => some false
  | .str _, "int" => some false | .str _, "bool" => some false | .str _, "str" => some true | .str _, "tuple" => some false | .str _, "list" => some false
  | .tup _, "int" => some false | .tup _, "bool" => some false | .tup _, "str" => some false | .tup _, "tuple" => some true | .tup _, "list" => some false
  | .lst _, "int" => some false | .lst _, "bool" => some false | .lst _, "str" => some false | .lst _, "tuple" => some false | .lst _, "list" => some true
  | _, _ => none
theorem instB_ok {d : D} {T : String} {b : Bool} (h : instB d T = some b) : ∃ n, tyD d = some n ∧ kitB n T = some b := by
  unfold instB at h
  split at h <;> first | (cases h; done) | (cases h; exact ⟨_, rfl, by decide +kernel⟩)
def cIsi (T : String) : DC := fun xs μ Φ => ∃ x b, xs = [x, .hd (.ty T)] ∧ instB x T = some b ∧ Φ (.bl b) μ
theorem rcIsi {T : String} : RC K (rIsi K) (cIsi T) := fun H μ vs ds Φ Q s r q k => by
  obtain ⟨x, b, rfl, hi, q⟩ := q
  obtain ⟨n, hn, hk⟩ := instB_ok hi
  obtain ⟨v, w, rfl, r1, r2⟩ := reps2 r
  obtain rfl := Rep.hd_inv r2
  exact ⟨v, _, _, _, b, rfl, .ty T, tyD_ok r1 hn, kit_ty hk, k _ H _ μ .refl s (.bl _ .nil) q⟩
def dApp (φa φb : DE) : DE := fun Ψ δ μ Φ => φa Ψ δ μ fun x μ1 => ∃ a ds, x = .hd (.ref a) ∧ μ1 a = some (.lst ds) ∧ φb Ψ δ μ1 fun y μ2 => ∃ es, μ2 a = some (.lst es) ∧ es.length ≤ 100000 ∧ Φ .non (sset μ2 a (.lst (es ++ [y])))
theorem own_upd {μ : Sto} {H : Hp} {a : Addr} {ds es : List D} {us : List V} (s : StoOk K μ H) (h : μ a = some (.lst ds)) (r : Reps K (sset μ a (.lst es)) (upd H a (.lst us)) us es) : Evo μ H (sset μ a (.lst es)) (upd H a (.lst us)) ∧ StoOk K (sset μ a (.lst es)) (upd H a (.lst us)) := by
  have e : Evo μ H (sset μ a (.lst es)) (upd H a (.lst us)) := .cell h fun n => n.notL h
  exact ⟨e, s.cell e ⟨us, upd_same, r⟩⟩
theorem own_evo {μ : Sto} {H : Hp} {a : Addr} {ds es : List D} {us : List V} (h : μ a = some (.lst ds)) : Evo μ H (sset μ a (.lst es)) (upd H a (.lst us)) := .cell h fun n => n.notL h
theorem sApp {B : Bx K} {ta tb : TE} {φa φb : DE} (a : SE B ta φa) (b : SE B tb φb) : SE B (tBM K "list" rAppend ta (tCons tb tNil)) (dApp φa φb) := fun σ H δ μ Φ Q S q k =>
  a σ H δ μ _ _ S q fun v H1 x μ1 S1 e1 r1 q1 => by
    obtain ⟨p, ds, rfl, hp, q1⟩ := q1
    obtain rfl := Rep.hd_inv r1
    obtain ⟨us, h1, h2⟩ := S1.sto _ _ hp
    refine ⟨.inl ⟨rfl, us, .of h1⟩, b σ H1 δ μ1 _ _ S1 q1 fun w H2 y μ2 S2 e2 r2 q2 => ?_⟩
    obtain ⟨es, hp2, hz, q2⟩ := q2
    obtain ⟨ws, h3, h4⟩ := S2.sto _ _ hp2
    refine ⟨p, ws, w, rfl, rfl, h3, Nat.lt_of_le_of_lt (by rw [h4.length]; exact hz) (by decide), ?_⟩
    have e3 : Evo μ2 H2 (sset μ2 p (.lst (es ++ [y]))) (upd H2 p (.lst (ws ++ [w]))) := own_evo hp2
    obtain ⟨e4, s4⟩ := own_upd S2.sto hp2 ((h4.append r2).mono e3)
    exact k _ _ _ _ (S2.step e4 s4) ((e1.trans e2).trans e4) (.non .nil) q2
/-- o[i] = e, o a handle of a list -/
def eSub (φo φi : DE) : XP → D → DEnv → Sto → (DEnv → Sto → Prop) → Prop := fun Ψ d δ μ Φ => φo Ψ δ μ fun x μ1 => φi Ψ δ μ1 fun y μ2 => ∃ a ds i j, x = .hd (.ref a) ∧ y = .int i ∧ μ2 a = some (.lst ds) ∧ ixN ds.length i = some j ∧ Φ δ (sset μ2 a (.lst (ds.set j d)))
theorem sSub {B : Bx K} {ta tb : TE} {φa φb : DE} (a : SE B ta φa) (b : SE B tb φb) : SG B (gSub ta tb rSetL) (eSub φa φb B.Ψ) := fun v d σ H δ μ Φ Q S r q k =>
  a σ H δ μ _ _ S q fun o H1 x μ1 S1 e1 r1 q1 => b σ H1 δ μ1 _ _ S1 q1 fun i H2 y μ2 S2 e2 r2 q2 => by
    obtain ⟨p, ds, i, j, rfl, rfl, hp, hj, q2⟩ := q2
    obtain rfl := Rep.hd_inv r1
    obtain rfl := Rep.int_inv r2
    obtain ⟨us, h1, h2⟩ := S2.sto _ _ hp
    refine ⟨p, us, i, j, rfl, rfl, h1, by rw [h2.length]; exact hj, ?_⟩
    have e3 : Evo μ2 H2 (sset μ2 p (.lst (ds.set j d))) (upd H2 p (.lst (us.set j v))) := own_evo hp
    obtain ⟨e4, s4⟩ := own_upd S2.sto hp ((h2.set ((r.mono e1).mono e2) j).mono e3)
    exact k σ _ δ _ (S2.step e4 s4) ((e1.trans e2).trans e4) q2
def dAsgS (φ φo φi : DE) : DSt := fun Ψ Δ δ μ => φ Ψ δ μ fun x μ1 => eSub φo φi Ψ x δ μ1 Δ.nx
theorem sAsgS {B : Bx K} {te ta tb : TE} {φ φa φb : DE} (e : SE B te φ) (a : SE B ta φa) (b : SE B tb φb) : SS B (tAsg te (gSub ta tb rSetL)) (dAsgS φ φa φb) := fun D Δ σ H δ μ E S q =>
  e σ H δ μ _ _ S q fun v H1 x μ1 S1 e1 r1 q1 => sSub a b v x σ H1 δ μ1 _ _ S1 r1 q1 fun σ2 H2 δ2 μ2 S2 e2 q2 => E.nx σ2 H2 δ2 μ2 S2 q2
end
end DW
set_option Elab.async false
set_option linter.all false
set_option maxRecDepth 100000
namespace DW
open PySem PySem.Spec L2
section
variable {K : Fg} {B : Bx K}
abbrev DI := XP → DEnv → Sto → (List D → Sto → Prop) → Prop
/-- the iterator hands out the items, as long as what stood still stands -/
def IterOk (K : Fg) (μ1 : Sto) (H1 : Hp) (J : It) (xs : List D) : Prop := ∀ (i : Nat) (H : Hp) (μ : Sto), StoOk K μ H → Evo μ1 H1 μ H →
  (i < xs.length → J.go i H ∧ ∀ x H', J.yld i H x H' → ∃ d, xs[i]? = some d ∧ StoOk K μ H' ∧ Evo μ H μ H' ∧ Rep K μ H' x d) ∧ (xs.length ≤ i → J.stop i H)
def SI (B : Bx K) (wi : TI) (ι : DI) : Prop := ∀ (σ : L2.St) (H : Hp) (δ : DEnv) (μ : Sto) (Φ : List D → Sto → Prop) (R : It → Hp → Prop), B.S σ H δ μ → ι B.Ψ δ μ Φ →
  (∀ xs J H' μ', B.S σ H' δ μ' → Evo μ H μ' H' → IterOk K μ' H' J xs → Φ xs μ' → R J H') → wi σ H R
def iSeqT (φ : DE) : DI := fun Ψ δ μ Φ => φ Ψ δ μ fun x μ1 => ∃ ds, x = .tup ds ∧ Φ ds μ1
def iSeqL (φ : DE) : DI := fun Ψ δ μ Φ => φ Ψ δ μ fun x μ1 => ∃ ds, x = .lst ds ∧ Φ ds μ1
theorem siT {te : TE} {φ : DE} (a : SE B te φ) : SI B (iTup K te) (iSeqT φ) := fun σ H δ μ Φ R S q k =>
  a σ H δ μ _ _ S q fun v H1 x μ1 S1 e1 r1 q1 => by
    obtain ⟨ds, rfl, q2⟩ := q1
    obtain ⟨p, vs, rfl, h1, h2⟩ := Rep.tup_inv r1
    refine ⟨p, rfl, ⟨vs, h1.sq⟩, k ds _ H1 μ1 S1 e1 (fun i H2 μ2 s2 e2 => ⟨fun hi => ?_, fun hi => ⟨vs, (h1.mono e2).sq, by rw [h2.length]; exact hi⟩⟩) q2⟩
    have hv : i < vs.length := by rw [h2.length]; exact hi
    refine ⟨⟨vs, vs[i], (h1.mono e2).sq, List.getElem?_eq_getElem hv⟩, fun x H' ⟨eH, hy⟩ => ?_⟩
    subst eH
    obtain ⟨d, hd, rd⟩ := (h2.mono e2).getV (hy vs (h1.mono e2).sq)
    exact ⟨d, hd, s2, .refl, rd⟩
theorem siL {te : TE} {φ : DE} (a : SE B te φ) : SI B (iList K te) (iSeqL φ) := fun σ H δ μ Φ R S q k =>
  a σ H δ μ _ _ S q fun v H1 x μ1 S1 e1 r1 q1 => by
    obtain ⟨ds, rfl, q2⟩ := q1
    obtain ⟨p, vs, rfl, h1, h2⟩ := Rep.lst_inv r1
    refine ⟨p, rfl, ⟨vs, h1.sq⟩, k ds _ H1 μ1 S1 e1 (fun i H2 μ2 s2 e2 => ⟨fun hi => ?_, fun hi => ⟨vs, (h1.mono e2).sq, by rw [h2.length]; exact hi⟩⟩) q2⟩
    have hv : i < vs.length := by rw [h2.length]; exact hi
    refine ⟨⟨vs, vs[i], (h1.mono e2).sq, List.getElem?_eq_getElem hv⟩, fun x H' ⟨eH, hy⟩ => ?_⟩
    subst eH
    obtain ⟨d, hd, rd⟩ := (h2.mono e2).getV (hy vs (h1.mono e2).sq)
    exact ⟨d, hd, s2, .refl, rd⟩
def rngD (lo : Int) (n : Nat) : List D := (List.range n).map fun (i : Nat) => .int (lo + (i : Int))
theorem rngD_len {lo : Int} {n : Nat} : (rngD lo n).length = n := by unfold rngD; rw [List.length_map, List.length_range]
theorem rngD_at {lo : Int} {n i : Nat} (h : i < n) : (rngD lo n)[i]? = some (.int (lo + (i : Int))) := by
  unfold rngD
  rw [List.getElem?_map, List.getElem?_range h]
  rfl
theorem iter_rng {μ : Sto} {H : Hp} {lo : Int} {n : Nat} : IterOk K μ H (Itr lo n) (rngD lo n) := fun i H2 μ2 s2 e2 => by
  rw [rngD_len]
  refine ⟨fun hi => ⟨hi, fun x H' ⟨eH, hy⟩ => ?_⟩, fun hi => hi⟩
  subst eH hy
  exact ⟨_, rngD_at hi, s2, .refl, .int _ .nil⟩
def iR1 (φ : DE) : DI := fun Ψ δ μ Φ => φ Ψ δ μ fun x μ1 => ∃ j, x = .int j ∧ j < 4611686018427387904 ∧ -4611686018427387904 ≤ j ∧ Φ (rngD 0 j.toNat) μ1
theorem siR1 {te : TE} {φ : DE} (a : SE B te φ) : SI B (iRng1 (tCons te tNil)) (iR1 φ) := fun σ H δ μ Φ R S q k =>
  a σ H δ μ _ _ S q fun v H1 x μ1 S1 e1 r1 q1 => by
    obtain ⟨j, rfl, h1, h2, q2⟩ := q1
    obtain rfl := Rep.int_inv r1
    exact ⟨j, rfl, by omega, by omega, k _ _ H1 μ1 S1 e1 iter_rng q2⟩
def iR2 (φ φ' : DE) : DI := fun Ψ δ μ Φ => φ Ψ δ μ fun x μ1 => φ' Ψ δ μ1 fun y μ2 => ∃ i j, x = .int i ∧ y = .int j ∧ (-4611686018427387904 ≤ i ∧ i < 4611686018427387904 ∧ -4611686018427387904 ≤ j ∧ j < 4611686018427387904) ∧ Φ (rngD i (j - i).toNat) μ2
/-- zip of two tuples -/
def iZipT (φ φ' : DE) : DI := fun Ψ δ μ Φ => φ Ψ δ μ fun x μ1 => φ' Ψ δ μ1 fun y μ2 => ∃ xs ys, x = .tup xs ∧ y = .tup ys ∧ Φ ((xs.zip ys).map fun p => .pr [p.1, p.2]) μ2
/-- a text, sign by sign -/
def iText (φ : DE) : DI := fun Ψ δ μ Φ => φ Ψ δ μ fun x μ1 => ∃ s, x = .str s ∧ Φ (s.cps.toList.map fun c => .str ⟨#[c]⟩) μ1
/-- a loop -/
def dFor (ι : DI) (γ : DG) (ω : DSt) : DSt := fun Ψ Δ δ μ => ι Ψ δ μ fun xs μ1 => ∃ W : Nat → DEnv → Sto → Prop, W 0 δ μ1 ∧
  (∀ i d δ' μ', xs[i]? = some d → W i δ' μ' → γ d δ' μ' fun δ2 μ2 => ω Ψ { Δ with nx := W (i + 1), ct := W (i + 1), bk := Δ.nx } δ2 μ2) ∧ ∀ δ' μ', W xs.length δ' μ' → Δ.nx δ' μ'
theorem sFor {wi : TI} {g : TG} {tb : TS} {ι : DI} {γ : DG} {ω : DSt} (a : SI B wi ι) (b : ∀ H1 μ1 e, SG (B.re H1 μ1 e) g γ) (c : ∀ H1 μ1 e, SS (B.re H1 μ1 e) tb ω) : SS B (tFor wi g tb) (dFor ι γ ω) := fun D Δ σ H δ μ E S q =>
  a σ H δ μ _ _ S q fun xs J H1 μ1 S1 e1 it q1 => by
    obtain ⟨W, w0, ws, wd⟩ := q1
    refine ⟨fun i m σ' H' => m = xs.length - i ∧ i ≤ xs.length ∧ ∃ δ' μ', (B.re H1 μ1 S1.evo).S σ' H' δ' μ' ∧ W i δ' μ', ⟨xs.length, by simp, Nat.zero_le _, δ, μ1, ⟨.refl, S1.sto, S1.env⟩, w0⟩, ?_⟩
    rintro i m σ' H' ⟨rfl, hi, δ', μ', S', w⟩
    by_cases hlt : i < xs.length
    · obtain ⟨hgo, hy⟩ := (it i H' μ' S'.sto S'.evo).1 hlt
      refine .inr ⟨hgo, fun σ2 H2 => ∃ δ2 μ2, (B.re H1 μ1 S1.evo).S σ2 H2 δ2 μ2 ∧ W (i + 1) δ2 μ2, fun σ2 H2 ⟨δ2, μ2, S2, w2⟩ => ⟨xs.length - (i + 1), by omega, rfl, by omega, δ2, μ2, S2, w2⟩, fun x H2 y => ?_⟩
      obtain ⟨d, hd, s2, e2, r2⟩ := hy x H2 y
      refine b H1 μ1 S1.evo x d σ' H2 δ' μ' _ _ (S'.step e2 s2) r2 (ws i d δ' μ' hd w) fun σ3 H3 δ3 μ3 S3 e3 q3 => ?_
      exact c H1 μ1 S1.evo _ { Δ with nx := W (i + 1), ct := W (i + 1), bk := Δ.nx } σ3 H3 δ3 μ3 ⟨fun σ4 H4 δ4 μ4 S4 q4 => ⟨δ4, μ4, S4, q4⟩, fun v4 H4 d4 μ4 σ4 δ4 S4 r4 q4 => E.rt v4 H4 d4 μ4 σ4 δ4 ⟨S1.evo.trans S4.evo, S4.sto, S4.env⟩ r4 q4, fun σ4 H4 δ4 μ4 S4 q4 => E.nx σ4 H4 δ4 μ4 ⟨S1.evo.trans S4.evo, S4.sto, S4.env⟩ q4, fun σ4 H4 δ4 μ4 S4 q4 => ⟨δ4, μ4, S4, q4⟩⟩ S3 q3
    · have e : i = xs.length := by omega
      subst e
      exact .inl ⟨(it _ H' μ' S'.sto S'.evo).2 (Nat.le_refl _), E.nx σ' H' δ' μ' ⟨S1.evo.trans S'.evo, S'.sto, S'.env⟩ (wd δ' μ' w)⟩
def dwipe (δ : DEnv) : List Nat → DEnv
  | [] => δ
  | v :: vs => (dwipe δ vs).set v none
theorem EnvOk.unset {μ : Sto} {H : Hp} {σ : L2.St} {δ : DEnv} (h : EnvOk K μ H σ δ) (j : Nat) : EnvOk K μ H (σ.set j none) (δ.set j none) := ⟨by rw [List.length_set, List.length_set]; exact h.len, fun i x q => by
  rw [List.getElem?_set] at q
  by_cases hj : j = i
  · rw [if_pos hj] at q
    split at q <;> cases q
  · rw [if_neg hj] at q
    obtain ⟨v, e, r⟩ := h.at_ i x q
    exact ⟨v, by rw [List.getElem?_set, if_neg hj]; exact e, r⟩⟩
theorem EnvOk.wipe {μ : Sto} {H : Hp} {σ : L2.St} {δ : DEnv} (h : EnvOk K μ H σ δ) : ∀ vs, EnvOk K μ H (L2.wipe σ vs) (dwipe δ vs)
  | [] => h
  | v :: vs => (EnvOk.wipe h vs).unset v
theorem wipe_get (σ : L2.St) : ∀ (vs : List Nat) (i : Nat), (L2.wipe σ vs)[i]? = if i ∈ vs ∧ i < σ.length then some none else σ[i]?
  | [], i => by simp [L2.wipe]
  | v :: vs, i => by
    have ih := wipe_get σ vs i
    show ((L2.wipe σ vs).set v none)[i]? = _
    rw [List.getElem?_set, L2.wipe_length, ih]
    by_cases h : v = i
    · subst h
      rw [if_pos rfl]
      by_cases hl : v < σ.length
      · rw [if_pos hl, if_pos ⟨List.mem_cons_self, hl⟩]
      · rw [if_neg hl, if_neg fun z => hl z.2, List.getElem?_eq_none (by omega)]
    · rw [if_neg h]
      have : (i ∈ v :: vs ∧ i < σ.length) ↔ (i ∈ vs ∧ i < σ.length) := by
        constructor
        · rintro ⟨a, b⟩
          rcases List.mem_cons.mp a with e | e
          · exact absurd e.symm h
          · exact ⟨e, b⟩
        · rintro ⟨a, b⟩
          exact ⟨List.mem_cons_of_mem _ a, b⟩
      simp only [this]
theorem wipe_set {σ : L2.St} {vs : List Nat} {j : Nat} {x : Option V} (h : j ∈ vs) : L2.wipe (σ.set j x) vs = L2.wipe σ vs := by
  apply List.ext_getElem?
  intro i
  rw [wipe_get, wipe_get, List.length_set, List.getElem?_set]
  by_cases hi : i ∈ vs ∧ i < σ.length
  · rw [if_pos hi, if_pos hi]
  · rw [if_neg hi, if_neg hi]
    by_cases e : j = i
    · subst e
      rw [if_pos rfl, if_neg (fun z => hi ⟨h, z⟩), List.getElem?_eq_none (Nat.le_of_not_lt fun z => hi ⟨h, z⟩)]
    · rw [if_neg e]
theorem wipe_wipe {σ : L2.St} {vs : List Nat} : L2.wipe (L2.wipe σ vs) vs = L2.wipe σ vs := by
  apply List.ext_getElem?
  intro i
  rw [wipe_get, L2.wipe_length, wipe_get]
  split <;> rfl
/-- a target stores nothing but own names -/
def GW (vs : List Nat) (g : TG) : Prop := ∀ (v : V) (σ W : L2.St) (H : Hp) (Q : L2.St → Hp → Prop), L2.wipe σ vs = W → g v σ H Q → g v σ H fun σ2 H2 => L2.wipe σ2 vs = W ∧ Q σ2 H2
def GWs (vs : List Nat) (g : TGs) : Prop := ∀ (v : List V) (σ W : L2.St) (H : Hp) (Q : L2.St → Hp → Prop), L2.wipe σ vs = W → g v σ H Q → g v σ H fun σ2 H2 => L2.wipe σ2 vs = W ∧ Q σ2 H2
theorem gwName {vs : List Nat} {j : Nat} (h : j ∈ vs) : GW vs (gName j) := fun v σ W H Q e q => ⟨by rw [wipe_set h]; exact e, q⟩
theorem gwNil {vs : List Nat} : GWs vs gNil := fun v σ W H Q e q => ⟨q.1, e, q.2⟩
theorem gwCons {vs : List Nat} {g : TG} {gs : TGs} (mono : ∀ v σ H (Q Q' : L2.St → Hp → Prop), (∀ a b, Q a b → Q' a b) → g v σ H Q → g v σ H Q') (a : GW vs g) (b : GWs vs gs) : GWs vs (gCons g gs) := fun v σ W H Q e q => by
  obtain ⟨x, r, rfl, q⟩ := q
  exact ⟨x, r, rfl, mono _ _ _ _ _ (fun σ2 H2 ⟨e2, q2⟩ => b r σ2 W H2 Q e2 q2) (a x σ W H _ e q)⟩
theorem gwConsN {vs : List Nat} {j : Nat} {gs : TGs} (h : j ∈ vs) (b : GWs vs gs) : GWs vs (gCons (gName j) gs) := gwCons (fun _ _ _ _ _ f q => f _ _ q) (gwName h) b
theorem gwTup {vs : List Nat} {n : Nat} {gs : TGs} (b : GWs vs gs) : GW vs (gTup K n gs) := fun v σ W H Q e q => by
  obtain ⟨a, xs, rfl, h1, h2, q⟩ := q
  exact ⟨a, xs, rfl, h1, h2, b xs σ W H Q e q⟩
def dLc (ι : DI) (γ : DG) (θ : DT) (φ : DE) (vs : List Nat) : DE := fun Ψ δ μ Φ => ι Ψ δ μ fun xs μ1 => ∀ p, μ1 p = none → ∃ W : Nat → Sto → Prop, W 0 (sset μ1 p (.lst [])) ∧
  (∀ i d μ2, xs[i]? = some d → W i μ2 → γ d (dwipe δ vs) μ2 fun δ3 μ3 => θ Ψ δ3 μ3 fun b μ4 =>
    (b = true → φ Ψ δ3 μ4 fun y μ5 => ∃ acc, μ5 p = some (.lst acc) ∧ acc.length ≤ 100000 ∧ W (i + 1) (sset μ5 p (.lst (acc ++ [y])))) ∧ (b = false → W (i + 1) μ4)) ∧
  ∀ μ2, W xs.length μ2 → ∃ acc, μ2 p = some (.lst acc) ∧ Φ (.lst acc) (sdel μ2 p)
theorem sLc {wi : TI} {g : TG} {tt : TT} {te : TE} {vs : List Nat} {ι : DI} {γ : DG} {θ : DT} {φ : DE} (a : SI B wi ι) (w : GW vs g) (b : ∀ H1 μ1 e, SG (B.re H1 μ1 e) g γ) (c : ∀ H1 μ1 e, ST (B.re H1 μ1 e) tt θ) (d : ∀ H1 μ1 e, SE (B.re H1 μ1 e) te φ) :
    SE B (tLc wi g tt te vs) (dLc ι γ θ φ vs) := fun σ H δ μ Φ Q S q k =>
  a σ H δ μ _ _ S q fun xs J H1 μ1 S1 e1 it q1 => fun p hp => by
    have hμp : μ1 p = none := S1.sto.fresh hp
    obtain ⟨W, w0, ws, wd⟩ := q1 p hμp
    refine ⟨fun i m H' => m = xs.length - i ∧ i ≤ xs.length ∧ ∃ μ', Evo μ1 H1 μ' H' ∧ StoOk K μ' H' ∧ W i μ', ⟨xs.length, by simp, Nat.zero_le _, _, .newC S1.sto hp, sto_own S1.sto hp .nil, w0⟩, ?_⟩
    rintro i m H' ⟨rfl, hi, μ', e', s', wi'⟩
    by_cases hlt : i < xs.length
    · obtain ⟨hgo, hy⟩ := (it i H' μ' s' e').1 hlt
      refine .inr ⟨hgo, fun H2 => ∃ μ2, Evo μ1 H1 μ2 H2 ∧ StoOk K μ2 H2 ∧ W (i + 1) μ2, fun H2 ⟨μ2, e2, s2, w2⟩ => ⟨xs.length - (i + 1), by omega, rfl, by omega, μ2, e2, s2, w2⟩, fun x H2 y => ?_⟩
      obtain ⟨dd, hd, s2, e2, r2⟩ := hy x H2 y
      have S2 : (B.re H1 μ1 S1.evo).S (L2.wipe σ vs) H2 (dwipe δ vs) μ' := ⟨e'.trans e2, s2, ((S1.env.mono e').mono e2).wipe vs⟩
      refine w x (L2.wipe σ vs) (L2.wipe σ vs) H2 _ wipe_wipe ?_
      refine b H1 μ1 S1.evo x dd (L2.wipe σ vs) H2 (dwipe δ vs) μ' _ _ S2 r2 (ws i dd μ' hd wi') fun σ3 H3 δ3 μ3 S3 e3 q3 => ?_
      refine c H1 μ1 S1.evo σ3 H3 δ3 μ3 _ _ S3 q3 fun b4 H4 μ4 S4 e4 q4 => ?_
      cases b4 with
      | true =>
        rw [if_pos rfl]
        refine d H1 μ1 S1.evo σ3 H4 δ3 μ4 _ _ S4 (q4.1 rfl) fun v5 H5 y5 μ5 S5 e5 r5 q5 => ?_
        obtain ⟨acc, hacc, hz, w5⟩ := q5
        obtain ⟨us, h5, hr5⟩ := S5.sto _ _ hacc
        have e6 : Evo μ5 H5 (sset μ5 p (.lst (acc ++ [y5]))) (upd H5 p (.lst (us ++ [v5]))) := own_evo hacc
        obtain ⟨e7, s7⟩ := own_upd S5.sto hacc ((hr5.append r5).mono e6)
        exact ⟨us, h5, Nat.lt_of_le_of_lt (by rw [hr5.length]; exact hz) (by decide), _, S5.evo.trans e7, s7, w5⟩
      | false =>
        rw [if_neg Bool.false_ne_true]
        exact ⟨μ4, S4.evo, S4.sto, q4.2 rfl⟩
    · have e : i = xs.length := by omega
      subst e
      obtain ⟨acc, hacc, q2⟩ := wd μ' wi'
      obtain ⟨us, h5, hr5⟩ := s' _ _ hacc
      refine .inl ⟨(it _ H' μ' s' e').2 (Nat.le_refl _), ?_⟩
      have e8 : Evo μ1 H1 (sdel μ' p) H' := e'.trans sdel_sub.evo
      exact k (.ref p) H' (.lst acc) (sdel μ' p) (S1.step e8 (sdel_sub.sto s')) (e1.trans e8) (.lst ⟨h5, .of sdel_same⟩ (hr5.mono sdel_sub.evo) .nil) q2
def dYes : DT := fun _ _ μ Φ => Φ true μ
theorem sYes : ST B tYes dYes := fun σ H δ μ Φ Q S q k => k true H μ S .refl q
abbrev Con := List D → Sto → DK → (XD → Sto → Prop) → Prop
def spOf (K : Fg) (c : Con) : Sp := fun vs H Q E => ∃ μ ds Φ Ψ, StoOk K μ H ∧ Reps K μ H vs ds ∧ c ds μ Φ Ψ ∧
  (∀ v H' d μ', Evo μ H μ' H' → StoOk K μ' H' → Rep K μ' H' v d → Φ d μ' → Q v H') ∧
  ∀ cls dd H' x μ', Evo μ H μ' H' → StoOk K μ' H' → RepX K μ' H' cls dd x → Ψ x μ' → E cls dd H'
/-- a call that raises nothing -/
def dCall (c : Con) (ψ : DA) : DE := fun Ψ δ μ Φ => ψ Ψ δ μ fun xs μ1 => c xs μ1 Φ fun _ _ => False
theorem sCall {c : Con} {tas : TA} {ψ : DA} (a : SA B tas ψ) : SE B (tCall (spOf K c) [] E0 tas) (dCall c ψ) := fun σ H δ μ Φ Q S q k =>
  a σ H δ μ _ _ S q fun vs H1 xs μ1 S1 e1 r1 q1 => by
    rw [List.append_nil]
    exact ⟨μ1, xs, Φ, fun _ _ => False, S1.sto, r1, q1, fun v H2 d μ2 e2 s2 r2 q2 => k v H2 d μ2 (S1.step e2 s2) (e1.trans e2) r2 q2, fun _ _ _ _ _ _ _ _ z => z⟩
/-- a call that may raise -/
def dCallS (c : Con) (ψ : DA) : DE := fun Ψ δ μ Φ => ψ Ψ δ μ fun xs μ1 => c xs μ1 Φ fun x μ2 => Ψ x δ μ2
theorem sCallS {c : Con} {tas : TA} {ψ : DA} (a : SA B tas ψ) : SE B (tCallS (spOf K c) (WE B.W) tas) (dCallS c ψ) := fun σ H δ μ Φ Q S q k =>
  a σ H δ μ _ _ S q fun vs H1 xs μ1 S1 e1 r1 q1 =>
    ⟨μ1, xs, Φ, fun x μ2 => B.Ψ x δ μ2, S1.sto, r1, q1, fun v H2 d μ2 e2 s2 r2 q2 => k v H2 d μ2 (S1.step e2 s2) (e1.trans e2) r2 q2, fun cls dd H2 x μ2 e2 s2 r2 q2 => B.hW cls dd σ H2 x δ μ2 (S1.step e2 s2) r2 q2⟩
/-- raise C('..'), a class without own fields -/
def dRaise0 (C : Addr) : DSt := fun Ψ _ δ μ => Ψ (.mk C none) δ μ
theorem sRaise0 {C : Addr} : SS B (fun _ σ H => (fun (_ : L2.St) (H : Hp) (Q : XK) => Q (.ref C) none H) σ H fun cls d H' => B.W cls d σ H') (dRaise0 C) := fun D Δ σ H δ μ E S q => B.hW _ _ σ H (.mk C none) δ μ S ⟨rfl, rfl⟩ q
def dstart (N : List Str) (ds : List D) : DEnv := ds.map some ++ List.replicate (N.length - ds.length) none
theorem env_start {μ : Sto} {H : Hp} {N : List Str} {vs : List V} {ds : List D} (r : Reps K μ H vs ds) : EnvOk K μ H (L2.start N vs) (dstart N ds) := by
  have hl := r.length
  refine ⟨by unfold L2.start dstart; simp [hl], fun i d q => ?_⟩
  unfold dstart at q
  unfold L2.start
  by_cases h : i < ds.length
  · rw [List.getElem?_append_left (by simpa using h), List.getElem?_map] at q
    cases e : ds[i]? with
    | none => rw [e] at q; cases q
    | some y =>
      rw [e] at q
      cases q
      obtain ⟨v, ev, rv⟩ := r.get e
      exact ⟨v, by rw [List.getElem?_append_left (by simpa [hl] using h), List.getElem?_map, ev]; rfl, rv⟩
  · rw [List.getElem?_append_right (by simpa using h), List.getElem?_replicate] at q
    split at q <;> cases q
/-- what a def's body must bring about -/
abbrev goalE (Φ : DK) : DEnds := ⟨fun _ μ' => ∃ μ2, Sub μ2 μ' ∧ Φ .non μ2, fun d μ' => ∃ μ2, Sub μ2 μ' ∧ Φ d μ2, fun _ _ => False, fun _ _ => False⟩
abbrev goalX (Ψ : XD → Sto → Prop) : XP := fun x _ μ' => ∃ μ2, Sub μ2 μ' ∧ Ψ x μ2
theorem RepX.mono {μ μ' : Sto} {H H' : Hp} {cls : Value} {dd : Option Addr} {x : XD} (e : Evo μ H μ' H') (h : RepX K μ H cls dd x) : RepX K μ' H' cls dd x := by
  obtain ⟨C, fs⟩ := x
  cases fs with
  | none => exact h
  | some f =>
    obtain ⟨ns, ds⟩ := f
    obtain ⟨h1, d, us, h2, h3, h4, h5, h6⟩ := h
    exact ⟨h1, d, us, h2, (e.st _ _ h3 h4).1, (e.st _ _ h3 h4).2, h5, h6.mono e⟩
end
end DW
set_option Elab.async false
set_option linter.all false
set_option maxRecDepth 100000
namespace DW
open PySem PySem.Spec L2
section
variable {α : Type} {μ μ' : Sto} {Φ : DK} {i j : Int} {x y : D} {xs ys ds : List D} {δ : DEnv} {Ψ : XP} {Δ : DEnds} {b : Bool} {s t : Str}
theorem ex_some {a : α} {P : α → Prop} : (∃ d, some (some a) = some (some d) ∧ P d) = P a := propext ⟨fun ⟨d, e, p⟩ => by cases e; exact p, fun p => ⟨a, rfl, p⟩⟩
theorem w_I0 {g : Int → Int → D} : oI0 g (.int i) (.int j) μ Φ = Φ (g i j) μ := propext ⟨fun ⟨a, b, e1, e2, q⟩ => by cases e1; cases e2; exact q, fun q => ⟨i, j, rfl, rfl, q⟩⟩
theorem w_I {C : Int → Int → Prop} {g : Int → Int → D} : oI C g (.int i) (.int j) μ Φ = (C i j ∧ Φ (g i j) μ) := propext ⟨fun ⟨a, b, e1, e2, q⟩ => by cases e1; cases e2; exact q, fun q => ⟨i, j, rfl, rfl, q⟩⟩
theorem w_uI {g : Int → Int} : uI g (.int i) μ Φ = Φ (.int (g i)) μ := propext ⟨fun ⟨a, e1, q⟩ => by cases e1; exact q, fun q => ⟨i, rfl, q⟩⟩
theorem w_int : cInt [.int i] μ Φ = Φ (.int i) μ := propext (Iff.intro (by
  rintro ⟨a, q⟩
  rcases q with ⟨e, q⟩ | ⟨_, e, q⟩
  · cases e; exact q
  · cases e) (fun q => ⟨i, .inl ⟨rfl, q⟩⟩))
theorem w_bl {P : Bool → Prop} : (∃ c, D.bl b = .bl c ∧ P c) = P b := propext ⟨fun ⟨c, e, q⟩ => by cases e; exact q, fun q => ⟨b, rfl, q⟩⟩
theorem w_isi {T : String} : cIsi T [x, .hd (.ty T)] μ Φ = ∃ b, instB x T = some b ∧ Φ (.bl b) μ := propext ⟨fun ⟨y, b, e, q⟩ => by cases e; exact ⟨b, q⟩, fun ⟨b, q⟩ => ⟨x, b, rfl, q⟩⟩
theorem w_someb {P : Bool → Prop} : (∃ c, some b = some c ∧ P c) = P b := propext ⟨fun ⟨c, e, q⟩ => by cases e; exact q, fun q => ⟨b, rfl, q⟩⟩
theorem w_eqI : oEq (.int i) (.int j) μ Φ = Φ (.bl (decide (i = j))) μ := w_someb
theorem w_neI : oNe (.int i) (.int j) μ Φ = Φ (.bl (!decide (i = j))) μ := w_someb
theorem w_eqS : oEq (.str s) (.str t) μ Φ = Φ (.bl (decide (s = t))) μ := w_someb
theorem w_neS : oNe (.str s) (.str t) μ Φ = Φ (.bl (!decide (s = t))) μ := w_someb
theorem w_lenT : cLen [.tup ds] μ Φ = Φ (.int ds.length) μ := propext ⟨fun ⟨x, es, e, h, q⟩ => by cases e; cases h; exact q, fun q => ⟨_, _, rfl, .tup ds, q⟩⟩
theorem w_lenL : cLen [.lst ds] μ Φ = Φ (.int ds.length) μ := propext ⟨fun ⟨x, es, e, h, q⟩ => by cases e; cases h; exact q, fun q => ⟨_, _, rfl, .lst ds, q⟩⟩
theorem w_lenS {ns : List Int} : cLen [.scr ns] μ Φ = Φ (.int ns.length) μ := propext ⟨fun ⟨x, es, e, h, q⟩ => by cases e; cases h; rw [List.length_map] at q; exact q, fun q => ⟨_, _, rfl, .scr ns, by rw [List.length_map]; exact q⟩⟩
theorem w_tupL : cTuple [.lst ds] μ Φ = Φ (.tup ds) μ := propext ⟨fun ⟨x, es, e, h, q⟩ => by cases e; cases h; exact q, fun q => ⟨_, _, rfl, .lst ds, q⟩⟩
theorem w_tupT : cTuple [.tup ds] μ Φ = Φ (.tup ds) μ := propext ⟨fun ⟨x, es, e, h, q⟩ => by cases e; cases h; exact q, fun q => ⟨_, _, rfl, .tup ds, q⟩⟩
theorem w_ixT : oIxT (.tup ds) (.int i) μ Φ = ∃ d, atI ds i = some d ∧ Φ d μ := propext ⟨fun ⟨x, es, d, e1, e2, q⟩ => by cases e1; cases e2; exact ⟨d, q⟩, fun ⟨d, q⟩ => ⟨_, _, d, rfl, rfl, q⟩⟩
theorem w_ixL : oIxL (.lst ds) (.int i) μ Φ = ∃ d, atI ds i = some d ∧ Φ d μ := propext ⟨fun ⟨x, es, d, e1, _, e2, q⟩ => by cases e1; cases e2; exact ⟨d, q⟩, fun ⟨d, q⟩ => ⟨_, _, d, .lst ds, rfl, rfl, q⟩⟩
theorem w_ixS {ns : List Int} : oIxL (.scr ns) (.int i) μ Φ = ∃ d, atI (ns.map D.int) i = some d ∧ Φ d μ := propext ⟨fun ⟨x, es, d, e1, _, e2, q⟩ => by cases e1; cases e2; exact ⟨d, q⟩, fun ⟨d, q⟩ => ⟨_, _, d, .scr ns, rfl, rfl, q⟩⟩
theorem w_catT : oCatT (.tup xs) (.tup ys) μ Φ = (xs.length + ys.length ≤ 100000 ∧ Φ (.tup (xs ++ ys)) μ) := propext ⟨fun ⟨x, es, e1, e2, q⟩ => by cases e1; cases e2; exact q, fun q => ⟨_, _, rfl, rfl, q⟩⟩
theorem w_catL : oCatL (.lst xs) (.lst ys) μ Φ = (xs.length + ys.length ≤ 100000 ∧ Φ (.lst (xs ++ ys)) μ) := propext ⟨fun ⟨x, es, e1, e2, q⟩ => by cases e1; cases e2; exact q, fun q => ⟨_, _, rfl, rfl, q⟩⟩
theorem w_all {bs : List Bool} : cAll [.lst (bs.map .bl)] μ Φ = Φ (.bl (bs.all id)) μ := propext (Iff.intro (by
  rintro ⟨cs, e, q⟩
  have e2 : bs = cs := by
    injection e with e _
    injection e with e
    exact (List.map_inj_right (fun _ _ z => by cases z; rfl)).mp e
  subst e2
  exact q) (fun q => ⟨bs, rfl, q⟩))
theorem w_any {bs : List Bool} : cAny [.lst (bs.map .bl)] μ Φ = Φ (.bl (bs.any id)) μ := propext (Iff.intro (by
  rintro ⟨cs, e, q⟩
  have e2 : bs = cs := by
    injection e with e _
    injection e with e
    exact (List.map_inj_right (fun _ _ z => by cases z; rfl)).mp e
  subst e2
  exact q) (fun q => ⟨bs, rfl, q⟩))
theorem w_min2 : cMin2 [.int i, .int j] μ Φ = Φ (.int (if j < i then j else i)) μ := propext ⟨fun ⟨a, b, e, q⟩ => by cases e; exact q, fun q => ⟨_, _, rfl, q⟩⟩
theorem w_divmod : cDivmod [.int i, .int j] μ Φ = (CDivP i j ∧ Φ (.pr [.int (i / j), .int (i % j)]) μ) := propext ⟨fun ⟨a, b, e, q⟩ => by cases e; exact q, fun q => ⟨_, _, rfl, q⟩⟩
theorem w_listS {ns : List Int} : cList [.scr ns] μ Φ = Φ (.lst (ns.map .int)) μ := propext ⟨fun ⟨x, es, e, h, q⟩ => by cases e; cases h; exact q, fun q => ⟨_, _, rfl, .scr ns, q⟩⟩
theorem w_listL : cList [.lst ds] μ Φ = Φ (.lst ds) μ := propext ⟨fun ⟨x, es, e, h, q⟩ => by cases e; cases h; exact q, fun q => ⟨_, _, rfl, .lst ds, q⟩⟩
theorem w_listT : cList [.tup ds] μ Φ = Φ (.lst ds) μ := propext ⟨fun ⟨x, es, e, h, q⟩ => by cases e; cases h; exact q, fun q => ⟨_, _, rfl, .tup ds, q⟩⟩
theorem w_isN {x : D} : oIsN x .non μ Φ = ∃ b, isNone x = some b ∧ Φ (.bl b) μ := propext ⟨fun ⟨_, q⟩ => q, fun q => ⟨rfl, q⟩⟩
theorem w_notN {x : D} : oNotN x .non μ Φ = ∃ b, isNone x = some b ∧ Φ (.bl (!b)) μ := propext ⟨fun ⟨_, q⟩ => q, fun q => ⟨rfl, q⟩⟩
section
variable {φ φa φb φc : DE} {γ : DG} {ω ζ : DSt} {θ ϑ : DT} {ψ : DA} {ρ ρ' : DO} {σ : DU} {κ : DC} {c : Con} {n : Nat} {C : Addr} {d : D} {Th : Bool → Sto → Prop} {Ls : List D → Sto → Prop} {Pn : DEnv → Sto → Prop} {η : List D → DEnv → Sto → (DEnv → Sto → Prop) → Prop} {ol oh : XP → DEnv → Sto → (Option Int → Sto → Prop) → Prop} {Xo : Option Int → Sto → Prop}
theorem u_seq : dSeq ω ζ Ψ Δ δ μ = ω Ψ { Δ with nx := ζ Ψ Δ } δ μ := rfl
theorem u_asg : dAsg φ γ Ψ Δ δ μ = φ Ψ δ μ fun x μ1 => γ x δ μ1 Δ.nx := rfl
theorem u_asgS : dAsgS φ φa φb Ψ Δ δ μ = φ Ψ δ μ fun x μ1 => eSub φa φb Ψ x δ μ1 Δ.nx := rfl
theorem u_ret : dRet φ Ψ Δ δ μ = φ Ψ δ μ Δ.rt := rfl
theorem u_retN : dRetN Ψ Δ δ μ = Δ.rt .non μ := rfl
theorem u_if : dIfS θ ω ζ Ψ Δ δ μ = θ Ψ δ μ fun b μ1 => (b = true → ω Ψ Δ δ μ1) ∧ (b = false → ζ Ψ Δ δ μ1) := rfl
theorem u_next : dNext Ψ Δ δ μ = Δ.nx δ μ := rfl
theorem u_break : dBreak Ψ Δ δ μ = Δ.bk δ μ := rfl
theorem u_cont : dCont Ψ Δ δ μ = Δ.ct δ μ := rfl
theorem u_drop : dDrop φ Ψ Δ δ μ = φ Ψ δ μ fun _ μ1 => Δ.nx δ μ1 := rfl
theorem u_raise : dRaise0 C Ψ Δ δ μ = Ψ (.mk C none) δ μ := rfl
theorem u_aug : dAug n φ ρ Ψ Δ δ μ = ∃ x, δ[n]? = some (some x) ∧ φ Ψ δ μ fun y μ1 => ρ x y μ1 fun z μ2 => Δ.nx (δ.set n (some z)) μ2 := rfl
theorem u_var : dVar n Ψ δ μ Φ = ∃ d, δ[n]? = some (some d) ∧ Φ d μ := rfl
theorem u_rest : dRest n Ψ δ μ Φ = ∃ a ds, δ[n]? = some (some (.hd (.ref a))) ∧ μ a = some (.lst ds) ∧ Φ (.lst ds) (sset μ a (.frz ds)) := rfl
theorem u_c : dC d Ψ δ μ Φ = Φ d μ := rfl
theorem u_op : dOp ρ φa φb Ψ δ μ Φ = φa Ψ δ μ fun x μ1 => φb Ψ δ μ1 fun y μ2 => ρ x y μ2 Φ := rfl
theorem u_un : dUn σ φa Ψ δ μ Φ = φa Ψ δ μ fun x μ1 => σ x μ1 Φ := rfl
theorem u_test : dTest φ Ψ δ μ Th = φ Ψ δ μ fun x μ1 => ∃ b, x = .bl b ∧ Th b μ1 := rfl
theorem u_and : dAnd θ ϑ Ψ δ μ Th = θ Ψ δ μ fun b μ1 => (b = true → ϑ Ψ δ μ1 Th) ∧ (b = false → Th false μ1) := rfl
theorem u_or : dOr θ ϑ Ψ δ μ Th = θ Ψ δ μ fun b μ1 => (b = true → Th true μ1) ∧ (b = false → ϑ Ψ δ μ1 Th) := rfl
theorem u_not : dNot θ Ψ δ μ Th = θ Ψ δ μ fun b μ1 => Th (!b) μ1 := rfl
theorem u_yes : dYes Ψ δ μ Th = Th true μ := rfl
theorem u_andV : dAndV φa φb Ψ δ μ Φ = φa Ψ δ μ fun x μ1 => ∃ b, x = .bl b ∧ (b = true → φb Ψ δ μ1 Φ) ∧ (b = false → Φ (.bl false) μ1) := rfl
theorem u_orV : dOrV φa φb Ψ δ μ Φ = φa Ψ δ μ fun x μ1 => ∃ b, x = .bl b ∧ (b = true → Φ (.bl true) μ1) ∧ (b = false → φb Ψ δ μ1 Φ) := rfl
theorem u_notV : dNotV φa Ψ δ μ Φ = φa Ψ δ μ fun x μ1 => ∃ b, x = .bl b ∧ Φ (.bl (!b)) μ1 := rfl
theorem u_ifE : dIf θ φa φb Ψ δ μ Φ = θ Ψ δ μ fun b μ1 => (b = true → φa Ψ δ μ1 Φ) ∧ (b = false → φb Ψ δ μ1 Φ) := rfl
theorem u_chain : dChain ρ ρ' φa φb φc Ψ δ μ Φ = φa Ψ δ μ fun x μ1 => φb Ψ δ μ1 fun y μ2 => ρ x y μ2 fun z μ3 => ∃ b, z = .bl b ∧ (b = true → φc Ψ δ μ3 fun u μ4 => ρ' y u μ4 Φ) ∧ (b = false → Φ (.bl false) μ3) := rfl
theorem u_nil : dNil Ψ δ μ Ls = Ls [] μ := rfl
theorem u_cons : dCons φ ψ Ψ δ μ Ls = φ Ψ δ μ fun x μ1 => ψ Ψ δ μ1 fun xs μ2 => Ls (x :: xs) μ2 := rfl
theorem u_tup : dTup ψ Ψ δ μ Φ = ψ Ψ δ μ fun xs μ1 => xs.length ≤ 100000 ∧ Φ (.tup xs) μ1 := rfl
theorem u_lst : dLst ψ Ψ δ μ Φ = ψ Ψ δ μ fun xs μ1 => xs.length ≤ 100000 ∧ Φ (.lst xs) μ1 := rfl
theorem u_own : dOwn ψ Ψ δ μ Φ = ψ Ψ δ μ fun xs μ1 => xs.length ≤ 100000 ∧ ∀ p, μ1 p = none → Φ (.hd (.ref p)) (sset μ1 p (.lst xs)) := rfl
theorem u_cb : dCB κ ψ Ψ δ μ Φ = ψ Ψ δ μ fun xs μ1 => κ xs μ1 Φ := rfl
theorem u_call : dCall c ψ Ψ δ μ Φ = ψ Ψ δ μ fun xs μ1 => c xs μ1 Φ fun _ _ => False := rfl
theorem u_callS : dCallS c ψ Ψ δ μ Φ = ψ Ψ δ μ fun xs μ1 => c xs μ1 Φ fun x μ2 => Ψ x δ μ2 := rfl
theorem u_name : eName n d δ μ Pn = Pn (δ.set n (some d)) μ := rfl
theorem u_etup : eTup n η d δ μ Pn = ∃ ds, tpl d = some ds ∧ ds.length = n ∧ η ds δ μ Pn := rfl
theorem w_tplT {P : List D → Prop} : (∃ es, tpl (.tup ds) = some es ∧ P es) = P ds := propext ⟨fun ⟨c, e, q⟩ => by cases e; exact q, fun q => ⟨ds, rfl, q⟩⟩
theorem w_tplP {P : List D → Prop} : (∃ es, tpl (.pr ds) = some es ∧ P es) = P ds := propext ⟨fun ⟨c, e, q⟩ => by cases e; exact q, fun q => ⟨ds, rfl, q⟩⟩
theorem u_enil : eNil xs δ μ Pn = (xs = [] ∧ Pn δ μ) := rfl
theorem u_econs : eCons γ η xs δ μ Pn = ∃ d r, xs = d :: r ∧ γ d δ μ fun δ' μ' => η r δ' μ' Pn := rfl
theorem u_sub : eSub φa φb Ψ d δ μ Pn = φa Ψ δ μ fun x μ1 => φb Ψ δ μ1 fun y μ2 => ∃ a ds i j, x = .hd (.ref a) ∧ y = .int i ∧ μ2 a = some (.lst ds) ∧ ixN ds.length i = some j ∧ Pn δ (sset μ2 a (.lst (ds.set j d))) := rfl
theorem u_app : dApp φa φb Ψ δ μ Φ = φa Ψ δ μ fun x μ1 => ∃ a ds, x = .hd (.ref a) ∧ μ1 a = some (.lst ds) ∧ φb Ψ δ μ1 fun y μ2 => ∃ es, μ2 a = some (.lst es) ∧ es.length ≤ 100000 ∧ Φ .non (sset μ2 a (.lst (es ++ [y]))) := rfl
theorem u_slT : dSlT φ ol oh Ψ δ μ Φ = φ Ψ δ μ fun x μ1 => ol Ψ δ μ1 fun lo μ2 => oh Ψ δ μ2 fun hi μ3 => ∃ ds, x = .tup ds ∧ Φ (.tup (cutD ds lo hi)) μ3 := rfl
theorem u_slL : dSlL φ ol oh Ψ δ μ Φ = φ Ψ δ μ fun x μ1 => ol Ψ δ μ1 fun lo μ2 => oh Ψ δ μ2 fun hi μ3 => ∃ ds, Items μ3 x ds ∧ isTup x = false ∧ Φ (.lst (cutD ds lo hi)) μ3 := rfl
theorem u_noPart : dNoPart Ψ δ μ Xo = Xo none μ := rfl
theorem u_part : dPart φ Ψ δ μ Xo = φ Ψ δ μ fun x μ1 => ∃ i, x = .int i ∧ Xo (some i) μ1 := rfl
theorem u_revL : dRevL φ Ψ δ μ Φ = φ Ψ δ μ fun x μ1 => ∃ ds, Items μ1 x ds ∧ isTup x = false ∧ Φ (.lst ds.reverse) μ1 := rfl
end
theorem w_tupE {P : List D → Prop} : (∃ es, D.tup ds = .tup es ∧ P es) = P ds := propext ⟨fun ⟨c, e, q⟩ => by cases e; exact q, fun q => ⟨ds, rfl, q⟩⟩
theorem w_intE {P : Int → Prop} : (∃ j, D.int i = .int j ∧ P j) = P i := propext ⟨fun ⟨c, e, q⟩ => by cases e; exact q, fun q => ⟨i, rfl, q⟩⟩
theorem w_consE {P : D → List D → Prop} : (∃ d r, x :: xs = d :: r ∧ P d r) = P x xs := propext ⟨fun ⟨c, r, e, q⟩ => by cases e; exact q, fun q => ⟨x, xs, rfl, q⟩⟩
theorem w_hdE {a : Addr} {P : Addr → List D → Prop} : (∃ b es, D.hd (.ref a) = .hd (.ref b) ∧ P b es) = ∃ es, P a es := propext ⟨fun ⟨b, es, e, q⟩ => by cases e; exact ⟨es, q⟩, fun ⟨es, q⟩ => ⟨a, es, rfl, q⟩⟩
theorem w_cell {a : Addr} {P : List D → Prop} (h : μ a = some (.lst ds)) : (∃ es, μ a = some (.lst es) ∧ P es) = P ds := propext ⟨fun ⟨es, e, q⟩ => by rw [h] at e; cases e; exact q, fun q => ⟨ds, h, q⟩⟩
theorem w_cellS {a : Addr} {P : List D → Prop} : (∃ es, sset μ a (.lst ds) a = some (.lst es) ∧ P es) = P ds := w_cell sset_same
theorem w_set {a : Addr} {P' : Addr → List D → Nat → Prop} : (∃ b es k j, D.hd (.ref a) = .hd (.ref b) ∧ D.int i = .int k ∧ μ b = some (.lst es) ∧ ixN es.length k = some j ∧ P' b es j) = (∃ es, μ a = some (.lst es) ∧ ∃ j, ixN es.length i = some j ∧ P' a es j) := propext ⟨fun ⟨b, es, k, j, e1, e2, q1, q2⟩ => by cases e1; cases e2; exact ⟨es, q1, j, q2⟩, fun ⟨es, q1, j, q2⟩ => ⟨a, es, i, j, rfl, rfl, q1, q2⟩⟩
theorem at0 {P : D → Prop} {x0 : D} : (∃ d, atI (x0 :: xs) 0 = some d ∧ P d) = P x0 := propext ⟨fun ⟨d, e, q⟩ => by rw [show (0 : Int) = ((0 : Nat) : Int) from rfl, atI_nat (j := 0) rfl] at e; cases e; exact q, fun q => ⟨x0, atI_nat (j := 0) rfl, q⟩⟩
theorem at1 {P : D → Prop} {x0 x1 : D} : (∃ d, atI (x0 :: x1 :: xs) 1 = some d ∧ P d) = P x1 := propext ⟨fun ⟨d, e, q⟩ => by rw [show (1 : Int) = ((1 : Nat) : Int) from rfl, atI_nat (j := 1) rfl] at e; cases e; exact q, fun q => ⟨x1, atI_nat (j := 1) rfl, q⟩⟩
theorem at2 {P : D → Prop} {x0 x1 x2 : D} : (∃ d, atI (x0 :: x1 :: x2 :: xs) 2 = some d ∧ P d) = P x2 := propext ⟨fun ⟨d, e, q⟩ => by rw [show (2 : Int) = ((2 : Nat) : Int) from rfl, atI_nat (j := 2) rfl] at e; cases e; exact q, fun q => ⟨x2, atI_nat (j := 2) rfl, q⟩⟩
theorem at3 {P : D → Prop} {x0 x1 x2 x3 : D} : (∃ d, atI (x0 :: x1 :: x2 :: x3 :: xs) 3 = some d ∧ P d) = P x3 := propext ⟨fun ⟨d, e, q⟩ => by rw [show (3 : Int) = ((3 : Nat) : Int) from rfl, atI_nat (j := 3) rfl] at e; cases e; exact q, fun q => ⟨x3, atI_nat (j := 3) rfl, q⟩⟩
theorem ix40 {P : Nat → Prop} : (∃ j, ixN 4 0 = some j ∧ P j) = P 0 := propext ⟨fun ⟨j, e, q⟩ => by cases e; exact q, fun q => ⟨0, rfl, q⟩⟩
theorem ix42 {P : Nat → Prop} : (∃ j, ixN 4 2 = some j ∧ P j) = P 2 := propext ⟨fun ⟨j, e, q⟩ => by cases e; exact q, fun q => ⟨2, rfl, q⟩⟩
theorem ix43 {P : Nat → Prop} : (∃ j, ixN 4 3 = some j ∧ P j) = P 3 := propext ⟨fun ⟨j, e, q⟩ => by cases e; exact q, fun q => ⟨3, rfl, q⟩⟩
theorem mapI_get {ws : List Int} {i : Nat} {d : D} (h : (ws.map D.int)[i]? = some d) : ∃ z, ws[i]? = some z ∧ d = .int z := by
  rw [List.getElem?_map] at h
  cases e : ws[i]? with
  | none => rw [e] at h; cases h
  | some z => rw [e] at h; cases h; exact ⟨z, rfl, rfl⟩
theorem v_ixH {a : Addr} : oIxL (.hd (.ref a)) (.int i) μ Φ = ((∃ es, μ a = some (.lst es) ∧ ∃ d, atI es i = some d ∧ Φ d μ) ∨ (∃ es, μ a = some (.frz es) ∧ ∃ d, atI es i = some d ∧ Φ d μ)) := propext (Iff.intro (by
  rintro ⟨es, k, d, hi, _, e, q⟩
  cases e
  cases hi with
  | own h => exact .inl ⟨es, h, d, q⟩
  | frz h => exact .inr ⟨es, h, d, q⟩) (by
  rintro (⟨es, h, d, q⟩ | ⟨es, h, d, q⟩)
  · exact ⟨es, i, d, .own h, rfl, rfl, q⟩
  · exact ⟨es, i, d, .frz h, rfl, rfl, q⟩))
theorem v_items {a : Addr} {P : List D → Prop} : (∃ es, Items μ (.hd (.ref a)) es ∧ P es) = ((∃ es, μ a = some (.lst es) ∧ P es) ∨ (∃ es, μ a = some (.frz es) ∧ P es)) := propext (Iff.intro (by
  rintro ⟨es, hi, q⟩
  cases hi with
  | own h => exact .inl ⟨es, h, q⟩
  | frz h => exact .inr ⟨es, h, q⟩) (by
  rintro (⟨es, h, q⟩ | ⟨es, h, q⟩)
  · exact ⟨es, .own h, q⟩
  · exact ⟨es, .frz h, q⟩))
theorem v_itemsT {P : List D → Prop} : (∃ es, Items μ (.tup ds) es ∧ P es) = P ds := propext ⟨fun ⟨es, h, q⟩ => by cases h; exact q, fun q => ⟨ds, .tup ds, q⟩⟩
theorem v_itemsL {P : List D → Prop} : (∃ es, Items μ (.lst ds) es ∧ P es) = P ds := propext ⟨fun ⟨es, h, q⟩ => by cases h; exact q, fun q => ⟨ds, .lst ds, q⟩⟩
theorem v_itemsS {ns : List Int} {P : List D → Prop} : (∃ es, Items μ (.scr ns) es ∧ P es) = P (ns.map .int) := propext ⟨fun ⟨es, h, q⟩ => by cases h; exact q, fun q => ⟨_, .scr ns, q⟩⟩
theorem v_len : cLen [x] μ Φ = ∃ es, Items μ x es ∧ Φ (.int es.length) μ := propext ⟨fun ⟨y, es, e, h, q⟩ => by cases e; exact ⟨es, h, q⟩, fun ⟨es, h, q⟩ => ⟨x, es, rfl, h, q⟩⟩
theorem v_tuple : cTuple [x] μ Φ = ∃ es, Items μ x es ∧ Φ (.tup es) μ := propext ⟨fun ⟨y, es, e, h, q⟩ => by cases e; exact ⟨es, h, q⟩, fun ⟨es, h, q⟩ => ⟨x, es, rfl, h, q⟩⟩
theorem v_list : cList [x] μ Φ = ∃ es, Items μ x es ∧ Φ (.lst es) μ := propext ⟨fun ⟨y, es, e, h, q⟩ => by cases e; exact ⟨es, h, q⟩, fun ⟨es, h, q⟩ => ⟨x, es, rfl, h, q⟩⟩
theorem v_listOwn : cListOwn [x] μ Φ = ∃ es, Items μ x es ∧ ∀ p, μ p = none → Φ (.hd (.ref p)) (sset μ p (.lst es)) := propext ⟨fun ⟨y, es, e, h, q⟩ => by cases e; exact ⟨es, h, q⟩, fun ⟨es, h, q⟩ => ⟨x, es, rfl, h, q⟩⟩
section
variable {T : String}
theorem i_tT : instB (.tup xs) "tuple" = some true := rfl
theorem i_tI : instB (.tup xs) "int" = some false := rfl
theorem i_tB : instB (.tup xs) "bool" = some false := rfl
theorem i_tS : instB (.tup xs) "str" = some false := rfl
theorem i_nT : instB .non "tuple" = some false := rfl
theorem i_nI : instB .non "int" = some false := rfl
theorem i_nB : instB .non "bool" = some false := rfl
theorem i_nS : instB .non "str" = some false := rfl
theorem i_iT : instB (.int i) "tuple" = some false := rfl
theorem i_iI : instB (.int i) "int" = some true := rfl
theorem i_iB : instB (.int i) "bool" = some false := rfl
theorem i_iS : instB (.int i) "str" = some false := rfl
theorem i_bT : instB (.bl b) "tuple" = some false := rfl
theorem i_bI : instB (.bl b) "int" = some true := rfl
theorem i_bB : instB (.bl b) "bool" = some true := rfl
theorem i_bS : instB (.bl b) "str" = some false := rfl
theorem i_sT : instB (.str s) "tuple" = some false := rfl
theorem i_sI : instB (.str s) "int" = some false := rfl
theorem i_sB : instB (.str s) "bool" = some false := rfl
theorem i_sS : instB (.str s) "str" = some true := rfl
end
theorem w_eqB {c : Bool} : oEq (.bl b) (.bl c) μ Φ = Φ (.bl (decide (b = c))) μ := w_someb
/-- the turns of a comprehension that changes nothing -/
def givenD (n : Nat) (f : Nat → Bool) (v : Nat → D) : List D := ((List.range n).filter f).map v
theorem givenD_yes {n : Nat} {f : Nat → Bool} {v : Nat → D} (h : f n = true) : givenD (n + 1) f v = givenD n f v ++ [v n] := by
  unfold givenD
  rw [List.range_succ, List.filter_append, List.map_append, List.filter_cons, if_pos h] <;> rfl
theorem givenD_no {n : Nat} {f : Nat → Bool} {v : Nat → D} (h : f n = false) : givenD (n + 1) f v = givenD n f v := by
  unfold givenD
  rw [List.range_succ, List.filter_append, List.map_append, List.filter_cons, if_neg (by rw [h]; decide)]
  exact List.append_nil _
theorem givenD_len (n : Nat) (f : Nat → Bool) (v : Nat → D) : (givenD n f v).length ≤ n := by
  unfold givenD
  rw [List.length_map]
  have h := List.length_filter_le f (List.range n)
  rw [List.length_range] at h
  exact h
theorem givenD_all (n : Nat) (v : Nat → D) : givenD n (fun _ => true) v = (List.range n).map v := by
  unfold givenD
  rw [List.filter_eq_self.mpr fun _ _ => rfl]
theorem lc_go {γ : DG} {θ : DT} {φ : DE} {δw : DEnv} {μ1 : Sto} {xs : List D} (f : Nat → Bool) (v : Nat → D) (hz : xs.length ≤ 100000)
    (hs : ∀ (i : Nat) (d : D) (μ2 : Sto) (X : DK) (Y : Sto → Prop), xs[i]? = some d → Sub μ1 μ2 → (f i = true → X (v i) μ2) → (f i = false → Y μ2) →
      γ d δw μ2 fun δ3 μ3 => θ Ψ δ3 μ3 fun b μ4 => (b = true → φ Ψ δ3 μ4 X) ∧ (b = false → Y μ4))
    (hd : Φ (.lst (givenD xs.length f v)) μ1) : ∀ p, μ1 p = none → ∃ W : Nat → Sto → Prop, W 0 (sset μ1 p (.lst [])) ∧
  (∀ i d μ2, xs[i]? = some d → W i μ2 → γ d δw μ2 fun δ3 μ3 => θ Ψ δ3 μ3 fun b μ4 =>
    (b = true → φ Ψ δ3 μ4 fun y μ5 => ∃ acc, μ5 p = some (.lst acc) ∧ acc.length ≤ 100000 ∧ W (i + 1) (sset μ5 p (.lst (acc ++ [y])))) ∧ (b = false → W (i + 1) μ4)) ∧
  ∀ μ2, W xs.length μ2 → ∃ acc, μ2 p = some (.lst acc) ∧ Φ (.lst acc) (sdel μ2 p) := fun p hp => by
  refine ⟨fun i μ' => μ' = sset μ1 p (.lst (givenD i f v)), rfl, fun i d μ2 hi e => ?_, fun μ2 e => ?_⟩
  · subst e
    have hl : i < xs.length := (List.getElem?_eq_some_iff.mp hi).1
    refine hs i d _ _ _ hi (.set Sub.refl hp) (fun hf => ⟨_, sset_same, ?_, ?_⟩) fun hf => ?_
    · have := givenD_len i f v; omega
    · show sset (sset μ1 p (.lst (givenD i f v))) p (.lst (givenD i f v ++ [v i])) = sset μ1 p (.lst (givenD (i + 1) f v))
      rw [sset_sset, givenD_yes hf]
    · show sset μ1 p (.lst (givenD i f v)) = sset μ1 p (.lst (givenD (i + 1) f v))
      rw [givenD_no hf]
  · subst e
    refine ⟨_, sset_same, ?_⟩
    rw [sdel_sset hp]
    exact hd
/-- the same, by the items -/
theorem givenD_items (f : D → Bool) (v : D → D) : ∀ xs : List D, givenD xs.length (fun i => f (xs.getD i .non)) (fun i => v (xs.getD i .non)) = (xs.filter f).map v
  | xs => by
    have h : ∀ n, n ≤ xs.length → givenD n (fun i => f (xs.getD i .non)) (fun i => v (xs.getD i .non)) = ((xs.take n).filter f).map v := by
      intro n
      induction n with
      | zero => intro _; rfl
      | succ n ih =>
        intro hn
        have hl : n < xs.length := by omega
        have e : xs.getD n .non = xs[n] := by rw [List.getD_eq_getElem?_getD, List.getElem?_eq_getElem hl]; rfl
        rw [List.take_add_one, List.getElem?_eq_getElem hl, List.filter_append, List.map_append, ← ih (by omega)]
        by_cases c : f xs[n] = true
        · rw [givenD_yes (by rw [e]; exact c), e]
          simp [c]
        · have c' : f xs[n] = false := by simpa using c
          rw [givenD_no (by rw [e]; exact c')]
          simp [c']
    have := h xs.length (Nat.le_refl _)
    rw [List.take_length] at this
    exact this
theorem lc_items {γ : DG} {θ : DT} {φ : DE} {δw : DEnv} {μ1 : Sto} {xs : List D} (f : D → Bool) (v : D → D) (hz : xs.length ≤ 100000)
    (hs : ∀ (d : D) (μ2 : Sto) (X : DK) (Y : Sto → Prop), d ∈ xs → Sub μ1 μ2 → (f d = true → X (v d) μ2) → (f d = false → Y μ2) →
      γ d δw μ2 fun δ3 μ3 => θ Ψ δ3 μ3 fun b μ4 => (b = true → φ Ψ δ3 μ4 X) ∧ (b = false → Y μ4))
    (hd : Φ (.lst ((xs.filter f).map v)) μ1) : ∀ p, μ1 p = none → ∃ W : Nat → Sto → Prop, W 0 (sset μ1 p (.lst [])) ∧
  (∀ i d μ2, xs[i]? = some d → W i μ2 → γ d δw μ2 fun δ3 μ3 => θ Ψ δ3 μ3 fun b μ4 =>
    (b = true → φ Ψ δ3 μ4 fun y μ5 => ∃ acc, μ5 p = some (.lst acc) ∧ acc.length ≤ 100000 ∧ W (i + 1) (sset μ5 p (.lst (acc ++ [y])))) ∧ (b = false → W (i + 1) μ4)) ∧
  ∀ μ2, W xs.length μ2 → ∃ acc, μ2 p = some (.lst acc) ∧ Φ (.lst acc) (sdel μ2 p) := by
  refine lc_go (fun i => f (xs.getD i .non)) (fun i => v (xs.getD i .non)) hz (fun i d μ2 X Y hi hsub hx hy => ?_) (by rw [givenD_items]; exact hd)
  have e : xs.getD i .non = d := by rw [List.getD_eq_getElem?_getD, hi]; rfl
  rw [e] at hx hy
  exact hs d μ2 X Y (List.mem_of_getElem? hi) hsub hx hy
/-- the list of a comprehension -/
def LcG (γ : DG) (θ : DT) (φ : DE) (δw : DEnv) (Ψ : XP) (xs : List D) (μ1 : Sto) (Φ : DK) : Prop := ∀ p, μ1 p = none → ∃ W : Nat → Sto → Prop, W 0 (sset μ1 p (.lst [])) ∧
  (∀ i d μ2, xs[i]? = some d → W i μ2 → γ d δw μ2 fun δ3 μ3 => θ Ψ δ3 μ3 fun b μ4 =>
    (b = true → φ Ψ δ3 μ4 fun y μ5 => ∃ acc, μ5 p = some (.lst acc) ∧ acc.length ≤ 100000 ∧ W (i + 1) (sset μ5 p (.lst (acc ++ [y])))) ∧ (b = false → W (i + 1) μ4)) ∧
  ∀ μ2, W xs.length μ2 → ∃ acc, μ2 p = some (.lst acc) ∧ Φ (.lst acc) (sdel μ2 p)
theorem u_lc {ι : DI} {γ : DG} {θ : DT} {φ : DE} {vs : List Nat} : dLc ι γ θ φ vs Ψ δ μ Φ = ι Ψ δ μ fun xs μ1 => LcG γ θ φ (dwipe δ vs) Ψ xs μ1 Φ := rfl
theorem lcG_pure {γ : DG} {θ : DT} {φ : DE} {δw : DEnv} {μ1 : Sto} {xs : List D} (f : Nat → Bool) (v : Nat → D) (hz : xs.length ≤ 100000)
    (hs : ∀ (i : Nat) (d : D) (μ2 : Sto) (X : DK) (Y : Sto → Prop), xs[i]? = some d → Sub μ1 μ2 → (f i = true → X (v i) μ2) → (f i = false → Y μ2) →
      γ d δw μ2 fun δ3 μ3 => θ Ψ δ3 μ3 fun b μ4 => (b = true → φ Ψ δ3 μ4 X) ∧ (b = false → Y μ4))
    (hd : Φ (.lst (givenD xs.length f v)) μ1) : LcG γ θ φ δw Ψ xs μ1 Φ := lc_go f v hz hs hd
/-- each item gives one -/
theorem lcG_map {γ : DG} {φ : DE} {δw : DEnv} {μ1 : Sto} {xs : List D} (v : Nat → D) (hz : xs.length ≤ 100000)
    (hs : ∀ (i : Nat) (d : D) (μ2 : Sto) (X : DK), xs[i]? = some d → Sub μ1 μ2 → X (v i) μ2 → γ d δw μ2 fun δ3 μ3 => φ Ψ δ3 μ3 X)
    (hd : Φ (.lst ((List.range xs.length).map v)) μ1) (mono : ∀ d δ μ (P Q : DEnv → Sto → Prop), (∀ a b, P a b → Q a b) → γ d δ μ P → γ d δ μ Q) : LcG γ dYes φ δw Ψ xs μ1 Φ := by
  refine lcG_pure (fun _ => true) v hz (fun i d μ2 X Y hi hsub hx hy => ?_) (by rw [givenD_all]; exact hd)
  exact mono _ _ _ _ _ (fun δ3 μ3 h => ⟨fun _ => h, fun z => nomatch z⟩) (hs i d μ2 X hi hsub (hx rfl))
theorem lcG_mapN {n : Nat} {φ : DE} {δw : DEnv} {μ1 : Sto} {xs : List D} (v : Nat → D) (hz : xs.length ≤ 100000)
    (hs : ∀ (i : Nat) (d : D) (μ2 : Sto) (X : DK), xs[i]? = some d → Sub μ1 μ2 → X (v i) μ2 → φ Ψ (δw.set n (some d)) μ2 X)
    (hd : Φ (.lst ((List.range xs.length).map v)) μ1) : LcG (eName n) dYes φ δw Ψ xs μ1 Φ :=
  lcG_map v hz hs hd fun d δ μ P Q h q => h _ _ q
theorem u_for {ι : DI} {γ : DG} {ω : DSt} : dFor ι γ ω Ψ Δ δ μ = ι Ψ δ μ fun xs μ1 => ∃ W : Nat → DEnv → Sto → Prop, W 0 δ μ1 ∧
  (∀ i d δ' μ', xs[i]? = some d → W i δ' μ' → γ d δ' μ' fun δ2 μ2 => ω Ψ { Δ with nx := W (i + 1), ct := W (i + 1), bk := Δ.nx } δ2 μ2) ∧ ∀ δ' μ', W xs.length δ' μ' → Δ.nx δ' μ' := rfl
section
variable {φ φ' : DE} {Ls : List D → Sto → Prop}
theorem u_iT : iSeqT φ Ψ δ μ Ls = φ Ψ δ μ fun x μ1 => ∃ ds, x = .tup ds ∧ Ls ds μ1 := rfl
theorem u_iL : iSeqL φ Ψ δ μ Ls = φ Ψ δ μ fun x μ1 => ∃ ds, x = .lst ds ∧ Ls ds μ1 := rfl
theorem u_iR1 : iR1 φ Ψ δ μ Ls = φ Ψ δ μ fun x μ1 => ∃ j, x = .int j ∧ j < 4611686018427387904 ∧ -4611686018427387904 ≤ j ∧ Ls (rngD 0 j.toNat) μ1 := rfl
theorem u_iR2 : iR2 φ φ' Ψ δ μ Ls = φ Ψ δ μ fun x μ1 => φ' Ψ δ μ1 fun y μ2 => ∃ i j, x = .int i ∧ y = .int j ∧ (-4611686018427387904 ≤ i ∧ i < 4611686018427387904 ∧ -4611686018427387904 ≤ j ∧ j < 4611686018427387904) ∧ Ls (rngD i (j - i).toNat) μ2 := rfl
theorem u_iZ : iZipT φ φ' Ψ δ μ Ls = φ Ψ δ μ fun x μ1 => φ' Ψ δ μ1 fun y μ2 => ∃ xs ys, x = .tup xs ∧ y = .tup ys ∧ Ls ((xs.zip ys).map fun p => .pr [p.1, p.2]) μ2 := rfl
theorem u_iS : iText φ Ψ δ μ Ls = φ Ψ δ μ fun x μ1 => ∃ s, x = .str s ∧ Ls (s.cps.toList.map fun c => .str ⟨#[c]⟩) μ1 := rfl
end
theorem w_lstE {P : List D → Prop} : (∃ es, D.lst ds = .lst es ∧ P es) = P ds := propext ⟨fun ⟨c, e, q⟩ => by cases e; exact q, fun q => ⟨ds, rfl, q⟩⟩
theorem rngD_get {lo : Int} {n i : Nat} {d : D} (h : (rngD lo n)[i]? = some d) : i < n ∧ d = .int (lo + (i : Int)) := by
  have hl := (List.getElem?_eq_some_iff.mp h).1
  rw [rngD_len] at hl
  rw [rngD_at hl] at h
  cases h
  exact ⟨hl, rfl⟩
theorem w_allB {P : List Bool} (e : ds = P.map .bl) (h : Φ (.bl (P.all id)) μ) : cAll [.lst ds] μ Φ := ⟨P, by rw [e], h⟩
/-- one statement, what follows named -/
theorem q_seq {ω ζ : DSt} (h : ∀ nx, nx = ζ Ψ Δ → ω Ψ ⟨nx, Δ.rt, Δ.bk, Δ.ct⟩ δ μ) : dSeq ω ζ Ψ Δ δ μ := h _ rfl
theorem atI_n {α : Type} {xs : List α} {j : Nat} {v : α} (h : xs[j]? = some v) : atI xs (j : Int) = some v := atI_nat h
theorem ret_same {Φ : DK} {d : D} {μ : Sto} (h : Φ d μ) : ∃ μ2, Sub μ2 μ ∧ Φ d μ2 := ⟨μ, Sub.refl, h⟩
theorem mulx (a b : Nat) (h1 : i.natAbs < 2 ^ a) (h2 : j.natAbs < 2 ^ b) (h : a + b ≤ 134217728) : CMulX i j := mulx_ok h1 h2 h
end
end DW
set_option Elab.async false
set_option linter.all false
set_option maxRecDepth 100000
set_option maxHeartbeats 4000000
namespace DW
open PySem PySem.Spec PyProof.Rows L2 HT
def dRevT (φ : DE) : DE := fun Ψ δ μ Φ => φ Ψ δ μ fun x μ1 => ∃ ds, x = .tup ds ∧ Φ (.tup ds.reverse) μ1
theorem tuple_mul1 (l : Addr) (items : Array Value) (n : Nat) (sl : Array (Option Value)) (dd : Option Addr) (x : Int) (u : Tok) (c0 : (decide (x < -(2 ^ 63)) || decide (x ≥ 2 ^ 63)) = false) (c1 : (items.isEmpty || x == 1) = true) :
    Meets (Builtin.«tuple.__mul__» ⟨[.ref l, .int x u], []⟩) (fun _ R s => s.heap.get? l = some { cls := .type "tuple", dict := dd, data := .seq items n, slots := sl } ∧ R (.ok (.ret (Value.ref l))) s) :=
  .of_wp fun prog w A R s h => by
    obtain ⟨hp, g, d, tk, os⟩ := s
    obtain ⟨hl, h⟩ := h
    have f1 := AutoSeq1.idx_int
    wp_walk using wpAny_loadPart' hl
    repeat (first
      | (refine wpAny_ite_false (decide_eq_false (by rw [c0]; exact Bool.false_ne_true)) ?_; wp_walk using wpAny_loadPart' hl)
      | (refine wpAny_ite_true (decide_eq_true (by rw [c1])) ?_; wp_walk using wpAny_loadPart' hl))
    exact ⟨_, rfl, h⟩
theorem tuple_mul0 (l : Addr) (items : Array Value) (n : Nat) (sl : Array (Option Value)) (dd : Option Addr) (x : Int) (u : Tok) (c0 : (decide (x < -(2 ^ 63)) || decide (x ≥ 2 ^ 63)) = false) (c1 : (items.isEmpty || x == 1) = false) (c2 : (decide (x ≤ 0) || items.isEmpty) = true) :
    Meets (Builtin.«tuple.__mul__» ⟨[.ref l, .int x u], []⟩) (fun _ R s => s.heap.get? l = some { cls := .type "tuple", dict := dd, data := .seq items n, slots := sl } ∧
      R (.ok (.ret (Value.ref s.heap.objs.size))) { s with heap := s.heap.push { cls := Value.type "tuple", data := Data.seq #[] }, toks := s.toks }) :=
  .of_wp fun prog w A R s h => by
    obtain ⟨hp, g, d, tk, os⟩ := s
    obtain ⟨hl, h⟩ := h
    have f1 := AutoSeq1.idx_int
    wp_walk using wpAny_loadPart' hl
    repeat (first
      | (refine wpAny_ite_false (decide_eq_false (by rw [c0]; exact Bool.false_ne_true)) ?_; wp_walk using wpAny_loadPart' hl)
      | (refine wpAny_ite_false (decide_eq_false (by rw [c1]; exact Bool.false_ne_true)) ?_; wp_walk using wpAny_loadPart' hl)
      | (refine wpAny_ite_true (decide_eq_true (by rw [c2])) ?_; wp_walk using wpAny_loadPart' hl))
    exact ⟨_, rfl, h⟩
def rRepBig (K : Fg) : R2 := fun x y H Q => ∃ l k xs, x = .ref l ∧ y = .int k ∧ SqT K H l xs ∧ xs ≠ [] ∧ 2 ≤ k ∧ k ≤ 1000 ∧ xs.length ≤ 1000 ∧ NewT H (List.replicate k.toNat xs).flatten Q
theorem op_repBig {X : Cx} : OpR X (binaryOp .Mult) (rRepBig X.K) := by
  intro pins s σ H x y v u Q I rx ry h
  obtain ⟨l, k, xs, rfl, rfl, hT, hne, g2, g3, hz, q⟩ := h
  cases rx
  obtain ⟨t, rfl⟩ := ry
  obtain ⟨its, r, ⟨⟨cls, dd, data, sl⟩, ho, hc, n, hd⟩, hs⟩ := I.tuple hT
  simp only at hc hd
  subst hc hd
  have many : its.length = xs.length := r.length.symm
  have some' : its.toArray.isEmpty = false := by
    cases its with
    | nil => exact absurd (List.eq_nil_of_length_eq_zero (l := xs) (by simpa using many.symm)) hne
    | cons a b => rfl
  have wide : (its.toArray.size : Int) * k ≤ 1000000 := by
    have z : ((xs.length : Nat) : Int) * k ≤ 1000 * k := Int.mul_le_mul_of_nonneg_right (by omega) (by omega)
    rw [List.size_toArray, many]; omega
  have fl : (List.replicate k.toNat xs).flatten.length ≤ sizeLine := by
    have z : k.toNat * xs.length ≤ 1000 * 1000 := Nat.mul_le_mul (by omega) hz
    rw [PyProof.Rows.lm_len_rep_flat, sizeLine_eq]; omega
  have fl2 : (List.replicate k.toNat its).flatten.length ≤ sizeLine := by rw [PyProof.Rows.lm_len_rep_flat, many, ← PyProof.Rows.lm_len_rep_flat]; exact fl
  have z0 : (decide (k < -(2 ^ 63)) || decide (k ≥ 2 ^ 63)) = false := by rw [decide_eq_false (by omega), decide_eq_false (by omega)]; rfl
  have z1 : (its.toArray.isEmpty || k == 1) = false := by rw [some', Bool.false_or]; exact beq_eq_false_iff_ne.mpr (by omega)
  have z2 : (decide (k ≤ 0) || its.toArray.isEmpty) = false := by rw [some', Bool.or_false]; exact decide_eq_false (by omega)
  have z4 : Builtin.Tuple.tupleTooMany ((its.toArray.size : Int) * k) = false := by unfold Builtin.Tuple.tupleTooMany; rw [sizeLine_eq]; exact decide_eq_false (by omega)
  have mul := tuple_mulW l its.toArray n dd sl k t z0 z1 z2 (by omega) z4 (by rw [size_rep, List.size_toArray]; exact fl2)
  have one : s.TypeIs (.ref l) "tuple" := ⟨_, ho, rfl⟩
  refine wpAny_binaryOp_repeat_ref (T := "tuple") (U := "int") (by decide) one (fun s' => typeIs_int s' k t) noFill_tuple_mul F.fills_int_mul F.slot_int_rmul repeat_tuple F.slot_int_index.lookup ?_
  refine call_meets F.slot_int_rmul (typeIs_int s k t) F.entry_int_rmul (F.args_int_rmul_2 _ _) (int_rmul_tuple k t l its.toArray n dd sl) ⟨ho, rfl, one, ?_⟩
  refine call_meets F.slot_tuple_mul one F.entry_tuple_mul (F.args_tuple_mul_2 _ _) mul ⟨ho, ?_⟩
  rw [size_rep]
  exact new_tup I fl (r.rep k.toNat) q
def rRepA (K : Fg) : R2 := fun x y H Q => ∃ l k xs, x = .ref l ∧ y = .int k ∧ SqT K H l xs ∧ k ≤ 1000 ∧ -1000000 ≤ k ∧ xs.length ≤ 1000 ∧ (xs = [] ∨ k = 1 → Q (.ref l) H) ∧ (xs ≠ [] → k ≤ 0 → NewT H [] Q) ∧
  (xs ≠ [] → 2 ≤ k → NewT H (List.replicate k.toNat xs).flatten Q)
theorem op_repA {X : Cx} : OpR X (binaryOp .Mult) (rRepA X.K) := by
  intro pins s σ H x y v u Q I rx ry h
  obtain ⟨l, k, xs, ex, ey, hT, h1, h2, hz, q1, q2, q3⟩ := h
  by_cases hbig : xs ≠ [] ∧ 2 ≤ k
  · exact op_repBig pins s σ H _ _ v u Q I rx ry ⟨l, k, xs, ex, ey, hT, hbig.1, hbig.2, h1, hz, q3 hbig.1 hbig.2⟩
  · subst ex ey
    cases rx
    obtain ⟨t, rfl⟩ := ry
    obtain ⟨its, r, ⟨⟨cls, dd, data, sl⟩, ho, hc, n, hd⟩, hs⟩ := I.tuple hT
    simp only at hc hd
    subst hc hd
    have hle : its.length = xs.length := r.length.symm
    have c0 : (decide (k < -(2 ^ 63)) || decide (k ≥ 2 ^ 63)) = false := by
      rw [decide_eq_false (by omega), decide_eq_false (by omega)] <;> rfl
    have hemp : its.toArray.isEmpty = decide (xs = []) := by
      cases its with
      | nil => rw [List.eq_nil_of_length_eq_zero (l := xs) (by simpa using hle.symm)]; rfl
      | cons a b =>
        have : xs ≠ [] := fun z => by rw [z] at hle; simp at hle
        rw [decide_eq_false this]; rfl
    by_cases hs1 : xs = [] ∨ k = 1
    · have c1 : (its.toArray.isEmpty || k == 1) = true := by
        rw [hemp]
        rcases hs1 with z | z
        · rw [decide_eq_true z]; rfl
        · rw [z]; simp
      refine wpAny_binaryOp_repeat_ref (T := "tuple") (U := "int") (by decide) ⟨_, ho, rfl⟩ (fun s' => typeIs_int s' k t) noFill_tuple_mul F.fills_int_mul F.slot_int_rmul repeat_tuple F.slot_int_index.lookup
        (call_meets F.slot_int_rmul (typeIs_int s k t) F.entry_int_rmul (F.args_int_rmul_2 _ _) (int_rmul_tuple k t l its.toArray n dd sl)
          ⟨ho, rfl, ⟨_, ho, rfl⟩, call_meets F.slot_tuple_mul ⟨_, ho, rfl⟩ F.entry_tuple_mul (F.args_tuple_mul_2 _ _) (tuple_mul1 l its.toArray n sl dd k t c0 c1) ⟨ho, ?_⟩⟩)
      exact ⟨.ref l, H, I, rfl, q1 hs1⟩
    · have hx : xs ≠ [] := fun z => hs1 (.inl z)
      have hk : k ≤ 0 := by
        have : ¬ 2 ≤ k := fun z => hbig ⟨hx, z⟩
        have : k ≠ 1 := fun z => hs1 (.inr z)
        omega
      have c1 : (its.toArray.isEmpty || k == 1) = false := by
        rw [hemp, decide_eq_false hx, Bool.false_or]
        exact beq_eq_false_iff_ne.mpr (by omega)
      have c2 : (decide (k ≤ 0) || its.toArray.isEmpty) = true := by rw [decide_eq_true hk]; rfl
      refine wpAny_binaryOp_repeat_ref (T := "tuple") (U := "int") (by decide) ⟨_, ho, rfl⟩ (fun s' => typeIs_int s' k t) noFill_tuple_mul F.fills_int_mul F.slot_int_rmul repeat_tuple F.slot_int_index.lookup
        (call_meets F.slot_int_rmul (typeIs_int s k t) F.entry_int_rmul (F.args_int_rmul_2 _ _) (int_rmul_tuple k t l its.toArray n dd sl)
          ⟨ho, rfl, ⟨_, ho, rfl⟩, call_meets F.slot_tuple_mul ⟨_, ho, rfl⟩ F.entry_tuple_mul (F.args_tuple_mul_2 _ _) (tuple_mul0 l its.toArray n sl dd k t c0 c1 c2) ⟨ho, ?_⟩⟩)
      exact new_tup (its := []) I (by decide) .nil (q2 hx hk)
def oRepT : DO := fun x y μ Φ => ∃ ds k, x = .tup ds ∧ y = .int k ∧ k ≤ 1000 ∧ -1000000 ≤ k ∧ ds.length ≤ 1000 ∧ Φ (.tup (List.replicate k.toNat ds).flatten) μ
theorem roRepT {K : Fg} : RO K (rRepA K) oRepT := fun H μ v w d e Φ Q s0 r1 r2 h k => by
  obtain ⟨ds, i, rfl, rfl, h1, h2, h3, q⟩ := h
  obtain ⟨p, vs, rfl, t1, t2⟩ := Rep.tup_inv r1
  obtain rfl := Rep.int_inv r2
  have hl := t2.length
  have nil : vs = [] → ds = [] := fun z => by rw [z] at hl; exact List.eq_nil_of_length_eq_zero hl.symm
  have rnil : ∀ n, (List.replicate n ([] : List D)).flatten = [] := fun n => by induction n <;> simp_all [List.replicate_succ]
  refine ⟨p, i, vs, rfl, rfl, t1.sq, h1, h2, by omega, fun z => ?_, fun z z2 q0 o ho hc hp => ?_, fun z z2 q0 o ho hc hp => ?_⟩
  · refine k _ H _ μ .refl s0 ?_ q
    have e : (List.replicate i.toNat ds).flatten = ds := by
      rcases z with z | z
      · rw [nil z, rnil]
      · subst z; simp
    rw [e]
    exact r1
  · refine k _ _ _ μ (.new hp) (s0.new hp) ?_ q
    have e : i.toNat = 0 := by omega
    rw [e]
    exact rep_tupN s0 hp ho hc .nil
  · exact k _ _ _ μ (.new hp) (s0.new hp) (rep_tupN s0 hp ho hc (reps_rep t2 _)) q
end DW
set_option Elab.async false
set_option linter.all false
set_option maxRecDepth 100000
set_option maxHeartbeats 4000000
namespace DW
open PySem PySem.Spec PyProof.Rows L2 GenW
end DW
set_option Elab.async false
set_option linter.all false
set_option maxRecDepth 100000
set_option maxHeartbeats 4000000
namespace DW
open PySem PySem.Spec PyProof.Rows L2 HotX
def kitD (K : Fg) : XD → V → Option Bool
  | .mk C none, .ref T => PySem.W.kitOne K (.ref C) (.ref T)
  | .mk C none, .ty T => PySem.W.kitOne K (.ref C) (.type T)
  | _, _ => none
def excOk (K : Fg) : XD → Prop
  | .mk C none => L2.ExcC K C
  | _ => False
def cIsX (K : Fg) (a : Addr) (x : XD) : DC := fun xs μ Φ => ∃ c b, xs = [.hd (.ref a), .hd c] ∧ kitD K x c = some b ∧ excOk K x ∧ Φ (.bl b) μ
section
variable {K : Fg} {B : Bx K}
theorem sCallSW {W : WX} {c : Con} {tas : TA} {ψ : DA} (hW : B.W = W) (a : SA B tas ψ) : SE B (tCallS (spOf K c) (WE W) tas) (dCallS c ψ) := by
  subst hW; exact sCallS a
theorem sRaise0W {W : WX} {C : Addr} (hW : B.W = W) : SS B (fun _ σ H => (fun (_ : L2.St) (H : Hp) (Q : XK) => Q (.ref C) none H) σ H fun cls d H' => W cls d σ H') (dRaise0 C) := by
  subst hW; exact sRaise0
def dTryAs (K : Fg) (c : Value) (i : Nat) (ω : DSt) (ζ : Addr → XD → DSt) : DSt := fun Ψ Δ δ μ => ω (fun x δ' μ' => ∃ b, (match x with | .mk D _ => PySem.W.exmOne K (.ref D) c) = some b ∧
  (b = true → ∀ a, μ' a = none → ζ a x Ψ ⟨fun δ2 μ2 => Δ.nx (δ2.set i none) μ2, Δ.rt, fun δ2 μ2 => Δ.bk (δ2.set i none) μ2, fun δ2 μ2 => Δ.ct (δ2.set i none) μ2⟩ (δ'.set i (some (.hd (.ref a)))) μ') ∧ (b = false → Ψ x δ' μ')) Δ δ μ
theorem sTryAs {c : Value} {i : Nat} {W : WX} {tb : WX → TS} {ts : Addr → Value → Option Addr → TS} {ω : DSt} {ζ : Addr → XD → DSt} (hW : B.W = W) (hb : ∀ (W' : WX) (B' : Bx K), B'.W = W' → SS B' (tb W') ω)
    (hs : ∀ (a : Addr) (cls : Value) (dd : Option Addr) (x : XD) (B' : Bx K), B'.W = W → RepX K B'.μ0 B'.H0 cls dd x → SS B' (ts a cls dd) (ζ a x)) :
    SS B (fun D σ H => tb (wAs K c i ts W D) D σ H) (dTryAs K c i ω ζ) := fun D Δ σ H δ μ E S q => by
  subst hW
  refine hb _ ⟨B.H0, B.μ0, wAs K c i ts B.W D, _, fun cls dd σ1 H1 x δ1 μ1 S1 rx q1 => ?_⟩ rfl D Δ σ H δ μ ⟨E.nx, E.rt, E.bk, E.ct⟩ S q
  obtain ⟨b, e1, hy, hn⟩ := q1
  have ec : ∃ C fs, x = .mk C fs ∧ cls = .ref C := by
    obtain ⟨C, fs⟩ := x
    cases fs with
    | none => exact ⟨C, _, rfl, rx.1⟩
    | some f => exact ⟨C, _, rfl, rx.1⟩
  obtain ⟨C, fs, rfl, rfl⟩ := ec
  refine ⟨b, e1, fun hb1 a ha => ?_, fun hb1 => B.hW _ _ σ1 H1 _ δ1 μ1 S1 rx (hn hb1)⟩
  have hfr := S1.sto.fresh ha
  refine hs a (.ref C) dd (.mk C fs) (B.re H1 μ1 S1.evo) rfl rx _ _ _ H1 _ μ1 ⟨fun σ2 H2 δ2 μ2 S2 q2 => ?_, fun v H2 d μ2 σ2 δ2 S2 r2 q2 => ?_, fun σ2 H2 δ2 μ2 S2 q2 => ?_, fun σ2 H2 δ2 μ2 S2 q2 => ?_⟩ ⟨.refl, S1.sto, S1.env.set (.hd _ .nil) i⟩ (hy hb1 a hfr)
  · exact E.nx _ H2 _ μ2 ⟨S1.evo.trans S2.evo, S2.sto, S2.env.unset i⟩ q2
  · exact E.rt v H2 d μ2 σ2 δ2 ⟨S1.evo.trans S2.evo, S2.sto, S2.env⟩ r2 q2
  · exact E.bk _ H2 _ μ2 ⟨S1.evo.trans S2.evo, S2.sto, S2.env.unset i⟩ q2
  · exact E.ct _ H2 _ μ2 ⟨S1.evo.trans S2.evo, S2.sto, S2.env.unset i⟩ q2
abbrev ConG := List D → Sto → (List D → Sto → Prop) → Prop
def dTupG (c : ConG) (ψ : DA) : DE := fun Ψ δ μ Φ => ψ Ψ δ μ fun xs μ1 => c xs μ1 fun es μ2 => Φ (.tup es) μ2
end
/-- what is wanted behind a statement of a generator -/
structure GDs where
  nx : List DW.D → DEnv → Sto → Prop
  rt : List DW.D → DW.D → Sto → Prop
  bk : List DW.D → DEnv → Sto → Prop
  ct : List DW.D → DEnv → Sto → Prop
abbrev DGn := XP → GDs → List DW.D → DEnv → Sto → Prop
section
variable {K : Fg} {B : Bx K}
def dGPlain (ω : DSt) : DGn := fun Ψ Δ es δ μ => ω Ψ ⟨Δ.nx es, Δ.rt es, Δ.bk es, Δ.ct es⟩ δ μ
def dGThen (ω ζ : DGn) : DGn := fun Ψ Δ es δ μ => ω Ψ ⟨fun es' δ' μ' => ζ Ψ Δ es' δ' μ', Δ.rt, Δ.bk, Δ.ct⟩ es δ μ
def dGNil : DGn := fun _ Δ es δ μ => Δ.nx es δ μ
def dYield (φ : DE) : DGn := fun Ψ Δ es δ μ => es.length ≤ 100000 ∧ φ Ψ δ μ fun x μ1 => Δ.nx (es ++ [x]) δ μ1
def dGWhile (θ : DT) (ω : DGn) : DGn := fun Ψ Δ es δ μ => ∃ W : Nat → List DW.D → DEnv → Sto → Prop, (∃ m, W m es δ μ) ∧ ∀ m es δ μ, W m es δ μ → θ Ψ δ μ fun b μ1 =>
  (b = true → ω Ψ ⟨fun es' δ' μ' => ∃ m', m' < m ∧ W m' es' δ' μ', Δ.rt, Δ.nx, fun es' δ' μ' => ∃ m', m' < m ∧ W m' es' δ' μ'⟩ es δ μ1) ∧ (b = false → Δ.nx es δ μ1)
end
theorem passN {X : Cx} : Passes (L2N.CX X.prog X.w) X E0 := fun _ _ _ _ _ _ _ h => by
  obtain ⟨_, _, _, _, _, _, _, _, _, _, _, _, z⟩ := h
  exact z.elim
/-- THE RULE for a def, whatever the air -/
theorem def_okC {CX : CXT} {P : Program} {w : World} {K : Fg} {mg : Str → Option Value} {base : Heap} {x qual : Str} {st : Stmt} {f : Addr} {fd : FuncData} {N ps : List Str} {k : Nat} {c : Con} (F : Fun K x qual st f fd) (Sc : FnScope N ps (defScope st)) (φ : DSt)
    (hl : ∀ ds μ Φ Ψ, c ds μ Φ Ψ → ds.length = ps.length)
    (hb : ∀ (cdv : Value) (A : Around) (outer : List Env) (s : Shared) (H : Hp) (E : XK) (B : Bx K), B.W = (fun cls d _ H => E cls d H) → Room k (A.deeper (PyProof.Rows.envOfC qual (defScope st) s.heap.objs.size f cdv)) →
      ∃ t, PSs (cxOf CX P w K mg base N qual (defScope st) f cdv A outer s H E) (defBody st) t ∧ SS B t φ)
    (hv : ∀ ds μ Φ Ψ, c ds μ Φ Ψ → φ (goalX Ψ) (goalE Φ) (dstart N ds) μ) : FnOk P w K mg base CX (k + 1) f fd ps (spOf K c) := by
  obtain ⟨oc, od, kV, doc, pm, an, cdv, ct, osl, rfl, lk, hcd⟩ := F.ex
  refine fn_of lk hcd Sc (fun vs H Q E h => ?_) (fun A outer s H vs Q E hr h => ?_)
  · obtain ⟨μ, ds, Φ, Ψ, _, r, hc, _⟩ := h
    rw [r.length]
    exact hl ds μ Φ Ψ hc
  · obtain ⟨μ, ds, Φ, Ψ, s0, r, hc, hq, hx⟩ := h
    let B : Bx K := ⟨H, μ, fun cls d _ H => E cls d H, goalX Ψ, fun cls dd σ H' x δ μ' S rx ⟨μ2, hs, q⟩ => hx cls dd H' x μ2 (S.evo.trans hs.evo) (hs.sto S.sto) (rx.mono hs.evo) q⟩
    obtain ⟨t, ht, hs⟩ := hb cdv A outer s H E B rfl hr
    refine ⟨t, ht, hs { nx := fun _ H' => Q .non H', rt := Q } (goalE Φ) (L2.start N vs) H (dstart N ds) μ ⟨fun σ H' δ μ' S ⟨μ2, h2, q⟩ => ?_, fun v H' d μ' σ δ S rv ⟨μ2, h2, q⟩ => ?_, fun _ _ _ _ _ z => z, fun _ _ _ _ _ z => z⟩ ⟨.refl, s0, env_start r⟩ (hv ds μ Φ Ψ hc)⟩
    · exact hq .non H' .non μ2 (S.evo.trans h2.evo) (h2.sto S.sto) (.non .nil) q
    · exact hq v H' d μ2 (S.evo.trans h2.evo) (h2.sto S.sto) (rv.mono h2.evo) q
section
variable {K : Fg} {φ : DE} {ψ : DA} {Ψ : XP} {δ : DEnv} {μ : Sto} {Φ : DK} {ω ζ : DSt} {Δ : DEnds} {ds es : List DW.D} {k : Int} {Γ : GDs} {α β : DGn} {θ : DT} {c : ConG} {cv : Value} {i : Nat} {ξ : Addr → XD → DSt}
theorem u_revT : dRevT φ Ψ δ μ Φ = φ Ψ δ μ fun x μ1 => ∃ ds, x = .tup ds ∧ Φ (.tup ds.reverse) μ1 := rfl
theorem w_repT : oRepT (.tup ds) (.int k) μ Φ = (k ≤ 1000 ∧ -1000000 ≤ k ∧ ds.length ≤ 1000 ∧ Φ (.tup (List.replicate k.toNat ds).flatten) μ) := propext ⟨fun ⟨a, b, e1, e2, q⟩ => by cases e1; cases e2; exact q, fun q => ⟨_, _, rfl, rfl, q⟩⟩
theorem u_tupG : dTupG c ψ Ψ δ μ Φ = ψ Ψ δ μ fun xs μ1 => c xs μ1 fun es μ2 => Φ (.tup es) μ2 := rfl
theorem u_try : dTryAs K cv i ω ξ Ψ Δ δ μ = ω (fun x δ' μ' => ∃ b, (match x with | .mk D _ => PySem.W.exmOne K (.ref D) cv) = some b ∧
  (b = true → ∀ a, μ' a = none → ξ a x Ψ ⟨fun δ2 μ2 => Δ.nx (δ2.set i none) μ2, Δ.rt, fun δ2 μ2 => Δ.bk (δ2.set i none) μ2, fun δ2 μ2 => Δ.ct (δ2.set i none) μ2⟩ (δ'.set i (some (.hd (.ref a)))) μ') ∧ (b = false → Ψ x δ' μ')) Δ δ μ := rfl
theorem u_gPlain : dGPlain ω Ψ Γ es δ μ = ω Ψ ⟨Γ.nx es, Γ.rt es, Γ.bk es, Γ.ct es⟩ δ μ := rfl
theorem u_gThen : dGThen α β Ψ Γ es δ μ = α Ψ ⟨fun es' δ' μ' => β Ψ Γ es' δ' μ', Γ.rt, Γ.bk, Γ.ct⟩ es δ μ := rfl
theorem u_gNil : dGNil Ψ Γ es δ μ = Γ.nx es δ μ := rfl
theorem u_yield : dYield φ Ψ Γ es δ μ = (es.length ≤ 100000 ∧ φ Ψ δ μ fun x μ1 => Γ.nx (es ++ [x]) δ μ1) := rfl
theorem u_gWhile : dGWhile θ α Ψ Γ es δ μ = ∃ W : Nat → List DW.D → DEnv → Sto → Prop, (∃ m, W m es δ μ) ∧ ∀ m es δ μ, W m es δ μ → θ Ψ δ μ fun b μ1 =>
  (b = true → α Ψ ⟨fun es' δ' μ' => ∃ m', m' < m ∧ W m' es' δ' μ', Γ.rt, Γ.nx, fun es' δ' μ' => ∃ m', m' < m ∧ W m' es' δ' μ'⟩ es δ μ1) ∧ (b = false → Γ.nx es δ μ1) := rfl
theorem u_while : dWhile θ ω Ψ Δ δ μ = ∃ W : Nat → DEnv → Sto → Prop, (∃ m, W m δ μ) ∧ ∀ m δ μ, W m δ μ → θ Ψ δ μ fun b μ1 =>
  (b = true → ω Ψ { Δ with nx := fun δ' μ' => ∃ m', m' < m ∧ W m' δ' μ', ct := fun δ' μ' => ∃ m', m' < m ∧ W m' δ' μ', bk := Δ.nx } δ μ1) ∧ (b = false → Δ.nx δ μ1) := rfl
theorem u_isX {a : Addr} {x : XD} {c : V} : cIsX K a x [.hd (.ref a), .hd c] μ Φ = ∃ b, kitD K x c = some b ∧ excOk K x ∧ Φ (.bl b) μ := propext ⟨fun ⟨c', b, e, q⟩ => by cases e; exact ⟨b, q⟩, fun ⟨b, q⟩ => ⟨c, b, rfl, q⟩⟩
theorem u_kitR {C T : Addr} : kitD K (.mk C none) (.ref T) = PySem.W.kitOne K (.ref C) (.ref T) := rfl
theorem u_kitT {C : Addr} {T : String} : kitD K (.mk C none) (.ty T) = PySem.W.kitOne K (.ref C) (.type T) := rfl
theorem u_excOk {C : Addr} : excOk K (.mk C none) = L2.ExcC K C := rfl
theorem w_zipE {P : List DW.D → List DW.D → Prop} : (∃ xs ys, D.tup ds = D.tup xs ∧ D.tup es = D.tup ys ∧ P xs ys) = P ds es := propext ⟨fun ⟨a, b, e1, e2, q⟩ => by cases e1; cases e2; exact q, fun q => ⟨_, _, rfl, rfl, q⟩⟩
theorem u_goalX {G : XD → Sto → Prop} {x : XD} : goalX G x δ μ = ∃ μ2, Sub μ2 μ ∧ G x μ2 := rfl
theorem cut_to (p : Nat) : cutD ds none (some (p : Int)) = ds.take p := by
  unfold cutD
  show (ds.drop 0).take (min (p : Int).toNat ds.length - 0) = _
  rw [List.drop_zero, Nat.sub_zero, Int.toNat_natCast]
  by_cases h : p ≤ ds.length
  · rw [Nat.min_eq_left h]
  · rw [Nat.min_eq_right (by omega), List.take_length, List.take_of_length_le (by omega)]
theorem cut_from (p : Nat) : cutD ds (some (p : Int)) none = ds.drop p := by
  unfold cutD
  show (ds.drop (min (p : Int).toNat ds.length)).take (ds.length - min (p : Int).toNat ds.length) = _
  rw [Int.toNat_natCast]
  by_cases h : p ≤ ds.length
  · rw [Nat.min_eq_left h, List.take_of_length_le (by rw [List.length_drop]; omega)]
  · rw [Nat.min_eq_right (by omega), List.drop_length, List.take_nil, List.drop_eq_nil_of_le (by omega)]
theorem cut_from1 (p : Nat) : cutD ds (some ((p : Int) + 1)) none = ds.drop (p + 1) := cut_from (p + 1)
end
end DW
set_option Elab.async false
set_option linter.all false
set_option maxRecDepth 100000
namespace LW
open PySem PySem.Spec L2 DW
def prodI (ws : List Int) : Int := ws.foldl (· * ·) 1
theorem prodI_snoc (ws : List Int) (z : Int) : prodI (ws ++ [z]) = prodI ws * z := by unfold prodI; rw [List.foldl_append]; rfl
theorem prod_snoc {ws : List Int} {i : Nat} {z : Int} (h : ws[i]? = some z) : prodI (ws.take (i + 1)) = prodI (ws.take i) * z := by
  rw [List.take_add_one, h]; exact prodI_snoc _ _
def prodR : List Int → Int
  | [] => 1
  | w :: r => prodR r * w
theorem prodI_rev : ∀ r : List Int, prodI r.reverse = prodR r
  | [] => rfl
  | w :: r => by rw [List.reverse_cons, prodI_snoc, prodI_rev r]; rfl
def entR : List Int → Int → List Int
  | [], _ => []
  | w :: r, n => n % w :: entR r (n / w)
def choA (ws : List Int) (n : Int) : List Int := (entR ws.reverse n).reverse
abbrev Pos (ws : List Int) : Prop := ∀ w ∈ ws, (0 : Int) < w
theorem Pos.rev {ws : List Int} (h : Pos ws) : Pos ws.reverse := fun w hw => h w (List.mem_reverse.mp hw)
theorem prodR_pos : ∀ {r : List Int}, Pos r → 0 < prodR r
  | [], _ => by decide
  | w :: r, h => Int.mul_pos (prodR_pos fun x hx => h x (List.mem_cons_of_mem _ hx)) (h w List.mem_cons_self)
/-- widths as they are drawn -/
structure WB (ws : List Int) : Prop where
  len : ws.length ≤ 1000
  lo : ∀ w ∈ ws, (0 : Int) ≤ w
  hi : ∀ w ∈ ws, w < 2 ^ 100
  pr : ∀ j, 0 ≤ prodI (ws.take j) ∧ prodI (ws.take j) < 2 ^ 200
end LW
set_option Elab.async false
set_option linter.all false
set_option maxRecDepth 100000
namespace LW
open PySem PySem.Spec L2 DW
/-- two lists that change: the state and one's own -/
structure Two (μ : Sto) (p st : Addr) (L c : List D) (μ' : Sto) : Prop where
  hp : μ p = none
  ne : st ≠ p
  pL : μ' p = some (.lst L)
  sc : μ' st = some (.lst c)
  ot : ∀ a, a ≠ p → a ≠ st → μ' a = μ a
theorem Two.start {μ : Sto} {p st : Addr} {L c : List D} (hp : μ p = none) (hs : μ st = some (.lst c)) : Two μ p st L c (sset μ p (.lst L)) := by
  have ne : st ≠ p := fun z => by rw [z, hp] at hs; cases hs
  exact ⟨hp, ne, sset_same, by rw [sset_ne ne]; exact hs, fun a h _ => sset_ne h⟩
theorem Two.setS {μ μ' : Sto} {p st : Addr} {L c c2 : List D} (T : Two μ p st L c μ') : Two μ p st L c2 (sset μ' st (.lst c2)) :=
  ⟨T.hp, T.ne, by rw [sset_ne (Ne.symm T.ne)]; exact T.pL, sset_same, fun a h1 h2 => by rw [sset_ne h2]; exact T.ot a h1 h2⟩
theorem Two.setP {μ μ' : Sto} {p st : Addr} {L L2 c : List D} (T : Two μ p st L c μ') : Two μ p st L2 c (sset μ' p (.lst L2)) :=
  ⟨T.hp, T.ne, sset_same, by rw [sset_ne T.ne]; exact T.sc, fun a h1 h2 => by rw [sset_ne h1]; exact T.ot a h1 h2⟩
theorem Two.sub {μ μ' : Sto} {p st : Addr} {L c : List D} (T : Two μ p st L c μ') : Sub (sset μ st (.lst c)) μ' := fun a x e => by
  by_cases h : a = st
  · subst h; rw [sset_same] at e; rw [T.sc]; exact e
  · rw [sset_ne h] at e
    have h1 : a ≠ p := fun z => by rw [z, T.hp] at e; cases e
    rw [T.ot a h1 h]; exact e
theorem Two.del {μ μ' : Sto} {p st : Addr} {L c : List D} (T : Two μ p st L c μ') : sdel μ' p = sset μ st (.lst c) := by
  funext a
  unfold sdel
  by_cases h : a = p
  · subst h; rw [if_pos rfl, sset_ne (Ne.symm T.ne), T.hp]
  · rw [if_neg h]
    by_cases h2 : a = st
    · subst h2; rw [sset_same, T.sc]
    · rw [sset_ne h2]; exact T.ot a h h2
theorem atI_last {xs : List D} {d : D} : atI (xs ++ [d]) (-1) = some d := by
  unfold atI ixN
  rw [if_neg (by omega), if_pos (by rw [List.length_append, List.length_singleton]; omega)]
  show (xs ++ [d])[(-1 + (((xs ++ [d]).length : Nat) : Int)).toNat]? = some d
  have e : (-1 + (((xs ++ [d]).length : Nat) : Int)).toNat = xs.length := by rw [List.length_append, List.length_singleton]; omega
  rw [e, List.getElem?_append_right (Nat.le_refl _), Nat.sub_self]
  rfl
theorem prodI_eqR (ws : List Int) : prodI ws = prodR ws.reverse := by
  have e := prodI_rev ws.reverse
  rw [List.reverse_reverse] at e
  exact e
theorem prodI_pos0 {ws : List Int} (h : Pos ws) : 0 < prodI ws := by rw [prodI_eqR]; exact prodR_pos h.rev
theorem Pos.take {ws : List Int} (h : Pos ws) (j : Nat) : Pos (ws.take j) := fun w hw => h w (List.mem_of_mem_take hw)
/-- a product of a front is no greater -/
theorem prod_take_le {ws : List Int} (h : Pos ws) : ∀ j, prodI (ws.take j) ≤ prodI ws := by
  have step : ∀ j, prodI (ws.take j) ≤ prodI (ws.take (j + 1)) := fun j => by
    cases e : ws[j]? with
    | none =>
      have hl : ws.length ≤ j := by rw [List.getElem?_eq_none_iff] at e; exact e
      rw [List.take_of_length_le hl, List.take_of_length_le (by omega)]; exact Int.le_refl _
    | some z =>
      rw [LW.prod_snoc e]
      have h1 := prodI_pos0 (h.take j)
      have h2 := h z (List.mem_of_getElem? e)
      have : prodI (ws.take j) * 1 ≤ prodI (ws.take j) * z := Int.mul_le_mul_of_nonneg_left (by omega) (by omega)
      omega
  have far : ∀ k j, prodI (ws.take j) ≤ prodI (ws.take (j + k)) := fun k => by
    induction k with
    | zero => intro j; exact Int.le_refl _
    | succ k ih => intro j; exact Int.le_trans (ih j) (step (j + k))
  intro j
  have := far ws.length j
  rw [List.take_of_length_le (by omega : ws.length ≤ j + ws.length)] at this
  exact this
theorem WB.of {ws : List Int} (hl : ws.length ≤ 1000) (hp : Pos ws) (hh : ∀ w ∈ ws, w < 2 ^ 100) (hb : prodI ws < 2 ^ 200) : WB ws :=
  ⟨hl, fun w hw => by have := hp w hw; omega, hh, fun j => ⟨by have := prodI_pos0 (hp.take j); omega, by have := prod_take_le hp j; omega⟩⟩
end LW
set_option Elab.async false
set_option linter.all false
set_option maxRecDepth 100000
set_option maxHeartbeats 4000000
namespace DW
open PySem PySem.Spec PyProof.Rows L2
section
variable {K : Fg} {B : Bx K} {te ta tb : TE} {φ φa φb : DE} {tl th : TO} {ol oh : XP → DEnv → Sto → (Option Int → Sto → Prop) → Prop}
def oCatS : DO := fun x y μ Φ => ∃ s t, x = .str s ∧ y = .str t ∧ s.length + t.length ≤ 100000 ∧ Φ (.str (s ++ t)) μ
def oInS (neg : Bool) : DO := fun x y μ Φ => ∃ (c : Nat) (z : Str), x = .str ⟨#[c]⟩ ∧ y = .str z ∧ Φ (.bl (if neg then !decide (c ∈ z.cps.toList) else decide (c ∈ z.cps.toList))) μ
def oIxS : DO := fun x y μ Φ => ∃ z i c, x = .str z ∧ y = .int i ∧ z.length ≤ 100000 ∧ atI z.cps.toList i = some c ∧ Φ (.str ⟨#[c]⟩) μ
def dSlS (φ : DE) (ol oh : XP → DEnv → Sto → (Option Int → Sto → Prop) → Prop) : DE := fun Ψ δ μ Φ => φ Ψ δ μ fun x μ1 => ol Ψ δ μ1 fun lo μ2 => oh Ψ δ μ2 fun hi μ3 => ∃ z, x = .str z ∧ z.length ≤ 100000 ∧ Φ (.str (cutS z lo hi)) μ3
def cStr : DC := fun xs μ Φ => (∃ i, xs = [.int i] ∧ i.natAbs.log2 < 1920 ∧ Φ (.str (toString i)) μ) ∨ ∃ a, xs = [.str a] ∧ Φ (.str a) μ
end
end DW
set_option Elab.async false
set_option linter.all false
set_option maxRecDepth 100000
set_option maxHeartbeats 4000000
namespace DW
open PySem PySem.Spec PyProof.Rows L2
theorem meets_enum1 {v : Value} {o : Obj} {H : Heap → Prop} (B : Begins v o H) :
    Meets (Builtin.«enumerate.__new__» ⟨[.type "enumerate", v], []⟩) (fun _ R s => H s.heap ∧
      R (.ok (.ret (.ref (s.heap.push o).objs.size))) { s with heap := (s.heap.push o).push { cls := .type "enumerate", data := .fields #[.none, .bool false, .ref s.heap.objs.size, rawInt 0, .none, .none] } }) :=
  .of_wp fun prog w A R s h => by
    obtain ⟨hp, g, d, tk, os⟩ := s
    obtain ⟨h1, h⟩ := h
    have hsub := sub_enumerate
    have itr : ∀ {A' : Around} {E : Value → Shared → Prop} {Q : Value → Shared → Prop}, Q (.ref hp.objs.size) ⟨hp.push o, g, d, tk, os⟩ → wpAny (model prog w) A' (pyIter v) Q E ⟨hp, g, d, tk, os⟩ :=
      fun q => B.iter prog w _ _ ⟨hp, g, d, tk, os⟩ _ h1 q
    wp_walk using itr
    refine wpAny_stack_any fun st => wpAny_pure ?_
    split
    · rename_i c _ _ _ _ _
      cases (c == Value.type "enumerate") <;> (wp_walk using itr; exact ⟨_, rfl, h⟩)
    · wp_walk using itr
      exact ⟨_, rfl, h⟩
theorem enum_one {prog : Program} {w : World} {A : Around} {E : Value → Shared → Prop} {s : Shared} {v : Value} {o : Obj} {H : Heap → Prop} {Q : Value → Shared → Prop} (B : Begins v o H) (h1 : H s.heap)
    (h : ∀ h', IsEnum h' (s.heap.objs.size + 1) s.heap.objs.size 0 .none → h'.get? s.heap.objs.size = some o → h'.objs.size = s.heap.objs.size + 2 →
      (∀ b o, s.heap.get? b = some o → h'.get? b = some o) → Q (.ref (s.heap.objs.size + 1)) { s with heap := h' }) :
    wpAny (model prog w) A (call (.type "enumerate") [v]) Q E s := by
  refine callType_new F.called_enumerate (by decide) (F.typeCall_enumerate_1 _) (F.newCall_enumerate_1 _) (fun obj => F.args_object_init_2 obj _) F.entry_enumerate_new (meets_enum1 B) ⟨h1, ?_⟩
  have hz : (s.heap.push o).objs.size = s.heap.objs.size + 1 := Heap.size_push ..
  have he := Heap.get?_push_size (s.heap.push o) (o := { cls := .type "enumerate", data := .fields #[.none, .bool false, .ref s.heap.objs.size, rawInt 0, .none, .none] }) rfl
  rw [hz] at he
  show _ ∧ _
  rw [hz]
  exact ⟨⟨_, he, rfl⟩, h _ he (Heap.get?_push_of_some _ (Heap.get?_push_size _ B.free)) (by rw [Heap.size_push, hz]) fun b o x => Heap.get?_push_of_some _ (Heap.get?_push_of_some _ x)⟩
/-- the tuple at a, counted from c -/
def IteT (K : Fg) (a : Addr) (n : Nat) (c : Int) : It :=
  ⟨fun i H => i < n ∧ ∃ (xs : List V) (x : V), SqT K H a xs ∧ xs[i]? = some x, fun i H v H' => ∃ T x, v = .ref T ∧ H T = none ∧ H' = upd H T (.tup [.int (c + (i : Nat)), x]) ∧ ∀ xs, SqT K H a xs → xs[i]? = some x, fun i H => n ≤ i ∧ ∃ xs : List V, SqT K H a xs ∧ xs.length = n⟩
theorem enum_apart {h : Heap} {e it t : Addr} {c : Int} {i : Nat} {old : Value} {items : Array Value} (he : IsEnum h e it c old) (hi : h.IsTupleIter it t i) (ht : h.IsTuple t items) : t ≠ it ∧ e ∉ [it, t] ∧ e ≠ it := by
  obtain ⟨o1, e1, c1, _⟩ := hi
  obtain ⟨o2, e2, c2, _⟩ := ht
  have n1 : t ≠ it := fun z => by subst z; rw [e1] at e2; cases e2; rw [c1] at c2; exact absurd (Value.type.inj c2) (by decide)
  have n2 : e ≠ it := fun z => by
    subst z
    have q : h.get? e = some _ := he
    rw [e1] at q; cases q; exact absurd (Value.type.inj c1) (by decide)
  have n3 : e ≠ t := fun z => by
    subst z
    have q : h.get? e = some _ := he
    rw [e2] at q; cases q; exact absurd (Value.type.inj c2) (by decide)
  exact ⟨n1, by simp [n2, n3], n2⟩
theorem turn_enumT {P : Program} {w : World} {K : Fg} {elts : List Expr} {kk : Nat} {tpos : Pos} (a e it : Addr) (n : Nat) (c : Int) :
    Turn P w K (.Tuple elts kk tpos) (IteT K a n c) [e, it] e (fun i h => i ≤ n ∧ (∃ old, IsEnum h e it (c + (i : Nat)) old) ∧ h.IsTupleIter it a i ∧ e ≠ it) where
  mem := by simp
  obj := fun i h st b hb => by
    obtain ⟨_, ⟨old, he⟩, ⟨o, ho, hc, hd⟩, _⟩ := st
    rcases (show b = e ∨ b = it by simpa using hb) with z | z
    · rw [z]; exact ⟨_, he, fun v q => nomatch q⟩
    · rw [z]; exact ⟨o, ho, fun v q => by rw [hd] at q; cases q⟩
  keep := fun i h h' st k => by
    obtain ⟨hin, ⟨old, he⟩, ⟨o, ho, r⟩, hne⟩ := st
    exact ⟨hin, ⟨old, k e (by simp) _ he⟩, ⟨o, k it (by simp) o ho, r⟩, hne⟩
  item := by
    intro X hP hw hK hc i pins s σ H E I hf st hg
    subst hP hw hK
    obtain ⟨hin, ⟨old, he⟩, hit, hne⟩ := st
    obtain ⟨hlt, xs, x, hq, hx⟩ := hg
    obtain ⟨its, rv, p, hz⟩ := I.tuple hq
    obtain ⟨u, hu, ru⟩ := rv.get hx
    have pt : s.heap.IsTuple a its.toArray := p
    obtain ⟨n1, n2, n3⟩ := enum_apart he hit pt
    have hel : e < s.heap.objs.size := Heap.lt_size he
    have hil : it < s.heap.objs.size := by obtain ⟨_, q, _⟩ := hit; exact Heap.lt_size q
    have hiu : i < its.toArray.size := by rw [List.size_toArray]; exact (List.getElem?_eq_some_iff.mp hu).1
    refine wpAny_pyNext_enum_itemC (Draws.tuple (A := X.A.in1) (I.ok.hd hc) it a n1 its.toArray) he ⟨hit, pt⟩ hiu n3 n2 fun y h' tk hP ho hst hT hsz hk => ?_
    have hy : y = u := by
      have q : its.toArray[i]? = some y := hP
      have q2 : its.toArray[i]? = some u := by simpa using hu
      rw [q2] at q; exact (Option.some.inj q).symm
    subst hy
    refine ⟨_, rfl, wpAny_letOwnedTupleGo_enum (s := { s with heap := h', toks := tk + 1 }) ho fun h'' he' sb => ?_⟩
    have hT2 := (sb.2 _ (Nat.ne_of_gt hel)).trans hT
    have new : ObjOk X.prog X.w (upd H s.heap.objs.size (.tup [.int (c + (i : Nat)), x])) h'' s.heap.objs.size (.tup [.int (c + (i : Nat)), x]) :=
      ⟨by show 2 ≤ sizeLine; decide, [.int (c + (i : Nat)) tk, y], .cons ⟨_, rfl⟩ (.cons ru .nil), ⟨_, hT2, rfl, _, rfl⟩⟩
    have I1 : Inv X pins σ (upd H s.heap.objs.size (.tup [.int (c + (i : Nat)), x])) { s with heap := h'', toks := tk + 1 } :=
      I.turnedNew (ch := [e, it]) (fun b ob hb q => (sb.2 b (fun z => hb (by simp [z]))).trans (hk b ob (fun z => hb (by simp [z])) (fun z => hb (by simp [z])) q)) hf (Nat.le_refl _) new
    refine ⟨.ref s.heap.objs.size, _, I1, rfl, ⟨_, x, rfl, I.hok.fresh (Nat.le_refl _), rfl, fun ys hy => by rw [I.tuple_inj hy hq]; exact hx⟩, ⟨hlt, ⟨y, ?_⟩, ?_, hne⟩, fun b hb => ?_⟩
    · have e1 : c + ((i + 1 : Nat) : Int) = c + ((i : Nat) : Int) + 1 := by omega
      rw [e1]; exact he'
    · obtain ⟨o, q, r⟩ := hst.1
      exact ⟨o, (sb.2 it (Ne.symm hne)).trans q, r⟩
    · have hb' : b < s.heap.objs.size := by
        rcases (show b = e ∨ b = it by simpa using hb) with z | z <;> (rw [z]; assumption)
      rw [upd_ne (Nat.ne_of_lt hb')]
      exact (hf b hb).1
  done := by
    intro X hP hw hK hc i pins s σ H E I hf st hg
    subst hP hw hK
    obtain ⟨hin, ⟨old, he⟩, hit, hne⟩ := st
    obtain ⟨hle, xs, hq, hx⟩ := hg
    obtain ⟨its, rv, p, hz⟩ := I.tuple hq
    have pt : s.heap.IsTuple a its.toArray := p
    obtain ⟨n1, n2, n3⟩ := enum_apart he hit pt
    obtain ⟨f0, f1, f2, f3, f4, f5⟩ := hf it (by simp)
    have hl := rv.length
    have hi : i = its.toArray.size := by rw [List.size_toArray]; omega
    subst hi
    exact wpAny_pyNext_enum_endD (Draws.tuple (A := X.A.in1) (I.ok.hd hc) it a n1 its.toArray) he ⟨hit, pt⟩ fun h' eb => ⟨rfl, I.turned (t' := s.toks) (fun b o hb q => eb b o hb q) f0 f1 f3 f4 f5⟩
  self := fun A i s Q E st h => let ⟨_, ⟨_, he⟩, _⟩ := st; wpAny_pyIter_enum he h
def iEnumT (K : Fg) (c : Int) (ta : TA) : TI := fun σ H R => ta σ H fun vs H1 => ∃ a xs, vs = [.ref a] ∧ SqT K H1 a xs ∧ R (IteT K a xs.length c) H1
theorem pie_enumT {X : Cx} {pins : List (Addr × Obj)} {σ : L2.St} {H1 : Hp} {s1 : Shared} {h' : Heap} {a : Addr} {xs : List V} {c : Int} {R : It → Hp → Prop} {elts : List Expr} {kk : Nat} {tpos : Pos} (I1 : Inv X pins σ H1 s1) (hq : SqT X.K H1 a xs)
    (he : IsEnum h' (s1.heap.objs.size + 1) s1.heap.objs.size c .none) (ho : h'.get? s1.heap.objs.size = some { cls := .type "tuple_iterator", data := .fields #[.ref a, .int 0 0] })
    (hk : ∀ b o, s1.heap.get? b = some o → h'.get? b = some o) (q : R (IteT X.K a xs.length c) H1) : PIE X pins σ (.Tuple elts kk tpos) R (.ref (s1.heap.objs.size + 1)) { s1 with heap := h' } := by
  refine ⟨s1.heap.objs.size + 1, [s1.heap.objs.size + 1, s1.heap.objs.size], _, _, H1, rfl, I1.kept (t' := s1.toks) hk, turn_enumT a (s1.heap.objs.size + 1) s1.heap.objs.size xs.length c, ⟨Nat.zero_le _, ⟨.none, ?_⟩, ⟨_, ho, rfl, rfl⟩, Nat.succ_ne_self _⟩, fun b hb => ?_, q⟩
  · have e : c + ((0 : Nat) : Int) = c := by omega
    rw [e]; exact he
  · have hle : s1.heap.objs.size ≤ b := by
      rcases (show b = s1.heap.objs.size + 1 ∨ b = s1.heap.objs.size by simpa using hb) with z | z
      · rw [z]; exact Nat.le_succ _
      · rw [z]; exact Nat.le_refl _
    exact I1.fpOk hle (I1.hok.fresh hle)
/-- for i, x in enumerate(t) -/
theorem pi_enumT {X : Cx} {e : Expr} {ta : TA} {p pos tpos : Pos} {elts : List Expr} {kk : Nat} (hg : Gl X "enumerate") (hm : X.mg "enumerate" = none) (ha : PA X [e] ta) (hs : starEach [e] X.env = [(false, eval e X.env)] := by rfl) :
    PI X (.Tuple elts kk tpos) (.Call (.Name "enumerate" p) [e] [] pos) (iEnumT X.K 0 ta) := by
  refine ⟨fun pins s σ H R I h => ?_⟩
  refine Call_ (ld_blt I hg hm boot_enumerate (PyProof.Rows.callWith_type1 (thn (ha.run pos pins s σ H _ I h) fun us s1 ⟨vs, H1, I1, r1, q1⟩ => ?_) hs rfl))
  obtain ⟨a, xs, rfl, hq, q⟩ := q1
  rw [Vals.ref1 r1]
  obtain ⟨its, rv, p', hz⟩ := I1.tuple hq
  exact enum_one (begins_tuple a its.toArray) p' fun h' he ho hsz hk => wpAny_pyIter_enum he (pie_enumT I1 hq he ho hk q)
def iEnD (φ : DE) (c : Int) : DI := fun Ψ δ μ Φ => φ Ψ δ μ fun x μ1 => ∃ ds, x = .tup ds ∧ Φ ((List.range ds.length).map fun (i : Nat) => .pr [.int (c + (i : Int)), ds.getD i .non]) μ1
theorem siEnumT {K : Fg} {B : Bx K} {te : TE} {φ : DE} {c : Int} (a : SE B te φ) : SI B (iEnumT K c (tCons te tNil)) (iEnD φ c) := fun σ H δ μ Φ R S q k =>
  a σ H δ μ _ _ S q fun v H1 x μ1 S1 e1 r1 q1 => by
    obtain ⟨ds, rfl, q2⟩ := q1
    obtain ⟨p, vs, rfl, h1, h2⟩ := Rep.tup_inv r1
    refine ⟨p, vs, rfl, h1.sq, k _ _ H1 μ1 S1 e1 (fun i H3 μ3 s3 e3 => ?_) q2⟩
    rw [List.length_map, List.length_range]
    have hl := h2.length
    refine ⟨fun hi => ?_, fun hi => ⟨by omega, vs, (h1.mono e3).sq, rfl⟩⟩
    have hv : i < vs.length := by omega
    refine ⟨⟨hv, vs, vs[i], (h1.mono e3).sq, List.getElem?_eq_getElem hv⟩, fun z H' hy => ?_⟩
    obtain ⟨T, u, rfl, hT, rfl, hu⟩ := hy
    obtain ⟨d, hd, rd⟩ := (h2.mono e3).getV (hu vs (h1.mono e3).sq)
    refine ⟨.pr [.int (c + (i : Int)), d], ?_, s3.new hT, .new hT, rep_tup s3 hT (.cons (.int _ .nil) (.cons rd .nil))⟩
    rw [List.getElem?_map, List.getElem?_range hi]
    show some (D.pr [D.int (c + (i : Int)), ds.getD i .non]) = _
    rw [List.getD_eq_getElem?_getD, hd]
    rfl
end DW
set_option Elab.async false
set_option linter.all false
set_option maxRecDepth 100000
set_option maxHeartbeats 4000000
namespace DW
open PySem PySem.Spec PyProof.Rows L2 NdefX PySem.W
/-- a method that may say super(): its body, at its own activation -/
theorem supfn_of {CX : CXT} {P : Program} {w : World} {K : Fg} {mg : Str → Option Value} {base : Heap} {k : Nat} {f C cc cda : Addr} {name qual : Str} {params : Arguments} {body : List Stmt} {scope : Scope} {kV doc pm ct oc cl : Value} {an od cld : Option Addr}
    {osl csl : Array (Option Value)} {N ps : List Str} {sp : Sp} (lk : K.lookup f = some ⟨oc, od, .func (ksFn name qual params body scope .none kV doc pm an (.ref cda) ct cc), osl⟩) (hcd : codeIn K (.ref cda) qual = true) (S : NScope N ps ["__class__"] scope)
    (lcc : K.lookup cc = some ⟨cl, cld, .cell (some (.ref C)), csl⟩)
    (len : ∀ vs H Q E, sp vs H Q E → vs.length = ps.length)
    (hbody : ∀ (A : Around) (outer : List Env) (s s1 : Shared) (H : Hp) (vs : List V) (Q : VK) (E : XK), Room k (A.deeper (envF ⟨name, qual, params, body, scope, [("__class__", cc)], cda⟩ f s.heap.objs.size)) → sp vs H Q E →
      Inv (ncx CX P w K mg base N ⟨name, qual, params, body, scope, [("__class__", cc)], cda⟩ f A outer s H E) [] (startF N vs [none]) H s1 →
      _root_.PySem.wpAt (model P w) (A.deeper (envF ⟨name, qual, params, body, scope, [("__class__", cc)], cda⟩ f s.heap.objs.size)) (.func body (envF ⟨name, qual, params, body, scope, [("__class__", cc)], cda⟩ f s.heap.objs.size)) (execs body (envF ⟨name, qual, params, body, scope, [("__class__", cc)], cda⟩ f s.heap.objs.size))
        (SP (ncx CX P w K mg base N ⟨name, qual, params, body, scope, [("__class__", cc)], cda⟩ f A outer s H E) [] { nx := fun _ H' => Q .non H', rt := Q }) (ncx CX P w K mg base N ⟨name, qual, params, body, scope, [("__class__", cc)], cda⟩ f A outer s H E).xe s1) :
    FnOk P w K mg base CX (k + 1) f (ksFn name qual params body scope .none kV doc pm an (.ref cda) ct cc) ps sp := by
  refine ⟨len, fun A outer s H args us vs Q E hr e0 hb r hsp => ?_⟩
  have hl := len _ _ _ _ hsp
  have KX : K.In s.heap := e0.mod.kin.keeps fun b o e => (e0.bs b o e).1
  have lim : s.heap.NoLimit := e0.mod.nolimit.keeps fun b o e => (e0.bs b o e).1
  refine ks_codeAny_call_defAt (fd := ksFn name qual params body scope .none kV doc pm an (.ref cda) ct cc) (body := body) (binds := ps.zip us) hr.depth (KX _ _ lk) rfl lim (codeRec_of KX hcd) rfl hb S.nocell (fun ⟨n, _⟩ hy => S.par n (List.of_mem_zip hy).1) (fun h₁ hns hk₁ => ?_) S.co S.gen S.kind
  have Cc : CellsAt [("__class__", cc)] ["__class__"] [none] s.heap H := by
    refine ⟨rfl, fun y c e => ?_, fun x y c e1 e2 => ?_, fun i y e => ?_⟩
    · have ec : c = cc := by
        simp only [List.lookup] at e
        split at e <;> simp_all
      subst ec
      exact ⟨(e0.bs _ _ (e0.mod.kin _ _ lcc)).2, _, _, KX _ _ lcc, rfl⟩
    · simp only [List.lookup] at e1 e2
      split at e1 <;> split at e2 <;> simp_all
    · cases i with
      | zero => cases e; exact ⟨cc, rfl, fun v z => by cases z⟩
      | succ i => cases i <;> cases e
  have I := inv_startN (CX := CX) (P := P) (w := w) (K := K) (mg := mg) (base := base) (F := ⟨name, qual, params, body, scope, [("__class__", cc)], cda⟩) (f := f) (E := E) (tk := s.toks + (ps.zip us).length) S hr.hd e0 hl r Cc hns hk₁
  refine ks_wpAt_mono (hbody A outer s _ H vs Q E (hr.deeper _) hsp I) (fun fl s' hs => ?_) fun e s' hs => hs
  have fin : ∀ {σ' : L2.St} {H' : Hp} {v : V} {u : Value}, Inv (ncx CX P w K mg base N ⟨name, qual, params, body, scope, [("__class__", cc)], cda⟩ f A outer s H E) [] σ' H' s' → L2.RelV v u → Q v H' → CE outer P w H s Q u s' :=
    fun {σ' H' v u} J rv q => ⟨v, H', J.os, J.bare, J.base, J.hok, rv, q⟩
  cases fl with
  | ret u =>
    obtain ⟨v, σ', H', J, rv, q⟩ := hs
    exact fin J rv q
  | next =>
    obtain ⟨σ', H', J, q⟩ := hs
    exact fin (v := V.non) (u := Value.none) J rfl q
  | brk =>
    obtain ⟨_, _, _, q⟩ := hs
    exact False.elim q
  | cont =>
    obtain ⟨_, _, _, q⟩ := hs
    exact False.elim q
end DW
set_option Elab.async false
set_option linter.all false
set_option maxRecDepth 100000
set_option maxHeartbeats 4000000
namespace DW
open PySem PySem.Spec PyProof.Rows L2 NdefX PySem.W
/-- the call of the bound __init__ -/
theorem mw_init {X : Cx} {pins : List (Addr × Obj)} {σ : L2.St} {H : Hp} {s : Shared} {a C u : Addr} {us : List Value} {A : Around} {E : Value → Shared → Prop} {Q : Value → Shared → Prop} (T : OexC X.K C) (I : Inv X pins σ H s) (e : H a = some (exo a C none)) (hu : s.heap.get? u = some (kxs_mw "ValueError.__init__" a)) (hl : us.length ≤ sizeLine)
    (h : ∀ s', Inv X pins σ H s' → Q .none s') : wpAny (model X.prog X.w) A (call (.ref u) us) Q E s := by
  obtain ⟨nm, q, N, bs, bm, sn, sub, ab, col, dd, k0, k1, k2, k3, k5, hC, hbm⟩ := T.cls
  obtain ⟨t1, ho⟩ := exo_at I.hok e
  have hC1 := I.kIn _ _ hC
  obtain ⟨hp, g, d, t, os⟩ := s
  have fin : ∀ h', (∀ b o, b ≠ a → hp.get? b = some o → h'.get? b = some o) → h'.get? a = some (excRec (.ref C) hp.objs.size none .none .none (.bool false)) → h'.get? hp.objs.size = some (excTup us) → Q .none ⟨h', g, d, t, os⟩ := fun h' k hx _ => by
    have J := I.write (t' := t) (x := a) (e := a) (o := exo a C none) (by rw [e]; exact True.intro) (.inl rfl) k ⟨_, hx⟩ (exo_ok hx)
    have eu : upd H a (exo a C none) = H := by
      funext b
      by_cases hb : b = a
      · rw [hb, upd_same, e]
      · rw [upd_ne hb]
    rw [eu] at J
    exact h _ J
  refine wpAny_call (codeAny_of_tree ?_)
  show wpAny _ A.in1 (callAny (.ref u) ⟨us, []⟩) _ _ _
  simp only [callAny]
  refine wpAny_bind (wpAny_load hu ?_)
  simp only [kxs_mw, show (Value.type "method-wrapper" == Value.type "method" || Value.type "method-wrapper" == Value.type "builtin_function_or_method" || Value.type "method-wrapper" == Value.type "method-wrapper") = true by decide, if_true]
  refine KFB.if_so (by decide) ?_
  refine wpAny_bind (check_bound_init PySem.F.excBase_ValueError.toExcCallFacts hC1 ho rfl ?_)
  refine wpAny_bind (wpAny_pure (wpAny_pure ?_))
  refine ⟨plainId_quiet PySem.F.excBase_ValueError.init.plain _, codeAny_builtin PySem.F.excBase_ValueError.initEntry ?_⟩
  exact exc_init_tree (cls := .ref C) (t0 := t1) (dv := none) (c2 := .none) (c3 := .none) (b4 := .bool false) ho hl fin
/-- what the written part says of a class whose __init__ says super().__init__(..) -/
structure SupC (K : Fg) (C D cc f cda : Addr) (file : Str) : Prop where
  ox : OexC K C
  cell : ∃ cl cld csl, K.lookup cc = some ⟨cl, cld, .cell (some (.ref D)), csl⟩
  own : isClsIn K D = true
  sub : mroIn K C (.ref D) = some true
  ve : subIn K (.ref C) (.type "ValueError") = some true
  opq : nsIn K cStatics "thirdparty.any" = some none
  sup : ks_superIn K C D "__init__" = some (some (.builtin "ValueError.__init__"))
  code : ∃ ccl cdd vs ccs tf, K.lookup cda = some ⟨ccl, cdd, .fields vs, ccs⟩ ∧ vs[2]? = some (.str file tf)
theorem super_line {X : Cx} {qual : Str} {scope : Scope} {L f cda cc a C D : Addr} {file : Str} {fd : FuncData} {oc : Value} {od : Option Addr} {osl : Array (Option Value)} {body : List Stmt} {p0 p1 p2 p3 p4 : Pos} {e1 : Expr} {te : TE} {σ : L2.St} {H : Hp} {s : Shared} {G : Shared → Prop} {ar : Arg}
    (hX : X.env = ksEnv qual scope L f (.ref cda) cc) (T : SupC X.K C D cc f cda file) (hf : X.K.lookup f = some ⟨oc, od, .func fd, osl⟩) (hp : (fd.params.posonlyargs ++ fd.params.args).head? = some ar)
    (hfile : ((X.prog.main.file : Str) == file) = true) (htop : (X.prog.main.scope.names.lookup ("super" : Str)).isSome = false) (hms : X.mg "super" = none)
    (hks : scope.names.lookup ("super" : Str) = some .globalImplicit) (hkc : scope.names.lookup ("__class__" : Str) = some .free) (hka : scope.names.lookup ar.arg = some .local)
    (I : Inv X [] σ H s) (hN : X.N[0]? = some ar.arg) (h0 : σ[0]? = some (some (.ref a))) (ea : H a = some (exo a C none)) (he : PE X e1 te)
    (hst : starEach [e1] X.env = (false, eval e1 X.env) :: starEach [] X.env) (hpl : (backTo p3 (starEach [] X.env)).any (·.1) = false)
    (hi : interactive X.env = false) (hsw : swapsWith (.Call (.Attribute (.Call (.Name "super" p0) [] [] p1) "__init__" p2) [e1] [] p3) none p4.line X.env = pure false)
    (hev : ∃ pl, eval (.Call (.Attribute (.Call (.Name "super" p0) [] [] p1) "__init__" p2) [e1] [] p3) X.env = (do
      let ov ← attributeBase (.Call (.Name "super" p0) [] [] p1) "__init__" X.env (eval (.Call (.Name "super" p0) [] [] p1) X.env)
      standAt p2.atName
      let (f, first) ← holding [ov] (getMethod ov "__init__" pl)
      callWith p3 f first (backTo p3 (starEach [e1] X.env)) []))
    (h : te σ H fun x H1 => H1 a = some (exo a C none) ∧ ∀ s', Inv X [] σ H1 s' → G s') :
    _root_.PySem.wpAt (model X.prog X.w) X.A (.func body X.env) (exec (.Expr (.Call (.Attribute (.Call (.Name "super" p0) [] [] p1) "__init__" p2) [e1] [] p3) p4) X.env) (fun fl s' => fl = .next ∧ G s') X.xe s := by
  obtain ⟨pl, hev⟩ := hev
  obtain ⟨cl, cld, csl, hcell⟩ := T.cell
  obtain ⟨ccl, cdd, vs, ccs, tf, hcode, hvs⟩ := T.code
  have KX := I.kIn
  refine ks_wpAt_Expr_any (ks_wpAt_MethodCall ?_ hev) hi hsw
  obtain ⟨nm, q, N, bs, bm, sn, sub, ab, col, dd, k0, k1, k2, k3, k5, hC, hbm⟩ := T.ox.cls
  obtain ⟨t1, ho⟩ := exo_at I.hok ea
  obtain ⟨m, hns, hlk⟩ := I.loc
  have hkind := I.ok.kind
  have ksX : X.env.kindOf "super" = some .globalImplicit := by rw [hX]; exact hks
  have kcX : X.env.kindOf "__class__" = some .free := by rw [hX]; exact hkc
  have kaX : X.env.kindOf ar.arg = some .local := by rw [hX]; exact hka
  have ccX : X.env.cells.lookup (("__class__" : Str)) = some cc := by rw [hX]; rfl
  obtain ⟨u0, ru0, lk0⟩ := hlk 0 ar.arg (.ref a) hN h0 (.inl kaX)
  obtain rfl : u0 = Value.ref a := ru0
  have hma : m ar.arg = some (.ref a) := by
    rcases lk0 with ⟨_, q⟩ | ⟨q, _⟩
    · exact q
    · rw [kaX] at q; rcases q with q | q <;> cases q
  obtain ⟨cdD, hcdD⟩ := Option.isSome_iff_exists.mp (show (clsIn X.K D).isSome = true from T.own)
  obtain ⟨oD, hD1, hD2⟩ : ∃ oD, s.heap.get? D = some oD ∧ oD.data = .cls cdD := by
    unfold clsIn at hcdD
    split at hcdD
    · rename_i c d cd' sl ho'
      cases hcdD
      exact ⟨_, KX _ _ ho', rfl⟩
    · cases hcdD
  obtain ⟨cdC, hcdC⟩ : ∃ cd, clsIn X.K C = some cd := by
    have q := T.sub
    unfold mroIn at q
    cases z : clsIn X.K C with
    | none => rw [z] at q; cases q
    | some cd => exact ⟨cd, rfl⟩
  have hsup : alongIn X.K "__init__" ((cdC.mro.dropWhile (· != .ref D)).drop 1) = some (some (.builtin "ValueError.__init__")) := by
    have q := T.sup
    unfold ks_superIn at q
    rw [hcdC] at q
    exact q
  have haC : a ≠ C := fun z => by
    have q := KX _ _ hC
    rw [← z, ho] at q
    cases q
  obtain ⟨mb, hb1, hb2⟩ := I.mod.blt
  obtain ⟨hh, g, d, t, os⟩ := s
  refine ks_wpAt_super_base (f := f) (fd := fd) (ar := ar) ksX kcX (by decide) (by rw [hX]) (KX _ _ hf) rfl hp (by rw [hX]) (KX _ _ hcode) rfl hvs hfile htop ?_
  refine ks_loadName_global hkind ksX (Calls.loadGlobal_builtin (by rw [I.ok.glob]; exact I.mod.glob.keeps I.bk) hms (by rw [I.ok.blt]; exact hb1.keeps I.bk) ((hb2 _ (by decide)).trans (by first | boot_by_name | rfl | kernel_rfl)) ⟨rfl, ?_⟩)
  refine wpAny_loadName_free hkind kcX ccX ⟨_, KX _ _ hcell, rfl⟩ ?_
  refine wpAny_loadName_local hkind kaX hns hma ?_
  refine ks_wpAny_isType_cls hD1 hD2 ⟨rfl, ?_⟩
  refine ks_wpAny_call_super hD1 hD2 ho rfl (fun c z => by cases z) (looks_mroIn KX T.sub) (fun h' e k => ?_)
  have KX' : X.K.In h' := KX.keeps k
  have ho' := k _ _ ho
  have LT : Looks (model X.prog X.w) h' (typeOf (.ref a)) (.ref C) := fun A Q E s k q => wpAny_typeOf_ref (k _ _ ho') q
  refine kxs_getMethod kxs_ValueError e (looks_opaque KX' T.opq) (l₀ := cdC.mro) (fun A Q E s k q => wpAny_bind ((looks_clsIn KX' hcdC) A _ E s k (wpAny_pure q))) rfl KX' hsup (LT.andThen (looks_subIn KX' T.ve)) haC (by decide) ?_
  -- the arguments
  have k2 : ∀ b o, hh.get? b = some o → (h'.push (kxs_mw "ValueError.__init__" a)).get? b = some o := fun b o q => Heap.get?_push_of_some _ (k b o q)
  have I2 : Inv X [] σ H ⟨h'.push (kxs_mw "ValueError.__init__" a), g, d, t + 1, os⟩ := I.kept (t' := t + 1) k2
  have hge : hh.objs.size ≤ h'.objs.size := by
    by_cases z : hh.objs.size = 0
    · omega
    · have hl : hh.objs.size - 1 < hh.objs.size := by omega
      exact Nat.le_of_lt (Heap.lt_size e)
  have I3 : Inv X [(h'.objs.size, kxs_mw "ValueError.__init__" a)] σ H ⟨h'.push (kxs_mw "ValueError.__init__" a), g, d, t + 1, os⟩ := I2.pins_of fun p hp => by
    rw [List.mem_singleton.mp hp]
    refine ⟨Heap.get?_push_size _ rfl, I.hok.fresh hge, ?_, I.nofs hge, fun v z => by cases z⟩
    have := hns.lt
    exact Nat.ne_of_gt (Nat.lt_of_lt_of_le this hge)
  rw [hst]
  refine kxs_callWith (i := "ValueError.__init__") (x := a) (by show (false || (backTo p3 (starEach [] X.env)).any (·.1)) = false; rw [hpl]; rfl) (Calls.evalArgs_plain ?_)
  refine Calls.spliced_cons (thn (he.run _ _ σ H _ I3 h) fun u1 s1 ⟨x1, H1, J1, rx1, ea1, q1⟩ => ?_)
  refine Calls.spliced_nil ?_
  have hu := (J1.pin (h'.objs.size, kxs_mw "ValueError.__init__" a) (List.mem_append_right _ List.mem_cons_self)).1
  refine ⟨hu, mw_init T.ox J1 ea1 hu (by show 1 ≤ sizeLine; decide) fun s' J => ⟨rfl, q1 s' (J.pins_of fun p hp => absurd hp (by simp))⟩⟩
end DW
set_option Elab.async false
set_option linter.all false
set_option maxRecDepth 100000
set_option maxHeartbeats 4000000
namespace DW
open PySem PySem.Spec PyProof.Rows L2 NdefX PySem.W
/-- what __init__(self, f) keeps: self, an error in the making, gets its one field -/
def spInit (K : Fg) (C : Addr) (fld : Str) (okv : V → Hp → Prop) : Sp := fun vs H Q _ => ∃ a v, vs = [.ref a, v] ∧ okv v H ∧ OexC K C ∧ findIn K (.ref C) fld = some none ∧ H a = some (exo a C none) ∧
  ∀ d, H d = none → d ≠ a → Q .non (upd (upd H d (exd d [(fld, v)])) a (exo a C (some d)))
/-- __init__(self, f): super().__init__(text); self.f = f -/
theorem sup_fn {CX : CXT} {P : Program} {w : World} {K : Fg} {mg : Str → Option Value} {base : Heap} {k : Nat} {f C D cc cda : Addr} {name qual fld file : Str} {params : Arguments} {scope : Scope} {kV doc pm ct oc : Value} {an od : Option Addr} {osl : Array (Option Value)} {N : List Str} {okv : V → Hp → Prop}
    {p0 p1 p2 p3 p4 q1 q2 q3 q4 : Pos} {e1 : Expr} {ar : Arg}
    (lk : K.lookup f = some ⟨oc, od, .func (ksFn name qual params [.Expr (.Call (.Attribute (.Call (.Name "super" p0) [] [] p1) "__init__" p2) [e1] [] p3) p4, .Assign [.Attribute (.Name "self" q1) fld q2] (.Name fld q3) q4] scope .none kV doc pm an (.ref cda) ct cc), osl⟩)
    (hcd : codeIn K (.ref cda) qual = true) (S : NScope N ["self", fld] ["__class__"] scope) (T : SupC K C D cc f cda file) (hp : (params.posonlyargs ++ params.args).head? = some ar) (har : ar.arg = "self")
    (hfile : ((P.main.file : Str) == file) = true) (htop : (P.main.scope.names.lookup ("super" : Str)).isSome = false) (hms : mg "super" = none) (hks : scope.names.lookup ("super" : Str) = some .globalImplicit)
    (hdb : (fld == ("__debug__" : Str)) = false)
    (hX : ∀ (X : Cx), X.prog = P → X.w = w → X.K = K → X.N = N → X.env.scope = scope → (∃ L, X.env = ksEnv qual scope L f (.ref cda) cc) → Room k X.A →
      (∃ te, PE X e1 te ∧ ∀ (σ : L2.St) (H : Hp) (v : V), σ[1]? = some (some v) → okv v H → ∀ Q : VK, (∀ x, Q x H) → te σ H Q) ∧
      starEach [e1] X.env = (false, eval e1 X.env) :: starEach [] X.env ∧ (backTo p3 (starEach [] X.env)).any (·.1) = false ∧ interactive X.env = false ∧
      swapsWith (.Call (.Attribute (.Call (.Name "super" p0) [] [] p1) "__init__" p2) [e1] [] p3) none p4.line X.env = pure false ∧
      (∃ pl, eval (.Call (.Attribute (.Call (.Name "super" p0) [] [] p1) "__init__" p2) [e1] [] p3) X.env = (do
        let ov ← attributeBase (.Call (.Name "super" p0) [] [] p1) "__init__" X.env (eval (.Call (.Name "super" p0) [] [] p1) X.env)
        standAt p2.atName
        let (f, first) ← holding [ov] (getMethod ov "__init__" pl)
        callWith p3 f first (backTo p3 (starEach [e1] X.env)) [])) ∧
      swapsWith (.Name fld q3) (some (.Attribute (.Name "self" q1) fld q2)) q4.line X.env = pure false ∧ PE X (.Name "self" q1) (tVar 0) ∧ PE X (.Name fld q3) (tVar 1)) :
    FnOk P w K mg base CX (k + 1) f (ksFn name qual params [.Expr (.Call (.Attribute (.Call (.Name "super" p0) [] [] p1) "__init__" p2) [e1] [] p3) p4, .Assign [.Attribute (.Name "self" q1) fld q2] (.Name fld q3) q4] scope .none kV doc pm an (.ref cda) ct cc) ["self", fld] (spInit K C fld okv) := by
  obtain ⟨cl, cld, csl, lcc⟩ := T.cell
  obtain ⟨_, hC2⟩ : True ∧ True := ⟨trivial, trivial⟩
  refine supfn_of lk hcd S lcc (fun vs H Q E h => ?_) (fun A outer s s1 H vs Q E hr h I => ?_)
  · obtain ⟨a, v, rfl, _⟩ := h; rfl
  obtain ⟨a, v, rfl, hok, hox, hno, ea, hq⟩ := h
  have hlen : N.take 3 = (["self", fld, "__class__"] : List Str) := S.pre
  have hn0 : N[0]? = some ("self" : Str) := by
    have q := congrArg (fun l : List Str => l[0]?) hlen
    rw [List.getElem?_take_of_lt (by decide)] at q
    exact q
  have hl3 : 3 ≤ N.length := by have := congrArg List.length hlen; rw [List.length_take] at this; simp at this; omega
  obtain ⟨⟨te, hte, hmsg⟩, f1, f2, f3, f4, f5, f6, f7, f8⟩ := hX (ncx CX P w K mg base N ⟨name, qual, params, [.Expr (.Call (.Attribute (.Call (.Name "super" p0) [] [] p1) "__init__" p2) [e1] [] p3) p4, .Assign [.Attribute (.Name "self" q1) fld q2] (.Name fld q3) q4], scope, [("__class__", cc)], cda⟩ f A outer s H E) rfl rfl rfl rfl rfl ⟨_, rfl⟩ hr
  have s0 : (startF N [.ref a, v] [none])[0]? = some (some (.ref a)) := rfl
  have s1' : (startF N [.ref a, v] [none])[1]? = some (some v) := rfl
  refine ks_wpAt_execs_cons (ks_wpAt_mono (super_line (X := ncx CX P w K mg base N ⟨name, qual, params, [.Expr (.Call (.Attribute (.Call (.Name "super" p0) [] [] p1) "__init__" p2) [e1] [] p3) p4, .Assign [.Attribute (.Name "self" q1) fld q2] (.Name fld q3) q4], scope, [("__class__", cc)], cda⟩ f A outer s H E) (L := s.heap.objs.size) (σ := startF N [.ref a, v] [none]) (H := H) rfl T lk hp hfile htop hms hks (S.frk _ List.mem_cons_self) (by rw [har]; exact S.par _ List.mem_cons_self) I (by rw [har]; exact hn0) s0 ea hte f1 f2 f3 f4 f5
    (G := fun s' => Inv (ncx CX P w K mg base N ⟨name, qual, params, [.Expr (.Call (.Attribute (.Call (.Name "super" p0) [] [] p1) "__init__" p2) [e1] [] p3) p4, .Assign [.Attribute (.Name "self" q1) fld q2] (.Name fld q3) q4], scope, [("__class__", cc)], cda⟩ f A outer s H E) [] (startF N [.ref a, v] [none]) H s') ?_) (fun fl s' hs => ?_) fun _ _ z => z)
  · exact hmsg _ H v s1' hok _ fun x => ⟨ea, fun s' J => J⟩
  · obtain ⟨rfl, J⟩ := hs
    refine PySem.wpAt_of_wpAny ?_
    refine (pss_one (ps_ost f7 f8 f6)).run [] s' _ H _ J ?_
    refine ⟨v, s1', .ref a, s0, a, C, rfl, hox, hno, .inl ⟨ea, fun dx hd hne => ?_⟩⟩
    exact hq dx hd hne
/-- C(e): an own error made, its context None -/
theorem pmk_sup {CX : CXT} {X : Cx} {x fld : Str} {C fI : Addr} {k : Nat} {fd : FuncData} {ps : List Str} {okv : V → Hp → Prop} {e : Expr} {ta : TA} {p pos : Pos} (T : OexC X.K C) (iC : findIn X.K (.ref C) "__init__" = some (some (.ref fI))) (tI : typeIn X.K (.ref fI) = some (.type "function")) (hno : findIn X.K (.ref C) fld = some none)
    (F1 : FnOk X.prog X.w X.K X.mg X.base CX k fI fd ps (spInit X.K C fld okv)) (hr : Room (k + 1) X.A) (hb : Binds X.K fd ps []) (hx : Passes CX X (fun _ _ _ => False)) (hg : Gl X x) (hm : X.mg x = some (.ref C)) (ha : PA X [e] ta)
    (hdb : (x == ("__debug__" : Str)) = false := by decide) (hst : starEach [e] X.env = (false, eval e X.env) :: starEach [] X.env := by rfl) (hpl : (backTo pos (starEach [] X.env)).any (·.1) = false := by rfl) :
    L2N.PMk X (.Call (.Name x p) [e] [] pos) (fun σ H Q => ta σ H fun vs H1 => ∃ v, vs = [v] ∧ (∀ a, H1 a = none → okv v (upd H1 a (exo a C none))) ∧ ∀ d, H1 d = none → Q (.ref C) (some d) (upd H1 d (.xd [(fld, v)]))) := by
  intro pins s σ H Q I h
  obtain ⟨nm, q, N, bs, bm, sn, sub, ab, col, dd, k0, k1, k2, k3, k5, hC, hbm⟩ := T.cls
  refine wpAny_Call_Name_kw (ld_glob I hg hm ?_ hdb)
  refine callWith_K (h₀ := X.base) I.ok.mod.kin T.kC (thn (ha.run pos pins s σ H _ I h) fun us s1 ⟨vs, H1, I1, r1, v, ev, hok, q1⟩ => ⟨I1.kIn, ?_⟩) hst hpl
  subst ev
  obtain ⟨u1, rfl, rv1⟩ := vals1 r1
  obtain ⟨hp, g, dr, tk, os⟩ := s1
  have hsz : hp.objs.size ≤ hp.objs.size + 1 := Nat.le_succ _
  have hn : H1 (hp.objs.size + 1) = none := I1.hok.fresh hsz
  have kk : ∀ b o, hp.get? b = some o → ((hp.push (kdv_tup [u1])).push (PySem.HandSPX.excO C hp.objs.size)).get? b = some o := fun b o z => Heap.get?_push_of_some _ (Heap.get?_push_of_some _ z)
  have hget : ((hp.push (kdv_tup [u1])).push (PySem.HandSPX.excO C hp.objs.size)).get? (hp.objs.size + 1) = some (PySem.HandSPX.excO C hp.objs.size) := by heap_get
  have I2 : Inv X pins σ (upd H1 (hp.objs.size + 1) (exo (hp.objs.size + 1) C none)) ⟨(hp.push (kdv_tup [u1])).push (PySem.HandSPX.excO C hp.objs.size), g, dr, tk, os⟩ := I1.laid (t' := tk) kk hsz (exo_ok hget)
  have hsp : spInit X.K C fld okv [.ref (hp.objs.size + 1), v] (upd H1 (hp.objs.size + 1) (exo (hp.objs.size + 1) C none)) (fun v' H2 => v' = .non ∧ ∃ d, H2 (hp.objs.size + 1) = some (exo (hp.objs.size + 1) C (some d)) ∧ H2 d = some (exd d [(fld, v)]) ∧ H1 d = none ∧ Q (.ref C) (some d) (upd (L2.del H2 (hp.objs.size + 1)) d (.xd [(fld, v)]))) (fun _ _ _ => False) := by
    refine ⟨_, v, rfl, hok _ hn, T, hno, upd_same, fun d hd hne => ⟨rfl, d, upd_same, ?_, ?_, ?_⟩⟩
    · rw [upd_ne hne, upd_same]
    · rw [upd_ne hne] at hd; exact hd
    · have hd1 : H1 d = none := by rw [upd_ne hne] at hd; exact hd
      have e2 : upd (L2.del (upd (upd (upd H1 (hp.objs.size + 1) (exo (hp.objs.size + 1) C none)) d (exd d [(fld, v)])) (hp.objs.size + 1) (exo (hp.objs.size + 1) C (some d))) (hp.objs.size + 1)) d (.xd [(fld, v)]) = upd H1 d (.xd [(fld, v)]) := by
        funext b
        by_cases h1 : b = d
        · rw [h1, upd_same, upd_same]
        · rw [upd_ne h1, upd_ne h1]
          by_cases h2 : b = hp.objs.size + 1
          · rw [h2, L2.del_same, hn]
          · rw [L2.del_ne h2, upd_ne h2, upd_ne h1, upd_ne h2]
      rw [e2]
      exact q1 d hd1
  have r2 : Vals [V.ref (hp.objs.size + 1), v] [Value.ref (hp.objs.size + 1), u1] := .cons rfl (.cons rv1 .nil)
  have hl : [Value.ref (hp.objs.size + 1), u1].length = ps.length := F1.len _ _ _ _ hsp
  show wpAny _ _ (call (.ref C) [u1]) _ _ _
  refine wpAny_call (PySem.HandSPX.call_own PySem.F.excBase_ValueError (fun Y => PySem.HandSPX.refsVE_contains Y bm hbm) (I1.kIn _ _ hC) (looks_findIn I1.kIn iC) (fun self => bind_fn I1.kIn self tI) (by show 1 ≤ sizeLine; decide)
    (codeAny_mono (F1.run _ X.stack _ _ ⟨[Value.ref (hp.objs.size + 1), u1], []⟩ [Value.ref (hp.objs.size + 1), u1] _ _ (fun _ _ _ => False) (hr.make C [u1] []) (I2.env0.make C [u1] []) (by have := hb _ [Value.ref (hp.objs.size + 1), u1] I2.kIn (by simpa using hl); simpa using this) r2 hsp) fun r s' hq' => ?_))
  cases r with
  | error er => exact hx pins σ _ _ er s' I2 hq'
  | ok fl =>
    cases fl with
    | ret u =>
      obtain ⟨v', H2, os2, bare2, un2, hok2, rv, ev, d, ea, ed, hd1, q2⟩ := hq'
      subst ev
      obtain ⟨h2, g2, d2, t2, os'⟩ := s'
      obtain ⟨t0, G, J, kG, ge, hoe, na⟩ := mk_end0 (d2 := d2) (t2 := t2) I1 hsz kk un2 hok2 os2 bare2 ea ed hd1
      exact ⟨rv, _, _, _, ⟨G, g2, d2, t2, os'⟩, _, .ref C, some d, rfl, J, kG, ge, hoe, ⟨rfl, rfl, fun vs z => by cases z; rfl⟩, rfl, rfl, na, rfl, bare2, raises_own T.exC T.tyC, q2⟩
    | next => exact False.elim hq'
    | brk => exact False.elim hq'
    | cont => exact False.elim hq'
end DW
set_option Elab.async false
set_option linter.all false
set_option maxRecDepth 100000
set_option maxHeartbeats 4000000
namespace DW
open PySem PySem.Spec PyProof.Rows L2
section
variable {K : Fg} {B : Bx K}
def dRaise1 (C : Addr) (fld : Str) (okd : D → Prop) (φ : DE) : DSt := fun Ψ _ δ μ => φ Ψ δ μ fun x μ1 => okd x ∧ Ψ (.mk C (some ([fld], [x]))) δ μ1
theorem sRaise1 {W : WX} {C : Addr} {fld : Str} {okd : D → Prop} {okv : V → Hp → Prop} {te : TE} {φ : DE} (hW : B.W = W) (hok : ∀ (μ : Sto) (H : Hp) (v : V) (d : D), Rep K μ H v d → okd d → okv v H) (a : SE B te φ) :
    SS B (fun _ σ H => (fun (σ : L2.St) (H : Hp) (Q : XK) => tCons te tNil σ H fun vs H1 => ∃ v, vs = [v] ∧ (∀ a, H1 a = none → okv v (upd H1 a (exo a C none))) ∧ ∀ d, H1 d = none → Q (.ref C) (some d) (upd H1 d (.xd [(fld, v)]))) σ H fun cls d H' => W cls d σ H') (dRaise1 C fld okd φ) := fun D Δ σ H δ μ E S q => by
  subst hW
  refine a σ H δ μ _ _ S q fun v H1 x μ1 S1 e1 r1 q1 => ?_
  obtain ⟨q2, q3⟩ := q1
  refine ⟨v, rfl, fun b hb => hok μ1 _ v x (r1.mono (.new hb)) q2, fun d hd => ?_⟩
  have ev : Evo μ1 H1 μ1 (upd H1 d (.xd [(fld, v)])) := .new hd
  exact B.hW _ _ σ _ (.mk C (some ([fld], [x]))) δ μ1 (S1.step ev (S1.sto.new hd)) ⟨rfl, d, [v], rfl, upd_same, .new S1.sto hd, rfl, r1.mono ev⟩ q3
/-- n.f, n the error that a suite holds -/
def dXf (a : Addr) (x : XD) (C : Addr) (f : Str) (φ : DE) : DE := fun Ψ δ μ Φ => φ Ψ δ μ fun y μ1 => y = .hd (.ref a) ∧ ∃ (ns : List Str) (ds : List DW.D) (i : Nat) (d : DW.D), x = .mk C (some (ns, ds)) ∧ ns[i]? = some f ∧ ns.Nodup ∧ ds[i]? = some d ∧ Φ d μ1
theorem zip_lookup : ∀ {ns : List Str} {us : List V} {i : Nat} {f : Str} {v : V}, ns.Nodup → ns[i]? = some f → us[i]? = some v → (ns.zip us).lookup f = some v
  | [], us, i, f, v, _, h, _ => by cases h
  | n :: ns, [], i, f, v, _, _, h => by cases h
  | n :: ns, u :: us, 0, f, v, _, h1, h2 => by
    have e1 := Option.some.inj h1
    have e2 := Option.some.inj h2
    subst e1 e2
    simp [List.lookup]
  | n :: ns, u :: us, i + 1, f, v, hn, h1, h2 => by
    have hne : ¬ (f = n) := fun z => by
      have : f ∈ ns := List.mem_of_getElem? h1
      rw [z] at this
      exact (List.nodup_cons.mp hn).1 this
    have hb : (f == n) = false := by simp [hne]
    show (match f == n with | true => some u | false => (ns.zip us).lookup f) = some v
    rw [hb]
    exact zip_lookup (List.nodup_cons.mp hn).2 h1 h2
def rIsH (K : Fg) (cls : Value) (dd : Option Addr) (a : Addr) : List V → Hp → VK → Prop := fun xs H Q => ∃ C, cls = .ref C ∧ L2.ExcC K C ∧ (dd = none ∨ ∃ p fs, dd = some p ∧ H p = some (.xd fs)) ∧
  ∃ (c : V) (cv : Value) (b : Bool), xs = [.ref a, c] ∧ (∀ u, RelV c u → u = cv) ∧ PySem.W.kitOne K (.ref C) cv = some b ∧ Q (.bl b) H
theorem call_isH {X : Cx} {a : Addr} {cls : Value} {dd : Option Addr} {oe : Obj} {pn : List (Addr × Obj)} (hz : L2N.Zn cls dd oe) (hf : ∃ vs, oe.data = .fields vs) : CallR (X.suite a ((a, oe) :: pn)) (.builtin "isinstance") (rIsH X.K cls dd a) := by
  intro pins s σ H xs us Q I r h
  obtain ⟨C, rfl, hC, hdd, c, cv, b, rfl, hcv, e, q⟩ := h
  obtain ⟨hget, _⟩ := I.pin (a, oe) (List.mem_append.mpr (.inl List.mem_cons_self))
  obtain ⟨vs, hv⟩ := hf
  obtain ⟨u1, u2, rfl, r1, r2⟩ := vals2 r
  obtain rfl : u1 = Value.ref a := r1
  have ec := hcv _ r2
  subst ec
  obtain ⟨od, J⟩ : ∃ od, PySem.W.InstAt s.heap a oe C od := by
    obtain ⟨oc, od, oda, osl⟩ := oe
    obtain ⟨h1, h2, _⟩ := hz
    dsimp only at h1 h2 hv
    subst h1 hv
    rcases hdd with z | ⟨p, fs, z, hp⟩
    · subst z; subst h2; exact ⟨none, hget, rfl, rfl, trivial⟩
    · subst z; subst h2
      obtain ⟨mA, ⟨o, es, ep, ho, _⟩, _⟩ := (I.hok p _ hp)
      exact ⟨some o, hget, rfl, rfl, ho⟩
  have hcl : (PySem.W.clsIn X.K C).isSome = true := by
    obtain ⟨cd, q, _⟩ := PySem.W.any_some hC.hd
    rw [q]; rfl
  exact PySem.W.kia_one (PySem.W.kitx_exc hcl hC.hg hC.hk hC.hs hC.ha hC.hn hC.ht hC.hm) I.kIn J e (fun z => nomatch z) fun tk => ⟨.bl b, H, I.kept (t' := tk) fun _ _ z => z, rfl, q⟩
def kitE (K : Fg) : XD → V → Option Bool
  | .mk C _, .ref T => PySem.W.kitOne K (.ref C) (.ref T)
  | .mk C _, .ty T => PySem.W.kitOne K (.ref C) (.type T)
  | _, _ => none
def excE (K : Fg) : XD → Prop
  | .mk C _ => L2.ExcC K C
def dIsE (K : Fg) (a : Addr) (x : XD) (ψ : DA) : DE := fun Ψ δ μ Φ => ψ Ψ δ μ fun xs μ1 => ∃ c b, xs = [.hd (.ref a), .hd c] ∧ kitE K x c = some b ∧ excE K x ∧ Φ (.bl b) μ1
theorem sIsE {a : Addr} {cls : Value} {dd : Option Addr} {x : XD} {tas : TA} {ψ : DA} (rx : RepX K B.μ0 B.H0 cls dd x) (s : SA B tas ψ) : SE B (tCB (rIsH K cls dd a) tas) (dIsE K a x ψ) := fun σ H δ μ Φ Q S q k =>
  s σ H δ μ _ _ S q fun vs H1 xs μ1 S1 e1 r1 q1 => by
    obtain ⟨c, b, rfl, hk, hx, q2⟩ := q1
    obtain ⟨v, w, rfl, ra, rb⟩ := reps2 r1
    obtain rfl := Rep.hd_inv ra
    obtain rfl := Rep.hd_inv rb
    obtain ⟨C, fs⟩ := x
    have hcd : cls = .ref C ∧ (dd = none ∨ ∃ p fs', dd = some p ∧ H1 p = some (.xd fs')) := by
      cases fs with
      | none => exact ⟨rx.1, .inl rx.2⟩
      | some f =>
        obtain ⟨ns, ds⟩ := f
        obtain ⟨hc, p, us, hp, hH, hn, _⟩ := rx
        exact ⟨hc, .inr ⟨p, _, hp, (S1.evo.st _ _ hH hn).1⟩⟩
    obtain ⟨rfl, hdd⟩ := hcd
    refine ⟨C, rfl, hx, hdd, ?_⟩
    cases w with
    | ref T => exact ⟨_, .ref T, b, rfl, fun u h => by cases h; rfl, hk, k _ H1 _ μ1 S1 e1 (.bl _ .nil) q2⟩
    | ty T => exact ⟨_, .type T, b, rfl, fun u h => by cases h; rfl, hk, k _ H1 _ μ1 S1 e1 (.bl _ .nil) q2⟩
    | _ => cases hk
end
end DW
set_option Elab.async false
set_option linter.all false
set_option maxRecDepth 100000
set_option maxHeartbeats 4000000
namespace DW
open PySem PySem.Spec PyProof.Rows L2
theorem repr_ints {prog : Program} {w : World} : ∀ {l : List Int} {its : List Value}, Vals (l.map V.int) its → (∀ i ∈ l, i.natAbs.log2 < 1920) → ReprAll prog w its (l.map fun i => Str.ofString (toString i))
  | [], _, r, _ => by cases r; exact .nil
  | y :: l, _, r, h => by
    cases r with
    | cons r1 r2 =>
      obtain ⟨t, rfl⟩ := r1
      exact .cons (ReprIs.int t (h y List.mem_cons_self)) (repr_ints r2 fun z hz => h z (List.mem_cons_of_mem _ hz))
theorem piled_ints : ∀ (l : List Int), (∀ i ∈ l, i.natAbs.log2 < 1920) → piled (l.map fun i => Str.ofString (toString i)) ≤ 3000 * l.length
  | [], _ => by simp [piled]
  | y :: l, h => by
    have ih := piled_ints l fun z hz => h z (List.mem_cons_of_mem _ hz)
    have e := int_text_length_le (k := 1920) (by decide) (h y List.mem_cons_self)
    rw [List.map_cons, piled_cons, PySem.ofString_length, List.length_cons]
    omega
def tFmtI (K : Fg) (te : TE) : TE := fun σ H Q => te σ H fun x H1 => ∃ (a : Addr) (l : List Int), x = .ref a ∧ SqT K H1 a (l.map V.int) ∧ (∀ i ∈ l, i.natAbs.log2 < 1920) ∧ l.length ≤ 1000 ∧ ∀ m : Str, m.length ≤ 3000100 → Q (.str m) H1
theorem pe_fmtI {X : Cx} {e : Expr} {te : TE} {pos : Pos} {k : Nat} (hr : Room k X.A) (he : PE X e te) : PE X (.FormattedValue e (-1) none pos) (tFmtI X.K te) := by
  refine ⟨fun pins s σ H Q I h => ?_⟩
  refine wpAny_FormattedValue_plain (thn (he.run pins s σ H _ I h) fun v s1 hv => ?_)
  obtain ⟨x, H1, I1, r1, a, l, rfl, ht, hc, hz, q⟩ := hv
  cases r1
  obtain ⟨its, rv, ⟨o, ho, hcl, n, hd⟩, _⟩ := I1.tuple ht
  have hp := piled_ints l hc
  have htx := fmt_text (l.map fun i => Str.ofString (toString i))
  have hu := hr.units
  exact fmt_tuple (ts := l.map fun i => Str.ofString (toString i)) (by omega) ho hcl hd (repr_ints rv hc) (by rw [sizeLine_eq]; omega) fun m u tk hm => ⟨.str m, H1, I1.tok _, ⟨u, rfl⟩, q m (by omega)⟩
def okPath (K : Fg) : V → Hp → Prop := fun v H => ∃ (a : Addr) (l : List Int), v = .ref a ∧ SqT K H a (l.map V.int) ∧ (∀ i ∈ l, i.natAbs.log2 < 1920) ∧ l.length ≤ 1000
theorem strlen_append (a b : Str) : (a ++ b).length = a.length + b.length := by first | exact PySem.Str.length_append a b | exact StrLaws.length_append a b | exact PySem.StrLaws.length_append a b
/-- f"..{path}.." -/
theorem msg_path {X : Cx} {s1 s2 : Str} {k1 k2 : Nat} {k : Nat} {fld : Str} {q1 q2 q3 q4 q5 : Pos} (hr : Room k X.A) (h1 : s1.length ≤ 1000) (h2 : s2.length ≤ 1000) (hv : PE X (.Name fld q2) (tVar 1)) :
    ∃ te, PE X (.JoinedStr [.Constant (.str s1) k1 q1, .FormattedValue (.Name fld q2) (-1) none q3, .Constant (.str s2) k2 q5] q4) te ∧ ∀ (σ : L2.St) (H : Hp) (v : V), σ[1]? = some (some v) → okPath X.K v H → ∀ Q : VK, (∀ x, Q x H) → te σ H Q :=
  ⟨_, pe_joined (.cons pe_str (.cons (pe_fmtI hr hv) (.cons pe_str .nil))), fun σ H v e ⟨a, l, ev, hs, hi, hl⟩ Q hq => by
    subst ev
    refine ⟨s1, rfl, ?_, .ref a, e, a, l, rfl, hs, hi, hl, fun m hm => ⟨m, rfl, ?_, s2, rfl, ?_, hq _⟩⟩
    · rw [strlen_append, sizeLine_eq]; show 0 + _ ≤ _; omega
    · rw [strlen_append, strlen_append, sizeLine_eq]; show 0 + _ + _ ≤ _; omega
    · rw [strlen_append, strlen_append, strlen_append, sizeLine_eq]; show 0 + _ + _ + _ ≤ _; omega⟩
theorem reps_int_inv {K : Fg} {μ : Sto} {H : Hp} : ∀ {vs : List V} {ns : List Int}, Reps K μ H vs (ns.map D.int) → vs = ns.map V.int
  | [], [], _ => rfl
  | [], _ :: _, r => by have := r.length; simp at this
  | _ :: _, [], r => by have := r.length; simp at this
  | v :: vs, n :: ns, r => by
    rw [List.map_cons] at r ⊢
    rw [Rep.int_inv r.split.1, reps_int_inv r.split.2]
def okdPath : D → Prop := fun d => ∃ l : List Int, d = .tup (l.map .int) ∧ (∀ i ∈ l, i.natAbs.log2 < 1920) ∧ l.length ≤ 1000
theorem okdPath_ok {K : Fg} (μ : Sto) (H : Hp) (v : V) (d : D) (r : Rep K μ H v d) (h : okdPath d) : okPath K v H := by
  obtain ⟨l, rfl, hi, hl⟩ := h
  obtain ⟨a, vs, rfl, ht, hr⟩ := Rep.tup_inv r
  have e := reps_int_inv hr
  subst e
  exact ⟨a, l, rfl, ht.sq, hi, hl⟩
end DW
set_option Elab.async false
set_option linter.all false
set_option maxRecDepth 100000
namespace DW
open PySem PySem.Spec PyProof.Rows L2
section
variable {K : Fg} {μ : Sto} {Φ : DK}
/-- len of a text -/
def cLenStr : DC := fun xs μ Φ => ∃ z, xs = [.str z] ∧ z.length ≤ 100000 ∧ Φ (.int z.length) μ
theorem w_lenStr {s : Str} : cLenStr [.str s] μ Φ = ((TL.tl s).length ≤ 100000 ∧ Φ (.int (TL.tl s).length) μ) := propext ⟨fun ⟨z, e, h1, q⟩ => by cases e; exact ⟨h1, q⟩, fun ⟨h1, q⟩ => ⟨s, rfl, h1, q⟩⟩
theorem w_catStr {s t : Str} : oCatS (.str s) (.str t) μ Φ = ((TL.tl s).length + (TL.tl t).length ≤ 100000 ∧ Φ (.str (s ++ t)) μ) := propext ⟨fun ⟨a, b, e1, e2, h, q⟩ => by cases e1; cases e2; exact ⟨h, q⟩, fun ⟨h, q⟩ => ⟨s, t, rfl, rfl, h, q⟩⟩
theorem w_ixStr {s : Str} {i : Int} : oIxS (.str s) (.int i) μ Φ = ((TL.tl s).length ≤ 100000 ∧ ∃ c, atI (TL.tl s) i = some c ∧ Φ (.str ⟨#[c]⟩) μ) := propext ⟨fun ⟨z, j, c, e1, e2, h, h2, q⟩ => by cases e1; cases e2; exact ⟨h, c, h2, q⟩, fun ⟨h, c, h2, q⟩ => ⟨s, i, c, rfl, rfl, h, h2, q⟩⟩
theorem w_inStr {c : Nat} {z : Str} : oInS false (.str ⟨#[c]⟩) (.str z) μ Φ = Φ (.bl (decide (c ∈ TL.tl z))) μ := propext ⟨fun ⟨c', z', e1, e2, q⟩ => by cases e1; cases e2; exact q, fun q => ⟨c, z, rfl, rfl, q⟩⟩
theorem w_strE {s : Str} {P : Str → Prop} : (∃ z, D.str s = D.str z ∧ P z) = P s := propext ⟨fun ⟨z, e, h⟩ => by cases e; exact h, fun h => ⟨s, rfl, h⟩⟩
theorem w_strI {i : Int} : cStr [.int i] μ Φ = (i.natAbs.log2 < 1920 ∧ Φ (.str (toString i)) μ) := propext ⟨(fun h => by
  rcases h with ⟨j, e, h1, q⟩ | ⟨a, e, q⟩
  · cases e; exact ⟨h1, q⟩
  · cases e), fun ⟨h1, q⟩ => .inl ⟨i, rfl, h1, q⟩⟩
theorem w_strS {s : Str} : cStr [.str s] μ Φ = Φ (.str s) μ := propext ⟨(fun h => by
  rcases h with ⟨j, e, h1, q⟩ | ⟨a, e, q⟩
  · cases e
  · cases e; exact q), fun q => .inr ⟨s, rfl, q⟩⟩
end
end DW
set_option Elab.async false
set_option linter.all false
set_option maxRecDepth 100000
namespace DW
open PySem PySem.Spec PyProof.Rows L2
section
variable {K : Fg} {μ : Sto} {Φ : DK} {Ψ : XP} {δ : DEnv}
theorem u_iEn {φ : DE} {c : Int} {Ls : List D → Sto → Prop} : iEnD φ c Ψ δ μ Ls = φ Ψ δ μ fun x μ1 => ∃ ds, x = .tup ds ∧ Ls ((List.range ds.length).map fun (i : Nat) => .pr [.int (c + (i : Int)), ds.getD i .non]) μ1 := rfl
theorem u_raise1 {C : Addr} {fld : Str} {okd : D → Prop} {φ : DE} {Δ : DEnds} : dRaise1 C fld okd φ Ψ Δ δ μ = φ Ψ δ μ fun x μ1 => okd x ∧ Ψ (.mk C (some ([fld], [x]))) δ μ1 := rfl
theorem u_slS {φ : DE} {ol oh : XP → DEnv → Sto → (Option Int → Sto → Prop) → Prop} : dSlS φ ol oh Ψ δ μ Φ = φ Ψ δ μ fun x μ1 => ol Ψ δ μ1 fun lo μ2 => oh Ψ δ μ2 fun hi μ3 => ∃ z, x = .str z ∧ z.length ≤ 100000 ∧ Φ (.str (cutS z lo hi)) μ3 := rfl
def cListStr : DC := fun xs μ Φ => ∃ z : Str, xs = [.str z] ∧ z.length ≤ 100000 ∧ Φ (.lst (z.cps.toList.map fun c => .str ⟨#[c]⟩)) μ
theorem w_listStr {s : Str} : cListStr [.str s] μ Φ = ((TL.tl s).length ≤ 100000 ∧ Φ (.lst ((TL.tl s).map fun c => .str ⟨#[c]⟩)) μ) := propext ⟨fun ⟨z, e, h1, q⟩ => by cases e; exact ⟨h1, q⟩, fun ⟨h1, q⟩ => ⟨s, rfl, h1, q⟩⟩
end
end DW
set_option Elab.async false
set_option linter.all false
set_option maxRecDepth 100000
namespace DW
open PySem PySem.Spec PyProof.Rows L2
structure Two (μ : Sto) (p st : Addr) (L c : List D) (μ' : Sto) : Prop where
  hp : μ p = none
  ne : st ≠ p
  pL : μ' p = some (.lst L)
  sc : μ' st = some (.lst c)
  ot : ∀ a, a ≠ p → a ≠ st → μ' a = μ a
theorem Two.start {μ : Sto} {p st : Addr} {L c : List D} (hp : μ p = none) (hs : μ st = some (.lst c)) : Two μ p st L c (sset μ p (.lst L)) := by
  have ne : st ≠ p := fun z => by rw [z, hp] at hs; cases hs
  exact ⟨hp, ne, sset_same, by rw [sset_ne ne]; exact hs, fun a h _ => sset_ne h⟩
theorem Two.setS {μ μ' : Sto} {p st : Addr} {L c c2 : List D} (T : Two μ p st L c μ') : Two μ p st L c2 (sset μ' st (.lst c2)) :=
  ⟨T.hp, T.ne, by rw [sset_ne (Ne.symm T.ne)]; exact T.pL, sset_same, fun a h1 h2 => by rw [sset_ne h2]; exact T.ot a h1 h2⟩
theorem Two.setP {μ μ' : Sto} {p st : Addr} {L L2 c : List D} (T : Two μ p st L c μ') : Two μ p st L2 c (sset μ' p (.lst L2)) :=
  ⟨T.hp, T.ne, sset_same, by rw [sset_ne T.ne]; exact T.sc, fun a h1 h2 => by rw [sset_ne h1]; exact T.ot a h1 h2⟩
theorem Two.sub {μ μ' : Sto} {p st : Addr} {L c : List D} (T : Two μ p st L c μ') : Sub (sset μ st (.lst c)) μ' := fun a x e => by
  by_cases h : a = st
  · subst h; rw [sset_same] at e; rw [T.sc]; exact e
  · rw [sset_ne h] at e
    have h1 : a ≠ p := fun z => by rw [z, T.hp] at e; cases e
    rw [T.ot a h1 h]; exact e
theorem Two.del {μ μ' : Sto} {p st : Addr} {L c : List D} (T : Two μ p st L c μ') : sdel μ' p = sset μ st (.lst c) := by
  funext a
  unfold sdel
  by_cases h : a = p
  · subst h; rw [if_pos rfl, sset_ne (Ne.symm T.ne), T.hp]
  · rw [if_neg h]
    by_cases h2 : a = st
    · subst h2; rw [sset_same, T.sc]
    · rw [sset_ne h2]; exact T.ot a h h2
theorem atI_last {xs : List D} {d : D} : atI (xs ++ [d]) (-1) = some d := by
  unfold atI ixN
  rw [if_neg (by omega), if_pos (by rw [List.length_append, List.length_singleton]; omega)]
  show (xs ++ [d])[(-1 + (((xs ++ [d]).length : Nat) : Int)).toNat]? = some d
  have e : (-1 + (((xs ++ [d]).length : Nat) : Int)).toNat = xs.length := by rw [List.length_append, List.length_singleton]; omega
  rw [e, List.getElem?_append_right (Nat.le_refl _), Nat.sub_self]
  rfl
/-- a comprehension whose items are drawn from the state at st -/
theorem lcG_drawN {Ψ : XP} {Φ : DK} {n : Nat} {φ : DE} {δw : DEnv} {μ1 : Sto} {xs : List D} {st : Addr} (Sc : List D → Prop) (Inv : Nat → List D → Prop) {c : List D} (hz : xs.length ≤ 100000)
    (hst : μ1 st = some (.lst c)) (h0 : Sc c) (hI : Inv 0 [])
    (hs : ∀ (i : Nat) (d : D) (μ2 : Sto) (X : DK) (acc c : List D), xs[i]? = some d → μ2 st = some (.lst c) → Sc c → Inv i acc → acc.length = i →
      (∀ y c', Sc c' → Inv (i + 1) (acc ++ [y]) → X y (sset μ2 st (.lst c'))) → φ Ψ (δw.set n (some d)) μ2 X)
    (hd : ∀ acc c, Inv xs.length acc → acc.length = xs.length → Sc c → Φ (.lst acc) (sset μ1 st (.lst c))) : LcG (eName n) dYes φ δw Ψ xs μ1 Φ := fun p hp => by
  refine ⟨fun i μ' => ∃ acc c, Two μ1 p st acc c μ' ∧ Sc c ∧ Inv i acc ∧ acc.length = i, ⟨[], c, .start hp hst, h0, hI, rfl⟩, ?_, ?_⟩
  · rintro i d μ2 hi ⟨acc, c, T, s, I, hl⟩
    have hlt : i < xs.length := (List.getElem?_eq_some_iff.mp hi).1
    refine ⟨fun _ => ?_, fun z => nomatch z⟩
    exact hs i d μ2 _ acc c hi T.sc s I hl fun y c' s' I' => ⟨acc, T.setS.pL, by omega, _, c', T.setS.setP, s', I', by simp [hl]⟩
  · rintro μ2 ⟨acc, c, T, s, I, hl⟩
    exact ⟨acc, T.pL, by rw [T.del]; exact hd acc c I hl s⟩
section
variable {K : Fg} {μ : Sto} {Φ : DK} {Ψ : XP} {δ : DEnv}
theorem u_isE {a : Addr} {x : XD} {ψ : DA} : dIsE K a x ψ Ψ δ μ Φ = ψ Ψ δ μ fun xs μ1 => ∃ c b, xs = [.hd (.ref a), .hd c] ∧ kitE K x c = some b ∧ excE K x ∧ Φ (.bl b) μ1 := rfl
theorem w_isE {a : Addr} {c : V} {P : V → Bool → Prop} : (∃ c' b, [D.hd (.ref a), D.hd c] = [.hd (.ref a), .hd c'] ∧ P c' b) = ∃ b, P c b := propext ⟨fun ⟨c', b, e, q⟩ => by cases e; exact ⟨b, q⟩, fun ⟨b, q⟩ => ⟨c, b, rfl, q⟩⟩
theorem u_kitER {C T : Addr} {f : Option (List Str × List D)} : kitE K (.mk C f) (.ref T) = PySem.W.kitOne K (.ref C) (.ref T) := rfl
theorem u_kitET {C : Addr} {T : String} {f : Option (List Str × List D)} : kitE K (.mk C f) (.ty T) = PySem.W.kitOne K (.ref C) (.type T) := rfl
theorem u_excE {C : Addr} {f : Option (List Str × List D)} : excE K (.mk C f) = L2.ExcC K C := rfl
theorem u_xf {a C : Addr} {x : XD} {f : Str} {φ : DE} : dXf a x C f φ Ψ δ μ Φ = φ Ψ δ μ fun y μ1 => y = .hd (.ref a) ∧ ∃ (ns : List Str) (ds : List D) (i : Nat) (d : D), x = .mk C (some (ns, ds)) ∧ ns[i]? = some f ∧ ns.Nodup ∧ ds[i]? = some d ∧ Φ d μ1 := rfl
theorem w_xf1 {C : Addr} {f : Str} {d : D} {P : D → Prop} : (∃ (ns : List Str) (ds : List D) (i : Nat) (d' : D), XD.mk C (some ([f], [d])) = .mk C (some (ns, ds)) ∧ ns[i]? = some f ∧ ns.Nodup ∧ ds[i]? = some d' ∧ P d') = P d := propext ⟨fun ⟨ns, ds, i, d', e, h1, _, h2, q⟩ => by
  cases e
  cases i with
  | zero => cases h2; exact q
  | succ i => simp at h1, fun q => ⟨[f], [d], 0, d, rfl, rfl, by simp, rfl, q⟩⟩
end
end DW
set_option Elab.async false
set_option linter.all false
set_option maxRecDepth 100000
set_option maxHeartbeats 4000000
namespace DW
open PySem PySem.Spec PyProof.Rows L2
section layer
variable {X : Cx} {CX : CXT} {k : Nat} {f C : Addr} {fd : FuncData} {ps : List Str} {sp : Sp} {E : L2.St → XK} {x m : Str} {p pos apos : Pos} {e o : Expr} {es : List Expr} {ta : TE} {t : TA}
theorem run_makeS {pins : List (Addr × Obj)} {σ : L2.St} {H : Hp} {s : Shared} {Q : VK} {us : List Value} {vs : List V} (M : Mk X.K C f) (F : FnOk X.prog X.w X.K X.mg X.base CX k f fd ps sp) (hr : Room (k + 1) X.A) (hb : Binds X.K fd ps [])
    (hx : ∀ σ, PassesAt CX X σ (E σ)) (I : Inv X pins σ H s) (r : Vals vs us)
    (h : ∀ x dx, H x = none → H dx = none → dx ≠ x → sp (.ref x :: vs) (upd (upd H dx (.own x)) x (.ins C dx [])) (fun v H2 => v = .non ∧ Q (.ref x) H2) (E σ)) :
    wpAny (model X.prog X.w) X.A (call (.ref C) us) (EP X pins σ Q) X.xe s := by
  have hq := h (s.heap.objs.size + 1) s.heap.objs.size (I.hok.fresh (Nat.le_succ _)) (I.hok.fresh (Nat.le_refl _)) (Nat.ne_of_lt (Nat.lt_succ_self _))
  have I2 := Inv.made (C := C) I
  have r2 : Vals (V.ref (s.heap.objs.size + 1) :: vs) (Value.ref (s.heap.objs.size + 1) :: us) := .cons rfl r
  have hl : (Value.ref (s.heap.objs.size + 1) :: us).length = ps.length := by
    have e := r2.length
    rw [F.len _ _ _ _ hq] at e
    exact e.symm
  have hb2 := hb _ (Value.ref (s.heap.objs.size + 1) :: us) I2.kIn (by rw [List.append_nil]; exact hl)
  rw [List.append_nil] at hb2
  refine wpAny_call (make_map (f := f) I.kIn M.makes M.init (beq_iff_eq.mp M.fn) (codeAny_mono (F.run _ X.stack _ _ ⟨Value.ref (s.heap.objs.size + 1) :: us, []⟩ (Value.ref (s.heap.objs.size + 1) :: us) _ _ (E σ) (hr.make C us [])
    (I2.env0.make C us []) hb2 r2 hq) fun r s' hq' => ?_))
  cases r with
  | error e => exact hx σ pins _ _ e s' I2 hq'
  | ok fl =>
    cases fl with
    | ret u =>
      obtain ⟨v, H', I3, rv, ev, q3⟩ := I2.after hq'
      subst ev
      exact ⟨rv, ⟨V.ref (s.heap.objs.size + 1), H', I3, rfl, q3⟩⟩
    | next => exact False.elim hq'
    | brk => exact False.elim hq'
    | cont => exact False.elim hq'
def tMakeS (C : Addr) (sp : Sp) (E : L2.St → XK) (t : TA) : TE := fun σ H Q => t σ H fun vs H1 => ∀ x dx, H1 x = none → H1 dx = none → dx ≠ x → sp (.ref x :: vs) (upd (upd H1 dx (.own x)) x (.ins C dx [])) (fun v H2 => v = .non ∧ Q (.ref x) H2) (E σ)
theorem pe_makeS (M : Mk X.K C f) (F : FnOk X.prog X.w X.K X.mg X.base CX k f fd ps sp) (hr : Room (k + 1) X.A) (hg : Gl X x) (hm : X.mg x = some (.ref C)) (hb : Binds X.K fd ps []) (hx : ∀ σ, PassesAt CX X σ (E σ))
    (ha : PA X (e :: es) t) (hdb : (x == ("__debug__" : Str)) = false := by decide) (he : starEach (e :: es) X.env = (false, eval e X.env) :: starEach es X.env := by rfl) (hpl : (backTo pos (starEach es X.env)).any (·.1) = false := by rfl) :
    PE X (.Call (.Name x p) (e :: es) [] pos) (tMakeS C sp E t) := by
  refine ⟨fun pins s σ H Q I h => ?_⟩
  refine wpAny_Call_Name_kw (ld_glob I hg hm ?_ hdb)
  refine PySem.W.callWith_K (h₀ := X.base) I.ok.mod.kin M.kp (thn (ha.run pos pins s σ H _ I h) fun us s1 ⟨vs, H1, I1, r, q⟩ => ⟨I1.kIn, ?_⟩) he hpl
  exact run_makeS M F hr hb hx I1 r q
def tMethX (C : Addr) (m : Str) (sp : Sp) (E : L2.St → XK) (ta : TE) (t : TA) : TE := fun σ H Q => ta σ H fun x H1 => ∃ a dx fs, x = .ref a ∧ H1 a = some (.ins C dx fs) ∧ fs.lookup m = none ∧ t σ H1 fun vs H2 => sp (x :: vs) H2 Q (E σ)
end layer
section
variable {K : Fg} {B : Bx K} {ta tv : TE} {φ φa φv : DE} {tas : TA} {ψ : DA} {μ : Sto} {H : Hp}
theorem Rep.obj_inv {v : V} {C : Addr} {ns : List Str} {ds : List D} (h : Rep K μ H v (.obj C ns ds)) : ∃ a dx us, v = .ref a ∧ H a = some (.ins C dx (ns.zip us)) ∧ NM μ a ∧ us.length = ns.length ∧ Reps K μ H us ds := by
  cases h with
  | obj h1 h2 h3 h4 _ => exact ⟨_, _, _, rfl, h1, h2, h3, h4⟩
/-- C(..), C a class whose __init__ keeps c -/
def dMakeS (C : Addr) (c : Con) (ψ : DA) : DE := fun Ψ δ μ Φ => ψ Ψ δ μ fun ds μ1 => ∀ x, μ1 x = none → c (.hd (.ref x) :: ds) (sset μ1 x (.ins C [] [])) (fun d μ2 => d = .non ∧ ∃ ns es, μ2 x = some (.ins C ns es) ∧ Φ (.obj C ns es) (sdel μ2 x)) (fun y μ2 => Ψ y δ μ2)
theorem sMakeS {C : Addr} {c : Con} (a : SA B tas ψ) : SE B (tMakeS C (spOf K c) (WE B.W) tas) (dMakeS C c ψ) := fun σ H δ μ Φ Q S q k =>
  a σ H δ μ _ _ S q fun vs H1 xs μ1 S1 e1 r1 q1 x dx hx hdx hne => by
    have hx' : upd H1 dx (.own x) x = none := by rw [upd_ne (Ne.symm hne)]; exact hx
    have ev0 : Evo μ1 H1 μ1 (upd H1 dx (.own x)) := .new hdx
    have st0 : StoOk K μ1 (upd H1 dx (.own x)) := S1.sto.new hdx
    have ev1 : Evo μ1 (upd H1 dx (.own x)) (sset μ1 x (.ins C [] [])) (upd (upd H1 dx (.own x)) x (.ins C dx [])) := .newC st0 hx'
    have st1 : StoOk K (sset μ1 x (.ins C [] [])) (upd (upd H1 dx (.own x)) x (.ins C dx [])) := st0.cell ev1 ⟨dx, [], upd_same, rfl, .nil⟩
    have ev := ev0.trans ev1
    refine ⟨sset μ1 x (.ins C [] []), .hd (.ref x) :: xs, _, _, st1, .hd _ (r1.mono ev), q1 x (S1.sto.fresh hx), fun v H' d μ' e s r ⟨hd, ns, es, hc, hq⟩ => ?_, fun cls dd H' y μ' e s rx hΨ => ?_⟩
    · subst hd
      obtain rfl := Rep.non_inv r
      refine ⟨rfl, ?_⟩
      obtain ⟨dx', us, hH, hl, hr⟩ := s x _ hc
      have sb : Sub (sdel μ' x) μ' := sdel_sub
      have e2 : Evo μ' H' (sdel μ' x) H' := sb.evo
      exact k _ H' _ (sdel μ' x) (S1.step (ev.trans (e.trans e2)) (sb.sto s)) (e1.trans (ev.trans (e.trans e2))) (.obj hH (NM.of sdel_same) hl (hr.mono e2) .nil) hq
    · exact B.hW cls dd σ H' y δ μ' (S1.step (ev.trans e) s) rx hΨ
/-- x.f, x an instance at rest -/
def dFld (C : Addr) (NS : List Str) (i : Nat) (φ : DE) : DE := fun Ψ δ μ Φ => φ Ψ δ μ fun x μ1 => ∃ ds d, x = .obj C NS ds ∧ ds[i]? = some d ∧ Φ d μ1
theorem sFldO {C : Addr} {NS : List Str} {f : Str} {i : Nat} (c : Cls K C) (n : NoAttr K C f) (hi : NS[i]? = some f) (hn : NS.Nodup) (a : SE B ta φ) : SE B (tFld K ta f) (dFld C NS i φ) := fun σ H δ μ Φ Q S q k =>
  a σ H δ μ _ _ S q fun v H1 x μ1 S1 e1 r1 q1 => by
    obtain ⟨ds, d, rfl, hd, q⟩ := q1
    obtain ⟨p, dx, us, rfl, hH, hnm, hl, hr⟩ := Rep.obj_inv r1
    obtain ⟨u, hu, ru⟩ := hr.get hd
    exact ⟨p, C, dx, _, u, rfl, hH, c, n, zip_lookup hn hi hu, k u H1 d μ1 S1 e1 ru q⟩
theorem putF_new {f : Str} {v : V} : ∀ {ns : List Str} {us : List V}, f ∉ ns → us.length = ns.length → putF f v (ns.zip us) = (ns ++ [f]).zip (us ++ [v])
  | [], [], _, _ => rfl
  | [], _ :: _, _, h => by simp at h
  | _ :: _, [], _, h => by simp at h
  | n :: ns, u :: us, hf, hl => by
    show (if n = f then (n, v) :: ns.zip us else (n, u) :: putF f v (ns.zip us)) = _
    rw [if_neg (fun e => hf (by rw [e]; exact List.mem_cons_self)), putF_new (fun h => hf (List.mem_cons_of_mem _ h)) (by simpa using hl)]
    rfl
/-- self.f = value, a new field of an instance in the making -/
def dSetF (C : Addr) (f : Str) (φv φa : DE) : DSt := fun Ψ Δ δ μ => φv Ψ δ μ fun y μ1 => φa Ψ δ μ1 fun x μ2 => ∃ a ns ds, x = .hd (.ref a) ∧ μ2 a = some (.ins C ns ds) ∧ f ∉ ns ∧ ns.length < 1000 ∧ Δ.nx δ (sset μ2 a (.ins C (ns ++ [f]) (ds ++ [y])))
theorem sSetF {C : Addr} {f : Str} (c : Cls K C) (n : NoAttr K C f) (b : SE B tv φv) (a : SE B ta φa) : SS B (sFld K ta tv f) (dSetF C f φv φa) := fun D Δ σ H δ μ E S q =>
  b σ H δ μ _ _ S q fun w H1 y μ1 S1 e1 r1 q1 => a σ H1 δ μ1 _ _ S1 q1 fun v H2 x μ2 S2 e2 r2 q2 => by
    obtain ⟨p, ns, ds, rfl, hc, hf, hz, q⟩ := q2
    obtain rfl := Rep.hd_inv r2
    obtain ⟨dx, us, hH, hl, hr⟩ := S2.sto p _ hc
    refine ⟨p, C, dx, _, rfl, hH, c, n, by rw [List.length_zip, hl, Nat.min_self]; exact hz, ?_⟩
    rw [putF_new hf hl]
    have ev : Evo μ2 H2 (sset μ2 p (.ins C (ns ++ [f]) (ds ++ [y]))) (upd H2 p (.ins C dx ((ns ++ [f]).zip (us ++ [w])))) := .cell hc fun h => h.notI hc
    exact E.nx σ _ δ _ (S2.step ev (S2.sto.cell ev ⟨dx, us ++ [w], upd_same, by simp [hl], (hr.append (r1.mono e2)).mono ev⟩)) q
/-- x.m(..), x an instance at rest -/
def dMethX (C : Addr) (NS : List Str) (c : Con) (φ : DE) (ψ : DA) : DE := fun Ψ δ μ Φ => φ Ψ δ μ fun x μ1 => ∃ es, x = .obj C NS es ∧ ψ Ψ δ μ1 fun ds μ2 => c (x :: ds) μ2 Φ fun y μ3 => Ψ y δ μ3
theorem lookup_zip_none {m : Str} : ∀ {ns : List Str} {us : List V}, m ∉ ns → (ns.zip us).lookup m = none
  | [], _, _ => rfl
  | _ :: _, [], _ => rfl
  | n :: ns, u :: us, h => by
    show (match m == n with | true => some u | false => (ns.zip us).lookup m) = none
    have : (m == n) = false := beq_eq_false_iff_ne.mpr fun e => h (by rw [e]; exact List.mem_cons_self)
    rw [this]
    exact lookup_zip_none fun z => h (List.mem_cons_of_mem _ z)
theorem sMethX {C : Addr} {NS : List Str} {m : Str} {c : Con} (hm : m ∉ NS) (a : SE B ta φ) (b : SA B tas ψ) : SE B (tMethX C m (spOf K c) (WE B.W) ta tas) (dMethX C NS c φ ψ) := fun σ H δ μ Φ Q S q k =>
  a σ H δ μ _ _ S q fun v H1 x μ1 S1 e1 r1 q1 => by
    obtain ⟨es, rfl, q2⟩ := q1
    obtain ⟨p, dx, us, rfl, hH, hnm, hl, hr⟩ := Rep.obj_inv r1
    refine ⟨p, dx, _, rfl, hH, lookup_zip_none hm, b σ H1 δ μ1 _ _ S1 q2 fun vs H2 ds μ2 S2 e2 r2 q3 => ?_⟩
    exact ⟨μ2, _, Φ, fun y μ3 => B.Ψ y δ μ3, S2.sto, .cons (r1.mono e2) r2, q3, fun v H3 d μ3 e3 s3 r3 q4 => k v H3 d μ3 (S2.step e3 s3) ((e1.trans e2).trans e3) r3 q4, fun cls dd H3 y μ3 e3 s3 rx q4 => B.hW cls dd σ H3 y δ μ3 (S2.step e3 s3) rx q4⟩
end
end DW
set_option Elab.async false
set_option linter.all false
set_option maxRecDepth 100000
set_option maxHeartbeats 4000000
namespace DW
open PySem PySem.Spec PyProof.Rows L2
section
variable {P : Program} {w : World} {A : Around} {E : Value → Shared → Prop} {s : Shared}
abbrev noneIn (w : World) : Obj := { cls := .type "set", dict := none, data := .set #[] 0 (.fresh 0 0 (!w.params.followText "set-order")) }
/-- what set.__init__ leaves of a list of ints -/
def SetMade (w : World) (s : Shared) (zs : List Int) (s2 : Shared) : Prop := ∃ (hp : Heap) (tk c : Nat), s2 = { s with heap := hp, toks := tk } ∧ SetR w hp s.heap.objs.size (fun j => decide (j ∈ zs)) c ∧ c ≤ zs.length ∧ ∀ b o, s.heap.get? b = some o → hp.get? b = some o
theorem set_init_list {l : Addr} {arr : Array Value} (zs : List Int) (cold : A.handled = none) (isl : s.heap.IsList l arr) (zz : IntsAre arr.toList zs) (few : zs.length + 1 < scanBound) :
    codeAny (model P w) A (.call (.builtin "set.__init__") ⟨[.ref s.heap.objs.size, .ref l], []⟩) (wants (fun r s2 => r = .none ∧ SetMade w s zs s2) E) { s with heap := s.heap.push (noneIn w) } := by
  have many : arr.size = zs.length := by
    have q := IntsAre.length zz
    rw [Array.length_toList] at q
    exact q
  have S0 : (s.heap.push (noneIn w)).get? s.heap.objs.size = some (noneIn w) := Heap.get?_push_size _ rfl
  refine codeAny_call_builtin F.called_set.init.plain F.entry_set_init (check_set_init_1 (s := { s with heap := s.heap.push (noneIn w) }) ⟨_, S0, rfl⟩ ?_)
  have il : (s.heap.push (noneIn w)).IsList l arr := isl.push _
  have ll : l < s.heap.objs.size := by obtain ⟨o, ho, _⟩ := isl; exact Heap.lt_size ho
  obtain ⟨⟨c0, d0, x0, sl0⟩, ho, hc, n0, hd⟩ := id il
  simp only at hc hd
  subst hc hd
  have g1 := F.sub_list_set
  have g2 := F.sub_list_frozenset
  have g3 : (Value.type "list" == Value.type "dict") = false := by decide
  unfold Builtin.«set.__init__» noKeywords Builtin.Frozenset.updateFrom
  generalize hPI : pyIter = PI
  wp_walk
  subst hPI
  refine wpAny_pyIter_list il (wpAny_bind (wpAny_runValue ?_))
  have z1 : (s.heap.push (noneIn w)).objs.size = s.heap.objs.size + 1 := Heap.size_push ..
  have cold3 : A.in1.in1.handled = none := by simp [cold]
  have apart : l ≠ (s.heap.push (noneIn w)).objs.size := by rw [z1]; exact Nat.ne_of_lt (Nat.lt_succ_of_lt ll)
  have apart2 : s.heap.objs.size ∉ [(s.heap.push (noneIn w)).objs.size, l] := by
    rw [z1]
    intro q
    rcases List.mem_cons.1 q with q | q
    · exact absurd q (Nat.ne_of_lt (Nat.lt_succ_self _))
    · exact absurd (List.mem_singleton.1 q) (Nat.ne_of_gt ll)
  have vals : ∀ (i : Nat) (v : Value), arr[i]? = some v → ∃ k t, zs[i]? = some k ∧ v = .int k t := fun i v hv => by
    have lt : i < zs.length := by rw [← many]; exact (Array.getElem?_eq_some_iff.mp hv).1
    obtain ⟨t, e⟩ := zz.int_at i v (by rw [Array.getElem?_toList]; exact hv)
    exact ⟨zs[i], t, List.getElem?_eq_getElem lt, by rw [e, List.getD_eq_getElem?_getD, List.getElem?_eq_getElem lt] <;> rfl⟩
  have start : ((s.heap.push (noneIn w)).push { cls := .type "list_iterator", data := .fields #[.ref l, .int 0 0] }).get? s.heap.objs.size = some (noneIn w) := Heap.get?_push_of_some _ S0
  refine set_update_ints ((Walks.list cold3 _ l apart arr).toS) s.heap.objs.size apart2 zs many few vals (arr.size - 0) 0 { s with heap := (s.heap.push (noneIn w)).push { cls := .type "list_iterator", data := .fields #[.ref l, .int 0 0] } } (by omega) (Nat.zero_le _) ⟨⟨_, Heap.get?_push_size _ rfl, rfl, rfl⟩, il.push _⟩ ?h0 ?hf
  · exact ⟨0, Nat.le_refl 0, setR_new_at start⟩
  intro s2 c mv lc hr
  obtain ⟨hp2, gg, dd, tt, oo⟩ := s2
  obtain rfl : gg = s.gens := mv.gens
  obtain rfl : dd = s.drawn := mv.drawn
  obtain rfl : oo = s.os := mv.os
  rw [many] at lc
  refine wpAny_pure (wpAny_pure ⟨rfl, hp2, tt, c, rfl, hr, lc, fun b o e => ?_⟩)
  have lb : b < s.heap.objs.size := Heap.lt_size e
  refine mv.heap b o (fun q => ?_) (Heap.get?_push_of_some _ (Heap.get?_push_of_some _ e))
  rcases List.mem_cons.1 q with q | q
  · exact absurd q (Nat.ne_of_lt lb)
  · have := List.mem_singleton.1 q; rw [z1] at this; exact absurd this (Nat.ne_of_lt (Nat.lt_succ_of_lt lb))
theorem set_of_list {l : Addr} {arr : Array Value} (zs : List Int) {G : Value → Shared → Prop} (cold : A.handled = none) (isl : s.heap.IsList l arr) (zz : IntsAre arr.toList zs) (few : zs.length + 1 < scanBound)
    (fin : ∀ s2, SetMade w s zs s2 → G (.ref s.heap.objs.size) s2) : wpAny (model P w) A (call (.type "set") [.ref l]) G E s := by
  obtain ⟨c0, t0, m0⟩ := F.called_set.mro
  have a1 := F.called_set.made; have a2 := F.called_set.sub; have a3 := F.called_set.notType; have a4 := F.called_set.canCreate
  have a5 := F.typeCall_set_1 (.ref l)
  refine wpAny_call (codeAny_of_tree (show wpAny _ _ (callAny (.type "set") _) _ _ _ from wpAny_pure ⟨Code.quiet_builtin _ (by decide +kernel), codeAny_builtin F.entry_type_call ?_⟩))
  rw [Around.under_plain (weight_type_call_type "set" [.ref l] []) rfl]
  repeat (any_goals (first | assumption | wp_step))
  refine codeAny_mono (code_set_led1 (.ref l) (E := E) (Q₁ := fun u s1 => u = .ref s.heap.objs.size ∧ s1 = { s with heap := s.heap.push (noneIn w) }) ⟨rfl, rfl⟩) fun r s1 hr => ?_
  match r, hr with
  | .error e, hr => exact hr
  | .ok .next, hr => exact hr.elim
  | .ok .brk, hr => exact hr.elim
  | .ok .cont, hr => exact hr.elim
  | .ok (.ret u), hr =>
    obtain ⟨rfl, rfl⟩ := hr
    have T : Shared.TypeIs { s with heap := s.heap.push (noneIn w) } (.ref s.heap.objs.size) "set" := ⟨_, Heap.get?_push_size _ rfl, rfl⟩
    have a6 := F.called_set.init.lookup; have a7 := F.called_set.init.bind (.ref s.heap.objs.size)
    repeat (any_goals (first | assumption | wp_step))
    refine codeAny_mono (set_init_list zs (A := _) (E := E) (by simp [cold]) isl zz few) fun r2 s2 hr2 => ?_
    match r2, hr2 with
    | .error e, hr2 => exact hr2
    | .ok .next, hr2 => exact hr2.elim
    | .ok .brk, hr2 => exact hr2.elim
    | .ok .cont, hr2 => exact hr2.elim
    | .ok (.ret u), hr2 =>
      obtain ⟨rfl, hm⟩ := hr2
      repeat (any_goals (first | assumption | wp_step))
      exact fin _ hm
end
theorem nodup_le : ∀ {l m : List Int}, l.Nodup → (∀ x ∈ l, x ∈ m) → l.length ≤ m.length
  | [], _, _, _ => Nat.zero_le _
  | x :: l, m, nd, h => by
    have hx := h x List.mem_cons_self
    obtain ⟨n1, n2⟩ := List.nodup_cons.mp nd
    have := nodup_le (m := m.erase x) n2 fun y hy => (List.mem_erase_of_ne (fun (e : y = x) => n1 (by rw [← e]; exact hy))).mpr (h y (List.mem_cons_of_mem _ hy))
    rw [List.length_erase_of_mem hx] at this
    have := List.length_pos_of_mem hx
    rw [List.length_cons]
    omega
theorem SetR.few {w : World} {h : Heap} {a : Addr} {S : Int → Bool} {n : Nat} (R : SetR w h a S n) {m : List Int} (hm : ∀ k, S k = true → k ∈ m) : n ≤ m.length := by
  obtain ⟨o, es, ep, t, ho, hex, hd, g, nd, hs, hb, hf, hn, hr, hl⟩ := R
  have := nodup_le nd (m := m) fun x hx => hm x ((hs x).mpr hx)
  rw [List.length_map, Array.length_toList, hn] at this
  exact this
def tSortSet (K : Fg) (ta : TE) : TE := fun σ H Q => ta σ H fun x H1 => ∃ (l : Addr) (zs : List Int), x = .ref l ∧ (SqL K H1 l (zs.map V.int) ∨ SqT K H1 l (zs.map V.int)) ∧ (zs.length ≤ 1000 ∧ ∃ bd : List Int, bd.length < 64 ∧ ∀ z ∈ zs, z ∈ bd) ∧
  ∀ (ns : List Int) (p : Addr), ns.Pairwise (· < ·) → (∀ k : Int, k ∈ ns ↔ k ∈ zs) → H1 p = none → Q (.ref p) (upd H1 p (.lst (ns.map V.int)))
theorem pe_sortSet {X : Cx} {a : Expr} {ta : TE} {p p2 q pos : Pos} (hg : Gl X "sorted") (hm : X.mg "sorted" = none) (hg2 : Gl X "set") (hm2 : X.mg "set" = none) (ha : PE X a ta) (hc : X.calm = true := by rfl)
    (na : starEach [a] X.env = (false, eval a X.env) :: starEach [] X.env := by rfl) : PE X (.Call (.Name "sorted" p) [.Call (.Name "set" p2) [a] [] q] [] pos) (tSortSet X.K ta) := by
  refine ⟨fun pins s σ H Q I h => Call_ (ld_blt I hg hm boot_sorted (callWith_builtin1 (args_cons (Call_ (ld_blt I hg2 hm2 boot_set ?_)) rfl) rfl rfl))⟩
  refine callWith_type1 (args_cons (thn (ha.run pins s σ H _ I h) fun v s1 ⟨x, H1, I1, r1, l, zs, ex, hq, ⟨h1000, bd, h64, hbd⟩, k⟩ => args_nil ?_) na) na rfl
  subst ex
  cases r1
  have last : ∀ s2, SetMade X.w s1 zs s2 → wpAny (model X.prog X.w) X.A (spliced (backTo pos (starEach [] X.env))) (fun vs s3 => wpAny (model X.prog X.w) X.A (call (.builtin "sorted") (Value.ref s1.heap.objs.size :: vs)) (EP X pins σ Q) X.xe s3) X.xe s2 := by
    rintro s2 ⟨hp, tk, c, es, R0, hcz, kp⟩
    have I2 : Inv X pins σ H1 s2 := by rw [es]; exact I1.kept (t' := tk) kp
    have R : SetR X.w s2.heap s1.heap.objs.size (fun j => decide (j ∈ zs)) c := by rw [es]; exact R0
    refine args_nil (sorted_set (s := s2) R (I2.ok.hd hc) (Nat.lt_of_le_of_lt (SetR.few R fun k hk => hbd k (by simpa using hk)) h64) fun s4 r out c2 ns kk gg oo fresh at4 are asc mem len => ?_)
    have room : (ns.map V.int).length ≤ sizeLine := by rw [List.length_map, len, sizeLine_eq]; omega
    have none4 : H1 r = none := I2.hok.fresh fresh
    have J : Inv X pins σ (upd H1 r (.lst (ns.map V.int))) { s2 with heap := s4.heap, gens := s4.gens, drawn := s4.drawn, toks := s4.toks } :=
      I2.call (ch := []) (Un.laid kk fresh none4) (I2.hok.laid kk fresh ⟨room, out.toList, c2, vals_of_ints are, at4⟩) (by rw [gg]; exact I2.bare) (fun _ z => nomatch z)
    have same : s4 = { s2 with heap := s4.heap, gens := s4.gens, drawn := s4.drawn, toks := s4.toks } := by
      cases s4; cases s2; cases oo; rfl
    rw [same]
    exact ⟨.ref r, _, J, rfl, k ns r asc (fun z => (mem z).trans decide_eq_true_iff) none4⟩
  have small : zs.length + 1 < scanBound := by unfold scanBound; omega
  rcases hq with hq | hq
  · obtain ⟨its, r, pl, hz⟩ := I1.list hq
    exact set_of_list zs (I1.ok.hd hc) pl.isList (by simpa using r.ints) small last
  · obtain ⟨its, r, pl, hz⟩ := I1.tuple hq
    exact call_set_tupI zs (I1.ok.hd hc) pl (by simpa using r.ints) small fun hp tk c R hcz kp => last _ ⟨hp, tk, c, rfl, R, hcz, kp⟩
def dSortSet (φ : DE) : DE := fun Ψ δ μ Φ => φ Ψ δ μ fun x μ1 => ∃ zs : List Int, Items μ1 x (zs.map .int) ∧ (zs.length ≤ 1000 ∧ ∃ bd : List Int, bd.length < 64 ∧ ∀ z ∈ zs, z ∈ bd) ∧ ∀ ns : List Int, ns.Pairwise (· < ·) → (∀ k : Int, k ∈ ns ↔ k ∈ zs) → Φ (.lst (ns.map .int)) μ1
theorem reps_of_ints {K : Fg} {μ : Sto} {H : Hp} : ∀ ns : List Int, Reps K μ H (ns.map V.int) (ns.map D.int)
  | [] => .nil
  | n :: ns => .int n (reps_of_ints ns)
theorem sSortSet {K : Fg} {B : Bx K} {ta : TE} {φ : DE} (a : SE B ta φ) : SE B (tSortSet K ta) (dSortSet φ) := fun σ H δ μ Φ Q S q k =>
  a σ H δ μ _ _ S q fun v H1 x μ1 S1 e1 r1 q1 => by
    obtain ⟨zs, hi, hz, q2⟩ := q1
    obtain ⟨l, us, rfl, h1, h2⟩ := hi.ok S1.sto r1
    have e := reps_int_inv h2
    subst e
    exact ⟨l, zs, rfl, h1, hz, fun ns p asc mem hp => k _ _ _ μ1 (S1.step (.new hp) (S1.sto.new hp)) (e1.trans (.new hp)) (rep_lst S1.sto hp (reps_of_ints ns)) (q2 ns asc mem)⟩
end DW
set_option Elab.async false
set_option linter.all false
set_option maxRecDepth 100000
set_option maxHeartbeats 4000000
namespace DW
open PySem PySem.Spec PyProof.Rows L2
section
variable {K : Fg} {B : Bx K} {ta tb : TE} {φ φ' φa φb : DE} {tas : TA} {ψ : DA}
def cMaxL : DC := fun xs μ Φ => ∃ x ns, xs = [x] ∧ Items μ x (ns.map .int) ∧ isTup x = false ∧ ns ≠ [] ∧ ∀ m, m ∈ ns → (∀ y, y ∈ ns → y ≤ m) → Φ (.int m) μ
def cMinL : DC := fun xs μ Φ => ∃ x ns, xs = [x] ∧ Items μ x (ns.map .int) ∧ isTup x = false ∧ ns ≠ [] ∧ ∀ m, m ∈ ns → (∀ y, y ∈ ns → m ≤ y) → Φ (.int m) μ
theorem rcMinL : RC K (rMin K) cMinL := fun H μ vs ds Φ Q s r q k => by
  obtain ⟨x, ns, rfl, hi, ht, hne, q⟩ := q
  obtain ⟨v, rfl, r1⟩ := reps1 r
  obtain ⟨a, us, rfl, h1, h2⟩ := hi.okL s r1 ht
  have e := reps_intsV h2
  subst e
  exact ⟨a, ns, rfl, h1, List.length_pos_iff.2 hne, fun m hm hmax => k _ H _ μ .refl s (.int _ .nil) (q m hm hmax)⟩
def oRepL : DO := fun x y μ Φ => ∃ ds k, x = .lst ds ∧ y = .int k ∧ k ≤ 100000 ∧ -100000 ≤ k ∧ ds.length * k.toNat ≤ 100000 ∧ Φ (.lst (List.replicate k.toNat ds).flatten) μ
theorem Reps.rep {μ : Sto} {H : Hp} {vs : List V} {ds : List D} (h : Reps K μ H vs ds) : ∀ k : Nat, Reps K μ H (List.replicate k vs).flatten (List.replicate k ds).flatten
  | 0 => .nil
  | k + 1 => by rw [List.replicate_succ, List.replicate_succ, List.flatten_cons, List.flatten_cons]; exact h.append (h.rep k)
theorem roRepL : RO K rRep oRepL := fun H μ v w d e Φ Q s0 r1 r2 h k => by
  obtain ⟨ds, n, rfl, rfl, h1, h2, h3, q⟩ := h
  obtain rfl := Rep.int_inv r2
  obtain ⟨a, vs, rfl, h4, h5⟩ := Rep.lst_inv r1
  refine ⟨a, n, vs, rfl, rfl, h4.1, by omega, by omega, ?_, fun p hp => k _ _ _ μ (.new hp) (s0.new hp) (rep_lst s0 hp (h5.rep _)) q⟩
  rw [h5.length]; exact sz h3
def dLstR1 (φ : DE) : DE := fun Ψ δ μ Φ => φ Ψ δ μ fun x μ1 => ∃ j, x = .int j ∧ 0 ≤ j ∧ j ≤ 100000 ∧ Φ (.lst (rngD 0 j.toNat)) μ1
def iZipL (φ φ' : DE) : DI := fun Ψ δ μ Φ => φ Ψ δ μ fun x μ1 => φ' Ψ δ μ1 fun y μ2 => ∃ xs ys, x = .lst xs ∧ y = .lst ys ∧ Φ ((xs.zip ys).map fun p => .pr [p.1, p.2]) μ2
def iEnL (φ : DE) : DI := fun Ψ δ μ Φ => φ Ψ δ μ fun x μ1 => ∃ ds, x = .lst ds ∧ Φ ((List.range ds.length).map fun (i : Nat) => .pr [.int (i : Int), ds.getD i .non]) μ1
/-- xs.index(y), flat -/
def dIdx (φa φb : DE) : DE := fun Ψ δ μ Φ => φa Ψ δ μ fun x μ1 => ∃ ds, x = .lst ds ∧ φb Ψ δ μ1 fun y μ2 => flatD y = true ∧ ds.all flatD = true ∧ ∃ (j : Nat) (z : D), ds[j]? = some z ∧ eqF z y = true ∧ (∀ (m : Nat) (z' : D), m < j → ds[m]? = some z' → eqF z' y = false) ∧ Φ (.int j) μ2
theorem sIdx (a : SE B ta φa) (b : SE B tb φb) : SE B (tBM K "list" (rIndex K) ta (tCons tb tNil)) (dIdx φa φb) := fun σ H δ μ Φ Q S q k =>
  a σ H δ μ _ _ S q fun v H1 x μ1 S1 e1 r1 q1 => by
    obtain ⟨ds, rfl, q1⟩ := q1
    obtain ⟨p, us, rfl, h1, h2⟩ := Rep.lst_inv r1
    refine ⟨.inl ⟨rfl, us, h1.sq⟩, b σ H1 δ μ1 _ _ S1 q1 fun w H2 y μ2 S2 e2 r2 q2 => ?_⟩
    obtain ⟨fy, fd, j, z, hj, hz, hno, q2⟩ := q2
    have h2' := h2.mono e2
    obtain ⟨u, hu, ru⟩ := h2'.get hj
    refine ⟨p, us, w, j, u, rfl, rfl, (h1.mono e2).sq, flatD_ok r2 fy, flatAll_ok h2' fd, hu, ?_, fun m z' hm hz' => ?_, k _ _ _ μ2 S2 (e1.trans e2) (.int _ .nil) q2⟩
    · rw [eqF_ok ru r2 (List.all_eq_true.1 fd z (List.mem_of_getElem? hj)) fy]; exact hz
    · obtain ⟨d', hd', rd'⟩ := h2'.getV hz'
      rw [eqF_ok rd' r2 (List.all_eq_true.1 fd d' (List.mem_of_getElem? hd')) fy]
      exact hno m d' hm hd'
theorem seqIndex_nat {i n : Nat} (h : i < n) : seqIndex? (i : Int) n = some i := by
  unfold seqIndex?
  have h0 : ¬ (i : Int) < 0 := by omega
  simp only [h0, if_false]
  have h1 : (decide (0 ≤ (i : Int)) && decide ((i : Int) < (n : Int))) = true := by simp; omega
  rw [if_pos h1]
  simp
/-- o.pop(i), o a handle -/
def dPopAt (φa φb : DE) : DE := fun Ψ δ μ Φ => φa Ψ δ μ fun x μ1 => ∃ a ds, x = .hd (.ref a) ∧ μ1 a = some (.lst ds) ∧ φb Ψ δ μ1 fun y μ2 => ∃ es, μ2 a = some (.lst es) ∧ es.length ≤ 100000 ∧ ∃ (i : Nat) (d : D), y = .int i ∧ es[i]? = some d ∧ Φ d (sset μ2 a (.lst (es.eraseIdx i)))
theorem Reps.eraseIdx {μ : Sto} {H : Hp} {vs : List V} {ds : List D} (h : Reps K μ H vs ds) (i : Nat) : Reps K μ H (vs.eraseIdx i) (ds.eraseIdx i) := by
  rw [List.eraseIdx_eq_take_drop_succ, List.eraseIdx_eq_take_drop_succ]
  exact (h.take _).append (h.drop _)
theorem sPopAt (a : SE B ta φa) (b : SE B tb φb) : SE B (tBM K "list" rPopAt ta (tCons tb tNil)) (dPopAt φa φb) := fun σ H δ μ Φ Q S q k =>
  a σ H δ μ _ _ S q fun v H1 x μ1 S1 e1 r1 q1 => by
    obtain ⟨p, ds, rfl, hp, q1⟩ := q1
    obtain rfl := Rep.hd_inv r1
    obtain ⟨us, h1, h2⟩ := S1.sto _ _ hp
    refine ⟨.inl ⟨rfl, us, .of h1⟩, b σ H1 δ μ1 _ _ S1 q1 fun w H2 y μ2 S2 e2 r2 q2 => ?_⟩
    obtain ⟨es, hp2, hz, i, d, rfl, hi, q2⟩ := q2
    obtain rfl := Rep.int_inv r2
    obtain ⟨ws, h3, h4⟩ := S2.sto _ _ hp2
    obtain ⟨u, hu, ru⟩ := h4.get hi
    have hl := h4.length
    have hil : i < es.length := (List.getElem?_eq_some_iff.mp hi).1
    have e3 : Evo μ2 H2 (sset μ2 p (.lst (es.eraseIdx i))) (upd H2 p (.lst (ws.eraseIdx i))) := own_evo hp2
    obtain ⟨e4, s4⟩ := own_upd S2.sto hp2 ((h4.eraseIdx i).mono e3)
    refine ⟨p, ws, i, i, u, rfl, rfl, h3, by omega, by omega, seqIndex_nat (by omega), hu, k _ _ _ _ (S2.step e4 s4) ((e1.trans e2).trans e4) (ru.mono e4) q2⟩
end
section
variable {K : Fg} {B : Bx K} {ta tb : TE} {φ φ' φa φb : DE} {tas : TA} {ψ : DA}
theorem TupAt.bare {μ : Sto} {H : Hp} {a : Addr} {us : List V} (h : TupAt K μ H a us) : (∃ (o : Obj) (us : List V), H a = some (.frz o (.tup us)) ∧ o.dict = none ∧ o.cls = .type "tuple") ∨ ∃ o, K.lookup a = some o ∧ o.cls = .type "tuple" ∧ o.dict = none :=
  h.elim (fun ⟨o, h1, h2, h3, _⟩ => .inl ⟨o, us, h1, h2, h3⟩) fun ⟨o, _, _, h1, h2, h3, _⟩ => .inr ⟨o, h1, h2, h3⟩
def dCntT (φa φb : DE) : DE := fun Ψ δ μ Φ => φa Ψ δ μ fun x μ1 => ∃ ns : List Int, x = .tup (ns.map .int) ∧ φb Ψ δ μ1 fun y μ2 => ∃ k : Int, y = .int k ∧ Φ (.int (ns.count k : Nat)) μ2
def dIdxT (φa φb : DE) : DE := fun Ψ δ μ Φ => φa Ψ δ μ fun x μ1 => ∃ ns : List Int, x = .tup (ns.map .int) ∧ φb Ψ δ μ1 fun y μ2 => ∃ (k : Int) (j : Nat), y = .int k ∧ ns[j]? = some k ∧ (∀ m, m < j → ns[m]? ≠ some k) ∧ Φ (.int j) μ2
end
end DW
set_option Elab.async false
set_option linter.all false
set_option maxRecDepth 100000
set_option maxHeartbeats 4000000
namespace DW
open PySem PySem.Spec PyProof.Rows L2
section
variable {M : Model} {A : Around} {E : Value → Shared → Prop} {s : Shared}
theorem callWith_tyKw {pos : Pos} {T : String} {x : Sem Value} {rest : List (Bool × Sem Value)} {kws : List (Option Str × Sem Value)} {Q : Value → Shared → Prop} (plain : ((false, x) :: rest).any (·.1) = false) (named : kws.any (·.1.isNone) = false) (all : kws.all (·.1.isSome) = true)
    (h : wpAny M A (spliced ((false, x) :: rest)) (fun vs s1 => wpAny M A (evalAll (kws.map (·.2))) (fun ks s2 => wpAny M A (call (.type T) vs ((kws.filterMap (·.1)).zip ks)) Q E s2) E s1) E s) :
    wpAny M A (callWith pos (.type T) [] ((false, x) :: rest) kws) Q E s := by
  have h2 : wpAny M A (evalArgs (.type T) true ((false, x) :: rest) kws) (fun a s1 => wpAny M A (call (.type T) ([] ++ a.pos) a.kw) Q E s1) E s := evalArgs_kwB all h
  unfold callWith
  refine wpAny_bind (wpAny_holding (wpAny_mono h2 (fun a s1 h1 => wpAny_bind (wpAny_standAt ?_)) fun _ _ z => z))
  simp only [plain, named, Bool.or_false]
  exact wpAny_bind (wpAny_pure (wpAny_bind (wpAny_mono h1 (fun r s2 hr => wpAny_bind (wpAny_holding (wpAny_point (wpAny_pure hr)))) fun _ _ z => z)))
end
section
variable {K : Fg} {B : Bx K} {ta tb : TE} {φa φb : DE} {w : World} {d : Addr} {tbl : List (Str × D)}
/-- d[z] -/
def oIxD (d : Addr) (tbl : List (Str × D)) : DO := fun x y μ Φ => x = .hd (.ref d) ∧ ∃ z v, y = .str z ∧ tbl.lookup z = some v ∧ Φ v μ
def oInD (d : Addr) (tbl : List (Str × D)) (neg : Bool) : DO := fun x y μ Φ => y = .hd (.ref d) ∧ ∃ z, x = .str z ∧ Φ (.bl (if neg then !(tbl.lookup z).isSome else (tbl.lookup z).isSome)) μ
end
section
variable {K : Fg} {B : Bx K} {tas : TA} {ψ : DA}
def dCallF (i : Nat) (F : Addr → Con → Prop) (ψ : DA) : DE := fun Ψ δ μ Φ => ∃ f c, F f c ∧ δ[i]? = some (some (.hd (.ref f))) ∧ ψ Ψ δ μ fun ds μ1 => c ds μ1 Φ fun y μ2 => Ψ y δ μ2
end
end DW
set_option Elab.async false
set_option linter.all false
set_option maxRecDepth 100000
set_option maxHeartbeats 4000000
namespace DW
open PySem PySem.Spec PyProof.Rows L2
section
variable {K : Fg} {B : Bx K} {ta : TE} {tas : TA} {φ φ' φa φb φv : DE} {ψ : DA} {W : WX} {C : Addr} {NS : List Str} {m : Str} {c : Con}
theorem sMakeSW (hW : B.W = W) (a : SA B tas ψ) : SE B (tMakeS C (spOf K c) (WE W) tas) (dMakeS C c ψ) := by
  subst hW
  exact sMakeS a
theorem sMethXW (hm : m ∉ NS) (hW : B.W = W) (a : SE B ta φ) (b : SA B tas ψ) : SE B (tMethX C m (spOf K c) (WE W) ta tas) (dMethX C NS c φ ψ) := by
  subst hW
  exact sMethX hm a b
end
/-- a statement of a class's suite -/
def clsS : Stmt → Nat → Stmt
  | .ClassDef _ _ _ b _ _ _ _ _ _ _, j => b.getD j (.Pass ⟨0, 0, 0, 0⟩)
  | s, _ => s
section
variable {K : Fg} {φ φ' φa φb φv : DE} {ψ : DA} {Ψ : XP} {δ : DEnv} {μ : Sto} {Φ : DK} {Δ : DEnds} {C d : Addr} {NS : List Str} {i j : Nat} {c : Con} {f z : Str} {F : Addr → Con → Prop} {ds es : List D} {k : Int} {tbl : List (Str × D)} {n : Bool} {x : D}
theorem u_fld : dFld C NS i φ Ψ δ μ Φ = φ Ψ δ μ fun x μ1 => ∃ ds d, x = .obj C NS ds ∧ ds[i]? = some d ∧ Φ d μ1 := rfl
theorem w_fld {P : D → Prop} : (∃ es d, D.obj C NS ds = .obj C NS es ∧ es[i]? = some d ∧ P d) = ∃ d, ds[i]? = some d ∧ P d := propext ⟨fun ⟨es, d, e, h, q⟩ => by cases e; exact ⟨d, h, q⟩, fun ⟨d, h, q⟩ => ⟨_, d, rfl, h, q⟩⟩
theorem w_someE {y : D} {P : D → Prop} : (∃ d, some y = some d ∧ P d) = P y := propext ⟨fun ⟨_, e, q⟩ => by cases e; exact q, fun q => ⟨_, rfl, q⟩⟩
theorem u_setF : dSetF C f φv φa Ψ Δ δ μ = φv Ψ δ μ fun y μ1 => φa Ψ δ μ1 fun x μ2 => ∃ a ns ds, x = .hd (.ref a) ∧ μ2 a = some (.ins C ns ds) ∧ f ∉ ns ∧ ns.length < 1000 ∧ Δ.nx δ (sset μ2 a (.ins C (ns ++ [f]) (ds ++ [y]))) := rfl
theorem u_methX : dMethX C NS c φ ψ Ψ δ μ Φ = φ Ψ δ μ fun x μ1 => ∃ es, x = .obj C NS es ∧ ψ Ψ δ μ1 fun ds μ2 => c (x :: ds) μ2 Φ fun y μ3 => Ψ y δ μ3 := rfl
theorem w_objE {P : List D → Prop} : (∃ es, D.obj C NS ds = .obj C NS es ∧ P es) = P ds := propext ⟨fun ⟨_, e, q⟩ => by cases e; exact q, fun q => ⟨_, rfl, q⟩⟩
theorem u_makeS : dMakeS C c ψ Ψ δ μ Φ = ψ Ψ δ μ fun ds μ1 => ∀ x, μ1 x = none → c (.hd (.ref x) :: ds) (sset μ1 x (.ins C [] [])) (fun d μ2 => d = .non ∧ ∃ ns es, μ2 x = some (.ins C ns es) ∧ Φ (.obj C ns es) (sdel μ2 x)) (fun y μ2 => Ψ y δ μ2) := rfl
theorem u_sortSet : dSortSet φ Ψ δ μ Φ = φ Ψ δ μ fun x μ1 => ∃ zs : List Int, Items μ1 x (zs.map .int) ∧ (zs.length ≤ 1000 ∧ ∃ bd : List Int, bd.length < 64 ∧ ∀ z ∈ zs, z ∈ bd) ∧ ∀ ns : List Int, ns.Pairwise (· < ·) → (∀ k : Int, k ∈ ns ↔ k ∈ zs) → Φ (.lst (ns.map .int)) μ1 := rfl
theorem u_lstR1 : dLstR1 φ Ψ δ μ Φ = φ Ψ δ μ fun x μ1 => ∃ j, x = .int j ∧ 0 ≤ j ∧ j ≤ 100000 ∧ Φ (.lst (rngD 0 j.toNat)) μ1 := rfl
theorem u_iZipL {Φ : List D → Sto → Prop} : iZipL φ φ' Ψ δ μ Φ = φ Ψ δ μ fun x μ1 => φ' Ψ δ μ1 fun y μ2 => ∃ xs ys, x = .lst xs ∧ y = .lst ys ∧ Φ ((xs.zip ys).map fun p => D.pr [p.1, p.2]) μ2 := rfl
theorem u_iEnL {Φ : List D → Sto → Prop} : iEnL φ Ψ δ μ Φ = φ Ψ δ μ fun x μ1 => ∃ ds, x = .lst ds ∧ Φ ((List.range ds.length).map fun (i : Nat) => D.pr [.int (i : Int), ds.getD i .non]) μ1 := rfl
theorem u_idx : dIdx φa φb Ψ δ μ Φ = φa Ψ δ μ fun x μ1 => ∃ ds, x = .lst ds ∧ φb Ψ δ μ1 fun y μ2 => flatD y = true ∧ ds.all flatD = true ∧ ∃ (j : Nat) (z : D), ds[j]? = some z ∧ eqF z y = true ∧ (∀ (m : Nat) (z' : D), m < j → ds[m]? = some z' → eqF z' y = false) ∧ Φ (.int j) μ2 := rfl
theorem u_popAt : dPopAt φa φb Ψ δ μ Φ = φa Ψ δ μ fun x μ1 => ∃ a ds, x = .hd (.ref a) ∧ μ1 a = some (.lst ds) ∧ φb Ψ δ μ1 fun y μ2 => ∃ es, μ2 a = some (.lst es) ∧ es.length ≤ 100000 ∧ ∃ (i : Nat) (d : D), y = .int i ∧ es[i]? = some d ∧ Φ d (sset μ2 a (.lst (es.eraseIdx i))) := rfl
theorem u_cntT : dCntT φa φb Ψ δ μ Φ = φa Ψ δ μ fun x μ1 => ∃ ns : List Int, x = .tup (ns.map .int) ∧ φb Ψ δ μ1 fun y μ2 => ∃ k : Int, y = .int k ∧ Φ (.int (ns.count k : Nat)) μ2 := rfl
theorem u_idxT : dIdxT φa φb Ψ δ μ Φ = φa Ψ δ μ fun x μ1 => ∃ ns : List Int, x = .tup (ns.map .int) ∧ φb Ψ δ μ1 fun y μ2 => ∃ (k : Int) (j : Nat), y = .int k ∧ ns[j]? = some k ∧ (∀ m, m < j → ns[m]? ≠ some k) ∧ Φ (.int j) μ2 := rfl
theorem u_callF : dCallF i F ψ Ψ δ μ Φ = ∃ f c, F f c ∧ δ[i]? = some (some (.hd (.ref f))) ∧ ψ Ψ δ μ fun ds μ1 => c ds μ1 Φ fun y μ2 => Ψ y δ μ2 := rfl
theorem w_maxL : cMaxL [x] μ Φ = ∃ ns, Items μ x (ns.map .int) ∧ isTup x = false ∧ ns ≠ [] ∧ ∀ m, m ∈ ns → (∀ y, y ∈ ns → y ≤ m) → Φ (.int m) μ := propext ⟨fun ⟨_, ns, e, q⟩ => by cases e; exact ⟨ns, q⟩, fun ⟨ns, q⟩ => ⟨_, ns, rfl, q⟩⟩
theorem w_minL : cMinL [x] μ Φ = ∃ ns, Items μ x (ns.map .int) ∧ isTup x = false ∧ ns ≠ [] ∧ ∀ m, m ∈ ns → (∀ y, y ∈ ns → m ≤ y) → Φ (.int m) μ := propext ⟨fun ⟨_, ns, e, q⟩ => by cases e; exact ⟨ns, q⟩, fun ⟨ns, q⟩ => ⟨_, ns, rfl, q⟩⟩
theorem w_ixDc : oIxD d tbl (.hd (.ref d)) (.str z) μ Φ = ∃ v, tbl.lookup z = some v ∧ Φ v μ := propext ⟨fun ⟨_, _, v, e, h, q⟩ => by cases e; exact ⟨v, h, q⟩, fun ⟨v, h, q⟩ => ⟨rfl, _, v, rfl, h, q⟩⟩
theorem w_inDc : oInD d tbl n (.str z) (.hd (.ref d)) μ Φ = Φ (.bl (if n then !(tbl.lookup z).isSome else (tbl.lookup z).isSome)) μ := propext ⟨fun ⟨_, _, e, q⟩ => by cases e; exact q, fun q => ⟨rfl, _, rfl, q⟩⟩
theorem w_repL : oRepL (.lst ds) (.int k) μ Φ = (k ≤ 100000 ∧ -100000 ≤ k ∧ ds.length * k.toNat ≤ 100000 ∧ Φ (.lst (List.replicate k.toNat ds).flatten) μ) := propext ⟨fun ⟨_, _, e1, e2, q⟩ => by cases e1; cases e2; exact q, fun q => ⟨_, _, rfl, rfl, q⟩⟩
theorem w_listLs {P : List D → List D → Prop} : (∃ xs ys, D.lst ds = .lst xs ∧ D.lst es = .lst ys ∧ P xs ys) = P ds es := propext ⟨fun ⟨_, _, e1, e2, q⟩ => by cases e1; cases e2; exact q, fun q => ⟨_, _, rfl, rfl, q⟩⟩
end
end DW
set_option Elab.async false
set_option linter.all false
set_option maxRecDepth 100000
namespace DW
open PySem PySem.Spec PyProof.Rows L2
/-- items and tests drawn from the state at st -/
theorem lcG_drawG {Ψ : XP} {Φ : DK} {γ : DG} {θ : DT} {φ : DE} {δw : DEnv} {μ1 : Sto} {xs : List D} {st : Addr} (Sc : List D → Prop) (Inv : Nat → List D → Prop) {c : List D} (hz : xs.length ≤ 100000)
    (hst : μ1 st = some (.lst c)) (h0 : Sc c) (hI : Inv 0 [])
    (hs : ∀ (i : Nat) (d : D) (μ2 : Sto) (X : DK) (Y : Sto → Prop) (acc c : List D), xs[i]? = some d → μ2 st = some (.lst c) → Sc c → Inv i acc → acc.length ≤ i →
      (∀ y c', Sc c' → Inv (i + 1) (acc ++ [y]) → X y (sset μ2 st (.lst c'))) → (∀ c', Sc c' → Inv (i + 1) acc → Y (sset μ2 st (.lst c'))) →
      γ d δw μ2 fun δ3 μ3 => θ Ψ δ3 μ3 fun b μ4 => (b = true → φ Ψ δ3 μ4 X) ∧ (b = false → Y μ4))
    (hd : ∀ acc c, Inv xs.length acc → acc.length ≤ xs.length → Sc c → Φ (.lst acc) (sset μ1 st (.lst c))) : LcG γ θ φ δw Ψ xs μ1 Φ := fun p hp => by
  refine ⟨fun i μ' => ∃ acc c, Two μ1 p st acc c μ' ∧ Sc c ∧ Inv i acc ∧ acc.length ≤ i, ⟨[], c, .start hp hst, h0, hI, Nat.le_refl _⟩, ?_, ?_⟩
  · rintro i d μ2 hi ⟨acc, c, T, s, I, hl⟩
    have hlt : i < xs.length := (List.getElem?_eq_some_iff.mp hi).1
    refine hs i d μ2 _ _ acc c hi T.sc s I hl (fun y c' s' I' => ⟨acc, T.setS.pL, by omega, _, c', T.setS.setP, s', I', by simp; omega⟩) fun c' s' I' => ⟨acc, c', T.setS, s', I', by omega⟩
  · rintro μ2 ⟨acc, c, T, s, I, hl⟩
    exact ⟨acc, T.pL, by rw [T.del]; exact hd acc c I hl s⟩
theorem sset_comm {μ : Sto} {a b : Addr} {x y : Cell} (h : a ≠ b) : sset (sset μ a x) b y = sset (sset μ b y) a x := by
  funext e
  unfold sset
  by_cases h1 : e = a
  · subst h1; rw [if_neg h, if_pos rfl, if_pos rfl]
  · rw [if_neg h1, if_neg h1]
/-- list(range(n)), a list that will change -/
def dLstR1O (φ : DE) : DE := fun Ψ δ μ Φ => φ Ψ δ μ fun x μ1 => ∃ j, x = .int j ∧ 0 ≤ j ∧ j ≤ 100000 ∧ ∀ p, μ1 p = none → Φ (.hd (.ref p)) (sset μ1 p (.lst (rngD 0 j.toNat)))
theorem u_lstR1O {φ : DE} {Ψ : XP} {δ : DEnv} {μ : Sto} {Φ : DK} : dLstR1O φ Ψ δ μ Φ = φ Ψ δ μ fun x μ1 => ∃ j, x = .int j ∧ 0 ≤ j ∧ j ≤ 100000 ∧ ∀ p, μ1 p = none → Φ (.hd (.ref p)) (sset μ1 p (.lst (rngD 0 j.toNat))) := rfl
end DW
set_option Elab.async false
set_option linter.all false
set_option maxRecDepth 100000
namespace DW
open PySem PySem.Spec PyProof.Rows L2
/-- xs.count(k), xs a list of ints -/
def dCntL (φa φb : DE) : DE := fun Ψ δ μ Φ => φa Ψ δ μ fun x μ1 => ∃ ns : List Int, x = .lst (ns.map .int) ∧ φb Ψ δ μ1 fun y μ2 => ∃ k : Int, y = .int k ∧ Φ (.int (ns.count k : Nat)) μ2
theorem u_cntL {φa φb : DE} {Ψ : XP} {δ : DEnv} {μ : Sto} {Φ : DK} : dCntL φa φb Ψ δ μ Φ = φa Ψ δ μ fun x μ1 => ∃ ns : List Int, x = .lst (ns.map .int) ∧ φb Ψ δ μ1 fun y μ2 => ∃ k : Int, y = .int k ∧ Φ (.int (ns.count k : Nat)) μ2 := rfl
end DW
set_option Elab.async false
set_option linter.all false
set_option maxRecDepth 100000
namespace LW
open PySem PySem.Spec L2 DW
inductive Am where
  | any | best (r : List Int) | second (r : List Int) | most | fewest | fixed | like (i : Nat) | unlike (i : Nat) | among (l : List Int) | only (l : List Int) | table (rows : List (List Int))
  | either (a b : Am) | both (a b : Am) | els (a b : Am) | not (a : Am) | first (a : Am) | recode (m : List Int) (a : Am) | reorder (p : List Int) (a : Am)
namespace Am
def iT (l : List Int) : D := .tup (l.map .int)
def d : Am → D
  | any => .tup [.str "any"]
  | best r => .tup [.str "best", iT r]
  | second r => .tup [.str "second", iT r]
  | most => .tup [.str "most"]
  | fewest => .tup [.str "fewest"]
  | fixed => .tup [.str "fixed"]
  | like i => .tup [.str "like", .int i]
  | unlike i => .tup [.str "unlike", .int i]
  | among l => .tup [.str "among", iT l]
  | only l => .tup [.str "only", iT l]
  | table rows => .tup [.str "table", .tup (rows.map iT)]
  | either a b => .tup [.str "either", a.d, b.d]
  | both a b => .tup [.str "both", a.d, b.d]
  | els a b => .tup [.str "else", a.d, b.d]
  | not a => .tup [.str "not", a.d]
  | first a => .tup [.str "first", a.d]
  | recode m a => .tup [.str "recode", iT m, a.d]
  | reorder p a => .tup [.str "reorder", iT p, a.d]
def dep : Am → Nat
  | either a b => max a.dep b.dep + 1
  | both a b => max a.dep b.dep + 1
  | els a b => max a.dep b.dep + 1
  | not a => a.dep + 1
  | first a => a.dep + 1
  | recode _ a => a.dep + 1
  | reorder _ a => a.dep + 1
  | _ => 1
end Am
/-- ascending numbers from lo on, below hi -/
def Asc (hi : Int) : Int → List Int → Prop
  | _, [] => True
  | lo, x :: r => lo ≤ x ∧ x < hi ∧ Asc hi (x + 1) r
structure CtxOk (n k : Nat) (c : List Int) : Prop where
  len : c.length = n
  lo : ∀ r ∈ c, 0 ≤ r
  hi : ∀ r ∈ c, r < k
  n1 : 1 ≤ n
  n64 : n ≤ 64
  k1 : 1 ≤ k
  k4 : k ≤ 4
def NumOk (len lim : Nat) (r : List Int) : Prop := r.length = len ∧ ∀ x ∈ r, 0 ≤ x ∧ x < (lim : Int)
def AmOk (n k : Nat) : Am → Prop
  | .any => True
  | .best r => NumOk k 10 r
  | .second r => NumOk k 10 r
  | .most => True
  | .fewest => True
  | .fixed => True
  | .like i => i < n
  | .unlike i => i < n
  | .among l => Asc k 0 l
  | .only l => Asc n 0 l
  | .table rows => n ≤ 8 ∧ k ^ n ≤ 256 ∧ rows.length = k ^ n ∧ ∀ l ∈ rows, Asc n 0 l
  | .either a b => AmOk n k a ∧ AmOk n k b
  | .both a b => AmOk n k a ∧ AmOk n k b
  | .els a b => AmOk n k a ∧ AmOk n k b
  | .not a => AmOk n k a
  | .first a => AmOk n k a
  | .recode m a => NumOk k k m ∧ AmOk n k a
  | .reorder p a => NumOk n n p ∧ p.Nodup ∧ AmOk n k a
def at' (l : List Int) (i : Int) : Int := l.getD i.toNat 0
/-- the number of a context -/
def ctxIx (k : Nat) (c : List Int) : Int := c.foldl (fun s r => s * k + r) 0
def someI (n : Nat) (p : Nat → Bool) : Bool := (List.range n).any p
def isG (k : Nat) : Am → List Int → Nat → Bool
  | .any, _, _ => true
  | .best r, c, x => c.all fun s => decide (at' r s ≤ at' r (c.getD x 0))
  | .second r, c, x => let m := at' r (c.getD x 0); c.all (fun s => m == at' r s) || (let ab := (c.map (at' r)).filter (fun s => decide (m < s)); decide (0 < ab.length) && ab.all (· == ab.getD 0 0))
  | .most, c, x => c.all fun s => decide (c.count s ≤ c.count (c.getD x 0))
  | .fewest, c, x => c.all fun s => decide (c.count (c.getD x 0) ≤ c.count s)
  | .fixed, c, x => c.getD x 0 == (x : Int)
  | .like i, c, x => c.getD x 0 == c.getD i 0
  | .unlike i, c, x => c.getD x 0 != c.getD i 0
  | .among l, c, x => l.contains (c.getD x 0)
  | .only l, _, x => l.contains (x : Int)
  | .table rows, c, x => (rows.getD (ctxIx k c).toNat []).contains (x : Int)
  | .either a b, c, x => isG k a c x || isG k b c x
  | .both a b, c, x => isG k a c x && isG k b c x
  | .els a b, c, x => if someI c.length (isG k a c) then isG k a c x else isG k b c x
  | .not a, c, x => !isG k a c x
  | .first a, c, x => isG k a c x && !someI x (isG k a c)
  | .recode m a, c, x => isG k a (c.map (at' m)) x
  | .reorder p a, c, x => isG k a ((List.range c.length).map fun (y : Nat) => c.getD (p.idxOf (y : Int)) (0 : Int)) (at' p x).toNat
def flagL (k : Nat) (a : Am) (c : List Int) : List D := (List.range c.length).map fun x => .bl (isG k a c x)
def FlC (P : Am → Prop) : Con := fun ds μ Φ _ => ∃ (n k : Nat) (a : Am) (c : List Int), P a ∧ AmOk n k a ∧ CtxOk n k c ∧ ds = [a.d, .tup (c.map .int), .int k] ∧ Φ (.lst (flagL k a c)) μ
section
variable {Ψ : XP} {Φ : DK} {n : Nat} {φ : DE} {δw : DEnv} {μ1 : Sto}
/-- over numbers, by the place -/
theorem lcI {ws : List Int} (v : Nat → D) (hz : ws.length ≤ 100000)
    (hs : ∀ (i : Nat) (z : Int) (μ2 : Sto) (X : DK), ws[i]? = some z → Sub μ1 μ2 → X (v i) μ2 → φ Ψ (δw.set n (some (.int z))) μ2 X)
    (hd : Φ (.lst ((List.range ws.length).map v)) μ1) : LcG (eName n) dYes φ δw Ψ (ws.map .int) μ1 Φ := by
  have hl : (ws.map D.int).length = ws.length := List.length_map ..
  refine lcG_mapN v (by rw [hl]; exact hz) (fun i d μ2 X hi hsub hx => ?_) (by rw [hl]; exact hd)
  obtain ⟨z, e, rfl⟩ := mapI_get hi
  exact hs i z μ2 X e hsub hx
/-- over numbers, by the number -/
theorem lcZ {ws : List Int} (f : Int → D) (hz : ws.length ≤ 100000)
    (hs : ∀ (z : Int) (μ2 : Sto) (X : DK), z ∈ ws → Sub μ1 μ2 → X (f z) μ2 → φ Ψ (δw.set n (some (.int z))) μ2 X)
    (hd : Φ (.lst (ws.map f)) μ1) : LcG (eName n) dYes φ δw Ψ (ws.map .int) μ1 Φ := by
  refine lcI (fun i => f (ws.getD i 0)) hz (fun i z μ2 X hi hsub hx => ?_) ?_
  · rw [List.getD_eq_getElem?_getD, hi] at hx
    exact hs z μ2 X (List.mem_of_getElem? hi) hsub hx
  · have : (List.range ws.length).map (fun i => f (ws.getD i 0)) = ws.map f := by
      apply List.ext_getElem
      · simp
      · intro i h1 h2
        simp at h1
        simp [List.getD_eq_getElem?_getD, List.getElem?_eq_getElem h1]
    rw [this]; exact hd
/-- over a range -/
theorem lcR {m : Nat} (v : Nat → D) (hz : m ≤ 100000)
    (hs : ∀ (i : Nat) (μ2 : Sto) (X : DK), i < m → Sub μ1 μ2 → X (v i) μ2 → φ Ψ (δw.set n (some (.int (i : Int)))) μ2 X)
    (hd : Φ (.lst ((List.range m).map v)) μ1) : LcG (eName n) dYes φ δw Ψ (rngD 0 m) μ1 Φ := by
  refine lcG_mapN v (by rw [rngD_len]; exact hz) (fun i d μ2 X hi hsub hx => ?_) (by rw [rngD_len]; exact hd)
  obtain ⟨hj, rfl⟩ := rngD_get hi
  have := hs i μ2 X hj hsub hx
  rw [Int.zero_add]
  exact this
theorem inD_I (z : Int) : ∀ l : List Int, inD (.int z) (l.map .int) = l.contains z
  | [] => rfl
  | x :: l => by
    have ih := inD_I z l
    unfold inD at ih ⊢
    rw [List.map_cons, List.any_cons, ih, List.contains_cons]
    show (x == z || l.contains z) = _
    by_cases hh : x = z
    · rw [hh]
    · rw [beq_eq_false_iff_ne.mpr hh, beq_eq_false_iff_ne.mpr (Ne.symm hh)]
theorem flat_I (l : List Int) : (l.map D.int).all flatD = true := by rw [List.all_map]; exact List.all_eq_true.mpr fun _ _ => rfl
theorem in_I {z : Int} {l : List Int} {μ : Sto} {X : DK} (h : X (.bl (l.contains z)) μ) : oIn false (.int z) (.tup (l.map .int)) μ X :=
  ⟨_, .tup _, rfl, flat_I l, by rw [if_neg Bool.false_ne_true, inD_I]; exact h⟩
end
theorem FlC.len {P : Am → Prop} {ds μ Φ Ψ} (h : FlC P ds μ Φ Ψ) : ds.length = 3 := by obtain ⟨_, _, _, _, _, _, _, rfl, _⟩ := h; rfl
end LW
set_option Elab.async false
set_option linter.all false
set_option maxRecDepth 100000
namespace DW
open PySem PySem.Spec PyProof.Rows L2
end DW
set_option Elab.async false
set_option linter.all false
set_option maxRecDepth 100000
namespace DW
open PySem PySem.Spec PyProof.Rows L2
section
variable {K : Fg} {B : Bx K}
def dLc2 (ι : DI) (γ : DG) (θ : DT) (ι1 : DI) (γ1 : DG) (θ1 : DT) (φ : DE) (vs vs1 : List Nat) : DE := fun Ψ δ μ Φ => ι Ψ δ μ fun xs μ1 => ∀ p, μ1 p = none → ∃ W : Nat → Sto → Prop, W 0 (sset μ1 p (.lst [])) ∧
  (∀ i d μ2, xs[i]? = some d → W i μ2 → γ d (dwipe δ vs) μ2 fun δ3 μ3 => θ Ψ δ3 μ3 fun b μ4 =>
    (b = true → ι1 Ψ δ3 μ4 fun xs1 μ5 => ∃ W1 : Nat → Sto → Prop, W1 0 μ5 ∧
      (∀ j d1 μ6, xs1[j]? = some d1 → W1 j μ6 → γ1 d1 (dwipe δ3 vs1) μ6 fun δ7 μ7 => θ1 Ψ δ7 μ7 fun b1 μ8 =>
        (b1 = true → φ Ψ δ7 μ8 fun y μ9 => ∃ acc, μ9 p = some (.lst acc) ∧ acc.length ≤ 100000 ∧ W1 (j + 1) (sset μ9 p (.lst (acc ++ [y])))) ∧ (b1 = false → W1 (j + 1) μ8)) ∧
      ∀ μ6, W1 xs1.length μ6 → W (i + 1) μ6) ∧ (b = false → W (i + 1) μ4)) ∧
  ∀ μ2, W xs.length μ2 → ∃ acc, μ2 p = some (.lst acc) ∧ Φ (.lst acc) (sdel μ2 p)
theorem sLc2 {wi wi1 : TI} {g g1 : TG} {tt tt1 : TT} {te : TE} {vs vs1 : List Nat} {ι ι1 : DI} {γ γ1 : DG} {θ θ1 : DT} {φ : DE} (a : SI B wi ι) (w : GW vs g) (w1 : GW vs1 g1) (b : ∀ H1 μ1 e, SG (B.re H1 μ1 e) g γ) (c : ∀ H1 μ1 e, ST (B.re H1 μ1 e) tt θ)
    (a1 : ∀ H1 μ1 e, SI (B.re H1 μ1 e) wi1 ι1) (b1 : ∀ H1 μ1 e, SG (B.re H1 μ1 e) g1 γ1) (c1 : ∀ H1 μ1 e, ST (B.re H1 μ1 e) tt1 θ1) (d : ∀ H1 μ1 e, SE (B.re H1 μ1 e) te φ) :
    SE B (tLc2 wi g tt wi1 g1 tt1 te vs vs1) (dLc2 ι γ θ ι1 γ1 θ1 φ vs vs1) := fun σ H δ μ Φ Q S q k =>
  a σ H δ μ _ _ S q fun xs J H1 μ1 S1 e1 it q1 => fun p hp => by
    have hμp : μ1 p = none := S1.sto.fresh hp
    obtain ⟨W, w0, ws, wd⟩ := q1 p hμp
    refine ⟨fun i m H' => m = xs.length - i ∧ i ≤ xs.length ∧ ∃ μ', Evo μ1 H1 μ' H' ∧ StoOk K μ' H' ∧ W i μ', ⟨xs.length, by simp, Nat.zero_le _, _, .newC S1.sto hp, sto_own S1.sto hp .nil, w0⟩, ?_⟩
    rintro i m H' ⟨rfl, hi, μ', e', s', wi'⟩
    by_cases hlt : i < xs.length
    · obtain ⟨hgo, hy⟩ := (it i H' μ' s' e').1 hlt
      refine .inr ⟨hgo, fun H2 => ∃ μ2, Evo μ1 H1 μ2 H2 ∧ StoOk K μ2 H2 ∧ W (i + 1) μ2, fun H2 ⟨μ2, e2, s2, w2⟩ => ⟨xs.length - (i + 1), by omega, rfl, by omega, μ2, e2, s2, w2⟩, fun x H2 y => ?_⟩
      obtain ⟨dd, hd, s2, e2, r2⟩ := hy x H2 y
      have S2 : (B.re H1 μ1 S1.evo).S (L2.wipe σ vs) H2 (dwipe δ vs) μ' := ⟨e'.trans e2, s2, ((S1.env.mono e').mono e2).wipe vs⟩
      refine w x (L2.wipe σ vs) (L2.wipe σ vs) H2 _ wipe_wipe ?_
      refine b H1 μ1 S1.evo x dd (L2.wipe σ vs) H2 (dwipe δ vs) μ' _ _ S2 r2 (ws i dd μ' hd wi') fun σ3 H3 δ3 μ3 S3 e3 q3 => ?_
      refine c H1 μ1 S1.evo σ3 H3 δ3 μ3 _ _ S3 q3 fun b4 H4 μ4 S4 e4 q4 => ?_
      cases b4 with
      | true =>
        rw [if_pos rfl]
        refine a1 H1 μ1 S1.evo σ3 H4 δ3 μ4 _ _ S4 (q4.1 rfl) fun xs1 J1 H5 μ5 S5 e5 it1 q5 => ?_
        obtain ⟨W1, w10, ws1, wd1⟩ := q5
        refine ⟨fun j m H' => m = xs1.length - j ∧ j ≤ xs1.length ∧ ∃ μ', Evo μ5 H5 μ' H' ∧ StoOk K μ' H' ∧ W1 j μ', ⟨xs1.length, by simp, Nat.zero_le _, μ5, .refl, S5.sto, w10⟩, ?_⟩
        rintro j m H6 ⟨rfl, hj, μ6, e6, s6, w16⟩
        by_cases hlt1 : j < xs1.length
        · obtain ⟨hgo1, hy1⟩ := (it1 j H6 μ6 s6 e6).1 hlt1
          refine .inr ⟨hgo1, fun H7 => ∃ μ7, Evo μ5 H5 μ7 H7 ∧ StoOk K μ7 H7 ∧ W1 (j + 1) μ7, fun H7 ⟨μ7, e7, s7, w7⟩ => ⟨xs1.length - (j + 1), by omega, rfl, by omega, μ7, e7, s7, w7⟩, fun x1 H7 y1 => ?_⟩
          obtain ⟨d1, hd1, s7, e7, r7⟩ := hy1 x1 H7 y1
          have S7 : (B.re H1 μ1 S1.evo).S (L2.wipe σ3 vs1) H7 (dwipe δ3 vs1) μ6 := ⟨(S5.evo.trans e6).trans e7, s7, ((S5.env.mono e6).mono e7).wipe vs1⟩
          refine w1 x1 (L2.wipe σ3 vs1) (L2.wipe σ3 vs1) H7 _ wipe_wipe ?_
          refine b1 H1 μ1 S1.evo x1 d1 (L2.wipe σ3 vs1) H7 (dwipe δ3 vs1) μ6 _ _ S7 r7 (ws1 j d1 μ6 hd1 w16) fun σ8 H8 δ8 μ8 S8 e8 q8 => ?_
          have E8 : Evo μ5 H5 μ8 H8 := (e6.trans e7).trans e8
          refine c1 H1 μ1 S1.evo σ8 H8 δ8 μ8 _ _ S8 q8 fun b9 H9 μ9 S9 e9 q9 => ?_
          have E9 : Evo μ5 H5 μ9 H9 := E8.trans e9
          cases b9 with
          | true =>
            rw [if_pos rfl]
            refine d H1 μ1 S1.evo σ8 H9 δ8 μ9 _ _ S9 (q9.1 rfl) fun v10 H10 y10 μ10 S10 e10 r10 q10 => ?_
            obtain ⟨acc, hacc, hz, w11⟩ := q10
            obtain ⟨us, h10, hr10⟩ := S10.sto _ _ hacc
            have e11 : Evo μ10 H10 (sset μ10 p (.lst (acc ++ [y10]))) (upd H10 p (.lst (us ++ [v10]))) := own_evo hacc
            obtain ⟨e12, s12⟩ := own_upd S10.sto hacc ((hr10.append r10).mono e11)
            exact ⟨us, h10, Nat.lt_of_le_of_lt (by rw [hr10.length]; exact hz) (by decide), _, (E9.trans e10).trans e12, s12, w11⟩
          | false =>
            rw [if_neg Bool.false_ne_true]
            exact ⟨μ9, E9, S9.sto, q9.2 rfl⟩
        · have e : j = xs1.length := by omega
          subst e
          exact .inl ⟨(it1 _ H6 μ6 s6 e6).2 (Nat.le_refl _), μ6, S5.evo.trans e6, s6, wd1 μ6 w16⟩
      | false =>
        rw [if_neg Bool.false_ne_true]
        exact ⟨μ4, S4.evo, S4.sto, q4.2 rfl⟩
    · have e : i = xs.length := by omega
      subst e
      obtain ⟨acc, hacc, q2⟩ := wd μ' wi'
      obtain ⟨us, h5, hr5⟩ := s' _ _ hacc
      refine .inl ⟨(it _ H' μ' s' e').2 (Nat.le_refl _), ?_⟩
      have e8 : Evo μ1 H1 (sdel μ' p) H' := e'.trans sdel_sub.evo
      exact k (.ref p) H' (.lst acc) (sdel μ' p) (S1.step e8 (sdel_sub.sto s')) (e1.trans e8) (.lst ⟨h5, .of sdel_same⟩ (hr5.mono sdel_sub.evo) .nil) q2
end
def LcG2 (γ : DG) (θ : DT) (ι1 : DI) (γ1 : DG) (θ1 : DT) (φ : DE) (δw : DEnv) (vs1 : List Nat) (Ψ : XP) (xs : List D) (μ1 : Sto) (Φ : DK) : Prop := ∀ p, μ1 p = none → ∃ W : Nat → Sto → Prop, W 0 (sset μ1 p (.lst [])) ∧
  (∀ i d μ2, xs[i]? = some d → W i μ2 → γ d δw μ2 fun δ3 μ3 => θ Ψ δ3 μ3 fun b μ4 =>
    (b = true → ι1 Ψ δ3 μ4 fun xs1 μ5 => ∃ W1 : Nat → Sto → Prop, W1 0 μ5 ∧
      (∀ j d1 μ6, xs1[j]? = some d1 → W1 j μ6 → γ1 d1 (dwipe δ3 vs1) μ6 fun δ7 μ7 => θ1 Ψ δ7 μ7 fun b1 μ8 =>
        (b1 = true → φ Ψ δ7 μ8 fun y μ9 => ∃ acc, μ9 p = some (.lst acc) ∧ acc.length ≤ 100000 ∧ W1 (j + 1) (sset μ9 p (.lst (acc ++ [y])))) ∧ (b1 = false → W1 (j + 1) μ8)) ∧
      ∀ μ6, W1 xs1.length μ6 → W (i + 1) μ6) ∧ (b = false → W (i + 1) μ4)) ∧
  ∀ μ2, W xs.length μ2 → ∃ acc, μ2 p = some (.lst acc) ∧ Φ (.lst acc) (sdel μ2 p)
section
variable {Ψ : XP} {Φ : DK} {δ : DEnv} {μ : Sto}
theorem u_lc2 {ι : DI} {γ : DG} {θ : DT} {ι1 : DI} {γ1 : DG} {θ1 : DT} {φ : DE} {vs vs1 : List Nat} : dLc2 ι γ θ ι1 γ1 θ1 φ vs vs1 Ψ δ μ Φ = ι Ψ δ μ fun xs μ1 => LcG2 γ θ ι1 γ1 θ1 φ (dwipe δ vs) vs1 Ψ xs μ1 Φ := rfl
/-- plain names, no tests, nothing changes -/
theorem lcG2_pure {n n1 : Nat} {ι1 : DI} {φ : DE} {δw : DEnv} {μ1 : Sto} {xs : List D} (cols : Nat → List D) (v : Nat → Nat → D) (hz : ∀ i, i ≤ xs.length → ((List.range i).flatMap fun i => (List.range (cols i).length).map (v i)).length ≤ 50000)
    (hc : ∀ i, (cols i).length ≤ 50000)
    (hi : ∀ (i : Nat) (d : D) (μ2 : Sto) (X : List D → Sto → Prop), xs[i]? = some d → Sub μ1 μ2 → X (cols i) μ2 → ι1 Ψ (δw.set n (some d)) μ2 X)
    (hs : ∀ (i : Nat) (d : D) (j : Nat) (d1 : D) (μ2 : Sto) (X : DK), xs[i]? = some d → (cols i)[j]? = some d1 → Sub μ1 μ2 → X (v i j) μ2 → φ Ψ (((δw.set n (some d)).set n1 none).set n1 (some d1)) μ2 X)
    (hd : Φ (.lst ((List.range xs.length).flatMap fun i => (List.range (cols i).length).map (v i))) μ1) : LcG2 (eName n) dYes ι1 (eName n1) dYes φ δw [n1] Ψ xs μ1 Φ := fun p hp => by
  refine ⟨fun i μ' => μ' = sset μ1 p (.lst ((List.range i).flatMap fun i => (List.range (cols i).length).map (v i))), rfl, fun i d μ2 hi2 e => ?_, fun μ2 e => ?_⟩
  · subst e
    refine ⟨fun _ => hi i d _ _ hi2 (.set Sub.refl hp) ⟨fun j μ' => j ≤ (cols i).length ∧ μ' = sset μ1 p (.lst (((List.range i).flatMap fun i => (List.range (cols i).length).map (v i)) ++ (List.range j).map (v i))), ⟨Nat.zero_le _, by rw [List.range_zero, List.map_nil, List.append_nil]⟩, fun j d1 μ6 hj hw => ?_, fun μ6 hw => ?_⟩, fun z => by cases z⟩
    · obtain ⟨hjl, rfl⟩ := hw
      have hj2 := (List.getElem?_eq_some_iff.mp hj).1
      refine ⟨fun _ => hs i d j d1 _ _ hi2 hj (.set Sub.refl hp) ⟨_, sset_same, ?_, ?_⟩, fun z => by cases z⟩
      · have h1 := hz i (Nat.le_of_lt (List.getElem?_eq_some_iff.mp hi2).1)
        have h2 := hc i
        rw [List.length_append, List.length_map, List.length_range]
        omega
      · refine ⟨hj2, ?_⟩
        rw [sset_sset, List.range_succ, List.map_append, List.append_assoc]
        rfl
    · obtain ⟨_, rfl⟩ := hw
      rw [List.range_succ, List.flatMap_append]
      simp
  · subst e
    refine ⟨_, sset_same, ?_⟩
    rw [sdel_sset hp]
    exact hd
end
end DW
set_option Elab.async false
set_option linter.all false
set_option maxRecDepth 100000
set_option maxHeartbeats 4000000
namespace DW
open PySem PySem.Spec PyProof.Rows L2
def wrap : Bool → List D → D
  | true => .tup
  | false => .lst
def iZM (b1 b2 : Bool) (φ φ' : DE) : DI := fun Ψ δ μ Φ => φ Ψ δ μ fun x μ1 => φ' Ψ δ μ1 fun y μ2 => ∃ xs ys, x = wrap b1 xs ∧ y = wrap b2 ys ∧ Φ ((xs.zip ys).map fun p => .pr [p.1, p.2]) μ2
theorem u_iZM {b1 b2 : Bool} {φ φ' : DE} {Ψ : XP} {δ : DEnv} {μ : Sto} {Φ : List D → Sto → Prop} : iZM b1 b2 φ φ' Ψ δ μ Φ = φ Ψ δ μ fun x μ1 => φ' Ψ δ μ1 fun y μ2 => ∃ xs ys, x = wrap b1 xs ∧ y = wrap b2 ys ∧ Φ ((xs.zip ys).map fun p => .pr [p.1, p.2]) μ2 := rfl
theorem w_zipLT {l t : List D} {P : List D → List D → Prop} : (∃ xs ys, D.lst l = wrap false xs ∧ D.tup t = wrap true ys ∧ P xs ys) = P l t := propext ⟨fun ⟨_, _, e1, e2, q⟩ => by cases e1; cases e2; exact q, fun q => ⟨_, _, rfl, rfl, q⟩⟩
theorem w_zipTL {l t : List D} {P : List D → List D → Prop} : (∃ xs ys, D.tup l = wrap true xs ∧ D.lst t = wrap false ys ∧ P xs ys) = P l t := propext ⟨fun ⟨_, _, e1, e2, q⟩ => by cases e1; cases e2; exact q, fun q => ⟨_, _, rfl, rfl, q⟩⟩
end DW
set_option Elab.async false
set_option linter.all false
set_option maxRecDepth 100000
set_option maxHeartbeats 4000000
namespace DW
open PySem PySem.Spec PyProof.Rows L2
section
variable {K : Fg} {B : Bx K} {ta : TE} {φ : DE} {Ψ : XP} {δ : DEnv} {μ : Sto} {Φ : DK}
def dTupR1 (φ : DE) : DE := fun Ψ δ μ Φ => φ Ψ δ μ fun x μ1 => ∃ j, x = .int j ∧ 0 ≤ j ∧ j ≤ 100000 ∧ Φ (.tup (rngD 0 j.toNat)) μ1
theorem u_tupR1 : dTupR1 φ Ψ δ μ Φ = φ Ψ δ μ fun x μ1 => ∃ j, x = .int j ∧ 0 ≤ j ∧ j ≤ 100000 ∧ Φ (.tup (rngD 0 j.toNat)) μ1 := rfl
end
end DW
set_option Elab.async false
set_option linter.all false
set_option maxRecDepth 100000
set_option maxHeartbeats 4000000
namespace DW
open PySem PySem.Spec PyProof.Rows L2
mutual
def toPy : D → PyData
  | .bl b => .bool b
  | .int i => .int i
  | .str s => .str s
  | .tup ds => .tuple (toPys ds)
  | .lst ds => .list (toPys ds)
  | _ => .none
def toPys : List D → List PyData
  | [] => []
  | d :: ds => toPy d :: toPys ds
end
mutual
/-- what can be compared -/
def eqOk : D → Bool
  | .non => true
  | .bl _ => true
  | .int _ => true
  | .str s => PyData.strOk s
  | .tup ds => eqOks ds
  | .lst ds => eqOks ds
  | _ => false
def eqOks : List D → Bool
  | [] => true
  | d :: ds => eqOk d && eqOks ds
end
mutual
def dpt : D → Nat
  | .tup ds => dpts ds + 1
  | .lst ds => dpts ds + 1
  | _ => 0
def dpts : List D → Nat
  | [] => 0
  | d :: ds => max (dpt d) (dpts ds)
end
mutual
theorem eqOk_lay : ∀ d : D, eqOk d = true → (toPy d).canLay0 = true
  | .non, _ => rfl
  | .bl _, _ => rfl
  | .int _, _ => rfl
  | .str s, h => by simpa [eqOk, toPy, PyData.canLay0] using h
  | .tup ds, h => by simp only [toPy, PyData.canLay0]; exact eqOks_lay ds (by simpa [eqOk] using h)
  | .lst ds, h => by simp only [toPy, PyData.canLay0]; exact eqOks_lay ds (by simpa [eqOk] using h)
  | .pr _, h => by simp [eqOk] at h
  | .obj _ _ _, h => by simp [eqOk] at h
  | .hd _, h => by simp [eqOk] at h
  | .scr _, h => by simp [eqOk] at h
theorem eqOks_lay : ∀ ds : List D, eqOks ds = true → PyData.canLayAll0 (toPys ds) = true
  | [], _ => rfl
  | d :: ds, h => by
    simp only [eqOks, Bool.and_eq_true] at h
    simp only [toPys, PyData.canLayAll0, eqOk_lay d h.1, eqOks_lay ds h.2, Bool.and_self]
end
mutual
theorem dpt_py : ∀ d : D, (toPy d).depth ≤ dpt d + 1
  | .non => by simp [toPy, PyData.depth]
  | .bl _ => by simp [toPy, PyData.depth]
  | .int _ => by simp [toPy, PyData.depth]
  | .str s => by simp [toPy, PyData.depth]
  | .tup ds => by simp only [toPy, PyData.depth, dpt]; have := dpts_py ds; omega
  | .lst ds => by simp only [toPy, PyData.depth, dpt]; have := dpts_py ds; omega
  | .pr _ => by simp [toPy, PyData.depth]
  | .obj _ _ _ => by simp [toPy, PyData.depth]
  | .hd _ => by simp [toPy, PyData.depth]
  | .scr _ => by simp [toPy, PyData.depth]
theorem dpts_py : ∀ ds : List D, PyData.depthAll (toPys ds) ≤ dpts ds + 1
  | [] => by simp [toPys, PyData.depthAll]
  | d :: ds => by
    simp only [toPys, PyData.depthAll, dpts]
    have h1 := dpt_py d
    have h2 := dpts_py ds
    omega
end
theorem shaped_of {d : D} (h : eqOk d = true) (hd : dpt d ≤ 60) : SeqAt.shaped (toPy d) = true := by
  unfold SeqAt.shaped
  rw [eqOk_lay d h, Bool.true_and]
  exact decide_eq_true (by have := dpt_py d; omega)
theorem dp_all {K : Fg} {μ : Sto} {H : Hp} {vs : List V} {ds : List D} (r : Reps K μ H vs ds) : eqOks ds = true → DpAll K H vs (toPys ds) := by
  induction r with
  | nil => intro _; exact .nil
  | non _ ih => intro h; simp only [eqOks, eqOk, Bool.true_and] at h; exact .cons .non (ih h)
  | bl b _ ih => intro h; simp only [eqOks, eqOk, Bool.true_and] at h; exact .cons (.bl b) (ih h)
  | int b _ ih => intro h; simp only [eqOks, eqOk, Bool.true_and] at h; exact .cons (.int b) (ih h)
  | str b _ ih => intro h; simp only [eqOks, Bool.and_eq_true] at h; exact .cons (.str b) (ih h.2)
  | hd v _ ih => intro h; simp [eqOks, eqOk] at h
  | tup h1 _ _ i1 i2 => intro h; simp only [eqOks, eqOk, Bool.and_eq_true] at h; exact .cons (.tup h1.sq (i1 h.1)) (i2 h.2)
  | pr _ _ _ _ _ => intro h; simp [eqOks, eqOk] at h
  | scr _ _ _ => intro h; simp [eqOks, eqOk] at h
  | lst h1 _ _ i1 i2 => intro h; simp only [eqOks, eqOk, Bool.and_eq_true] at h; exact .cons (.lst h1.sq (i1 h.1)) (i2 h.2)
  | obj _ _ _ _ _ _ _ => intro h; simp [eqOks, eqOk] at h
theorem dp_one {K : Fg} {μ : Sto} {H : Hp} {v : V} {d : D} (r : Rep K μ H v d) (h : eqOk d = true) : Dp K H v (toPy d) := by
  have q := dp_all r (by simp only [eqOks, h, Bool.and_self])
  cases q with
  | cons a b => exact a
def eqD (a b : D) : Bool := PyData.eqv (toPy a) (toPy b)
def EqSide (d : D) : Prop := eqOk d = true ∧ dpt d ≤ 60
def oEqD : DO := fun x y μ Φ => EqSide x ∧ EqSide y ∧ Φ (.bl (eqD x y)) μ
def oNeD : DO := fun x y μ Φ => EqSide x ∧ EqSide y ∧ Φ (.bl (!eqD x y)) μ
theorem roEqD {K : Fg} : RO K (rEqD K) oEqD := fun H μ v w x y Φ Q s r1 r2 q k => by
  obtain ⟨h1, h2, q⟩ := q
  exact ⟨_, _, dp_one r1 h1.1, dp_one r2 h2.1, shaped_of h1.1 h1.2, shaped_of h2.1 h2.2, k _ H _ μ .refl s (.bl _ .nil) q⟩
theorem roNeD {K : Fg} : RO K (rNeD K) oNeD := fun H μ v w x y Φ Q s r1 r2 q k => by
  obtain ⟨h1, h2, q⟩ := q
  exact ⟨_, _, dp_one r1 h1.1, dp_one r2 h2.1, shaped_of h1.1 h1.2, shaped_of h2.1 h2.2, k _ H _ μ .refl s (.bl _ .nil) q⟩
theorem eqD_refl {d : D} (h : eqOk d = true) : eqD d d = true := SeqAt.eqv_refl _ (eqOk_lay d h)
theorem eqOks_all : ∀ {ds : List D}, (∀ d ∈ ds, eqOk d = true) → eqOks ds = true
  | [], _ => rfl
  | d :: ds, h => by
    simp only [eqOks, Bool.and_eq_true]
    exact ⟨h d List.mem_cons_self, eqOks_all fun x hx => h x (List.mem_cons_of_mem _ hx)⟩
theorem dpts_all {m : Nat} : ∀ {ds : List D}, (∀ d ∈ ds, dpt d ≤ m) → dpts ds ≤ m
  | [], _ => Nat.zero_le _
  | d :: ds, h => by
    simp only [dpts]
    have h1 := h d List.mem_cons_self
    have h2 := dpts_all fun x hx => h x (List.mem_cons_of_mem _ hx)
    omega
theorem eqvAll_map {α : Type} {f : α → D} (hf : ∀ a b, PyData.eqv (toPy (f a)) (toPy (f b)) = true ↔ a = b) : ∀ l m : List α, PyData.eqvAll (toPys (l.map f)) (toPys (m.map f)) = true ↔ l = m
  | [], [] => by simp [toPys, PyData.eqvAll]
  | [], _ :: _ => by simp [toPys, PyData.eqvAll]
  | _ :: _, [] => by simp [toPys, PyData.eqvAll]
  | a :: l, b :: m => by
    simp only [List.map_cons, toPys, PyData.eqvAll, Bool.and_eq_true, hf a b, eqvAll_map hf l m, List.cons.injEq]
theorem eqv_int (a b : Int) : PyData.eqv (toPy (.int a)) (toPy (.int b)) = true ↔ a = b := by simp [toPy, PyData.eqv]
theorem eqv_ints (l m : List Int) : PyData.eqv (toPy (.tup (l.map .int))) (toPy (.tup (m.map .int))) = true ↔ l = m := by
  simp only [toPy, PyData.eqv]
  exact eqvAll_map eqv_int l m
theorem eqD_ints (l m : List Int) : eqD (.tup (l.map .int)) (.tup (m.map .int)) = decide (l = m) := by
  rw [Bool.eq_iff_iff, decide_eq_true_eq]
  exact eqv_ints l m
theorem side_ints (l : List Int) : EqSide (.tup (l.map .int)) := ⟨by
  simp only [eqOk]
  exact eqOks_all fun d hd => by obtain ⟨z, _, rfl⟩ := List.mem_map.mp hd; rfl, by
  simp only [dpt]
  have := dpts_all (m := 0) (ds := l.map D.int) fun d hd => by obtain ⟨z, _, rfl⟩ := List.mem_map.mp hd; exact Nat.le_refl _
  omega⟩
end DW
set_option Elab.async false
set_option linter.all false
set_option maxRecDepth 100000
set_option maxHeartbeats 4000000
namespace DW
open PySem PySem.Spec PyProof.Rows L2
abbrev WN : WX := fun _ _ _ _ => False
theorem passAtN {X : Cx} {P : Program} {w : World} (σ : L2.St) : PassesAt (L2N.CX P w) X σ (WE WN σ) := fun _ _ _ _ _ _ h => by
  obtain ⟨_, _, _, _, _, _, _, _, _, _, _, _, z⟩ := h
  exact z.elim
section
variable {K : Fg} {B : Bx K} {ta : TE} {φ : DE} {tas : TA} {ψ : DA} {Ψ : XP} {δ : DEnv} {μ : Sto} {Φ : DK}
def dMethXN (C : Addr) (NS : List Str) (c : Con) (φ : DE) (ψ : DA) : DE := fun Ψ δ μ Φ => φ Ψ δ μ fun x μ1 => ∃ es, x = .obj C NS es ∧ ψ Ψ δ μ1 fun ds μ2 => c (x :: ds) μ2 Φ fun _ _ => False
def dMakeSN (C : Addr) (c : Con) (ψ : DA) : DE := fun Ψ δ μ Φ => ψ Ψ δ μ fun ds μ1 => ∀ x, μ1 x = none → c (.hd (.ref x) :: ds) (sset μ1 x (.ins C [] [])) (fun d μ2 => d = .non ∧ ∃ ns es, μ2 x = some (.ins C ns es) ∧ Φ (.obj C ns es) (sdel μ2 x)) (fun _ _ => False)
theorem sMakeSN {C : Addr} {c : Con} (a : SA B tas ψ) : SE B (tMakeS C (spOf K c) (WE WN) tas) (dMakeSN C c ψ) := fun σ H δ μ Φ Q S q k =>
  a σ H δ μ _ _ S q fun vs H1 xs μ1 S1 e1 r1 q1 x dx hx hdx hne => by
    have hx' : upd H1 dx (.own x) x = none := by rw [upd_ne (Ne.symm hne)]; exact hx
    have ev0 : Evo μ1 H1 μ1 (upd H1 dx (.own x)) := .new hdx
    have st0 : StoOk K μ1 (upd H1 dx (.own x)) := S1.sto.new hdx
    have ev1 : Evo μ1 (upd H1 dx (.own x)) (sset μ1 x (.ins C [] [])) (upd (upd H1 dx (.own x)) x (.ins C dx [])) := .newC st0 hx'
    have st1 : StoOk K (sset μ1 x (.ins C [] [])) (upd (upd H1 dx (.own x)) x (.ins C dx [])) := st0.cell ev1 ⟨dx, [], upd_same, rfl, .nil⟩
    have ev := ev0.trans ev1
    refine ⟨sset μ1 x (.ins C [] []), .hd (.ref x) :: xs, _, _, st1, .hd _ (r1.mono ev), q1 x (S1.sto.fresh hx), fun v H' d μ' e s r ⟨hd, ns, es, hc, hq⟩ => ?_, fun cls dd H' y μ' e s rx hΨ => hΨ.elim⟩
    subst hd
    obtain rfl := Rep.non_inv r
    refine ⟨rfl, ?_⟩
    obtain ⟨dx', us, hH, hl, hr⟩ := s x _ hc
    have sb : Sub (sdel μ' x) μ' := sdel_sub
    have e2 : Evo μ' H' (sdel μ' x) H' := sb.evo
    exact k _ H' _ (sdel μ' x) (S1.step (ev.trans (e.trans e2)) (sb.sto s)) (e1.trans (ev.trans (e.trans e2))) (.obj hH (NM.of sdel_same) hl (hr.mono e2) .nil) hq
theorem u_methXN {C : Addr} {NS : List Str} {c : Con} : dMethXN C NS c φ ψ Ψ δ μ Φ = φ Ψ δ μ fun x μ1 => ∃ es, x = .obj C NS es ∧ ψ Ψ δ μ1 fun ds μ2 => c (x :: ds) μ2 Φ fun _ _ => False := rfl
theorem u_makeSN {C : Addr} {c : Con} : dMakeSN C c ψ Ψ δ μ Φ = ψ Ψ δ μ fun ds μ1 => ∀ x, μ1 x = none → c (.hd (.ref x) :: ds) (sset μ1 x (.ins C [] [])) (fun d μ2 => d = .non ∧ ∃ ns es, μ2 x = some (.ins C ns es) ∧ Φ (.obj C ns es) (sdel μ2 x)) (fun _ _ => False) := rfl
end
theorem w_neB {b c : Bool} {μ : Sto} {Φ : DK} : oNe (.bl b) (.bl c) μ Φ = Φ (.bl (!decide (b = c))) μ := w_someb
end DW
set_option Elab.async false
set_option linter.all false
set_option maxRecDepth 100000
set_option maxHeartbeats 4000000
namespace DW
open PySem PySem.Spec PyProof.Rows L2
section
variable {K : Fg} {B : Bx K} {ta tb : TE} {φ φ2 : DE} {Ψ : XP} {δ : DEnv} {μ : Sto} {Φ : DK} {W : WX}
def dBinX (C : Addr) (NS : List Str) (c : Con) (φ φ2 : DE) : DE := fun Ψ δ μ Φ => φ Ψ δ μ fun x μ1 => φ2 Ψ δ μ1 fun y μ2 => ∃ es fs, x = .obj C NS es ∧ y = .obj C NS fs ∧ c [x, y] μ2 (fun d μ3 => (∃ C' NS' es', d = .obj C' NS' es') ∧ Φ d μ3) fun z μ3 => Ψ z δ μ3
def dInvX (C : Addr) (NS : List Str) (c : Con) (φ : DE) : DE := fun Ψ δ μ Φ => φ Ψ δ μ fun x μ1 => ∃ es, x = .obj C NS es ∧ c [x] μ1 Φ fun z μ3 => Ψ z δ μ3
theorem u_binX {C : Addr} {NS : List Str} {c : Con} : dBinX C NS c φ φ2 Ψ δ μ Φ = φ Ψ δ μ fun x μ1 => φ2 Ψ δ μ1 fun y μ2 => ∃ es fs, x = .obj C NS es ∧ y = .obj C NS fs ∧ c [x, y] μ2 (fun d μ3 => (∃ C' NS' es', d = .obj C' NS' es') ∧ Φ d μ3) fun z μ3 => Ψ z δ μ3 := rfl
theorem u_invX {C : Addr} {NS : List Str} {c : Con} : dInvX C NS c φ Ψ δ μ Φ = φ Ψ δ μ fun x μ1 => ∃ es, x = .obj C NS es ∧ c [x] μ1 Φ fun z μ3 => Ψ z δ μ3 := rfl
end
end DW
set_option Elab.async false
set_option linter.all false
set_option maxRecDepth 100000
set_option Elab.async false
set_option linter.all false
set_option maxRecDepth 100000
set_option maxHeartbeats 4000000
namespace DW
open PySem PySem.Spec PyProof.Rows L2
section
variable {K : Fg} {B : Bx K} {ta tb : TE} {φ φ2 : DE} {Ψ : XP} {δ : DEnv} {μ : Sto} {Φ : DK} {W : WX}
def dGetX (C : Addr) (NS : List Str) (c : Con) (φ φ2 : DE) : DE := fun Ψ δ μ Φ => φ Ψ δ μ fun x μ1 => φ2 Ψ δ μ1 fun y μ2 => ∃ es, x = .obj C NS es ∧ c [x, y] μ2 Φ fun z μ3 => Ψ z δ μ3
theorem u_getX {C : Addr} {NS : List Str} {c : Con} : dGetX C NS c φ φ2 Ψ δ μ Φ = φ Ψ δ μ fun x μ1 => φ2 Ψ δ μ1 fun y μ2 => ∃ es, x = .obj C NS es ∧ c [x, y] μ2 Φ fun z μ3 => Ψ z δ μ3 := rfl
end
end DW
set_option Elab.async false
set_option linter.all false
set_option maxRecDepth 100000
set_option maxHeartbeats 4000000
namespace DW
open PySem PySem.Spec PyProof.Rows PySem.Calls L2
section
variable {K : Fg} {B : Bx K} {tas : TA} {ψ : DA} {Ψ : XP} {δ : DEnv} {μ : Sto} {Φ : DK} {W : WX}
def dCallX (C : Addr) (NS : List Str) (i : Nat) (c : Con) (ψ : DA) : DE := fun Ψ δ μ Φ => ∃ es, δ[i]? = some (some (.obj C NS es)) ∧ ψ Ψ δ μ fun ds μ1 => c (.obj C NS es :: ds) μ1 Φ fun y μ2 => Ψ y δ μ2
theorem u_callX {C : Addr} {NS : List Str} {i : Nat} {c : Con} : dCallX C NS i c ψ Ψ δ μ Φ = ∃ es, δ[i]? = some (some (.obj C NS es)) ∧ ψ Ψ δ μ fun ds μ1 => c (.obj C NS es :: ds) μ1 Φ fun y μ2 => Ψ y δ μ2 := rfl
end
end DW
set_option Elab.async false
set_option linter.all false
set_option maxRecDepth 100000
set_option maxHeartbeats 4000000
namespace DW
open PySem PySem.Spec PyProof.Rows L2
section
variable {K : Fg} {B : Bx K} {ta tb : TE} {φ φ2 : DE} {Ψ : XP} {δ : DEnv} {μ : Sto} {Φ : DK} {W : WX}
def dBinXI (C : Addr) (NS : List Str) (c : Con) (φ φ2 : DE) : DE := fun Ψ δ μ Φ => φ Ψ δ μ fun x μ1 => φ2 Ψ δ μ1 fun y μ2 => ∃ es j, x = .obj C NS es ∧ y = .int j ∧ c [x, y] μ2 (fun d μ3 => (∃ C' NS' es', d = .obj C' NS' es') ∧ Φ d μ3) fun z μ3 => Ψ z δ μ3
theorem u_binXI {C : Addr} {NS : List Str} {c : Con} : dBinXI C NS c φ φ2 Ψ δ μ Φ = φ Ψ δ μ fun x μ1 => φ2 Ψ δ μ1 fun y μ2 => ∃ es j, x = .obj C NS es ∧ y = .int j ∧ c [x, y] μ2 (fun d μ3 => (∃ C' NS' es', d = .obj C' NS' es') ∧ Φ d μ3) fun z μ3 => Ψ z δ μ3 := rfl
def dRestF (i : Nat) : DE := fun _ δ μ Φ => ∃ a ds, δ[i]? = some (some (.hd (.ref a))) ∧ ((μ a = some (.lst ds) ∧ Φ (.lst ds) (sset μ a (.frz ds))) ∨ (μ a = some (.frz ds) ∧ Φ (.lst ds) μ))
theorem u_restF {i : Nat} : dRestF i Ψ δ μ Φ = ∃ a ds, δ[i]? = some (some (.hd (.ref a))) ∧ ((μ a = some (.lst ds) ∧ Φ (.lst ds) (sset μ a (.frz ds))) ∨ (μ a = some (.frz ds) ∧ Φ (.lst ds) μ)) := rfl
end
end DW
set_option Elab.async false
set_option linter.all false
set_option maxRecDepth 100000
set_option maxHeartbeats 4000000
namespace DW
open PySem PySem.Spec PyProof.Rows L2
end DW
set_option Elab.async false
set_option linter.all false
set_option maxRecDepth 100000
set_option maxHeartbeats 4000000
namespace DW
open PySem PySem.Spec PyProof.Rows L2
end DW
set_option Elab.async false
set_option linter.all false
set_option maxRecDepth 100000
namespace DW
open PySem PySem.Spec PyProof.Rows L2
section
variable {K : Fg} {B : Bx K}
def dStar (φ : DE) (ψ : DA) : DA := fun Ψ δ μ Φ => φ Ψ δ μ fun x μ1 => ∃ ds, x = .tup ds ∧ ψ Ψ δ μ1 fun xs μ2 => Φ (ds ++ xs) μ2
theorem u_star {φ : DE} {ψ : DA} {Ψ : XP} {δ : DEnv} {μ : Sto} {Φ : List D → Sto → Prop} : dStar φ ψ Ψ δ μ Φ = φ Ψ δ μ fun x μ1 => ∃ ds, x = .tup ds ∧ ψ Ψ δ μ1 fun xs μ2 => Φ (ds ++ xs) μ2 := rfl
def dRev2L (φ : DE) : DE := fun Ψ δ μ Φ => φ Ψ δ μ fun x μ1 => ∃ ds, Items μ1 x ds ∧ isTup x = false ∧ ds ≠ [] ∧ Φ (.lst ds.dropLast.reverse) μ1
theorem u_rev2L {φ : DE} {Ψ : XP} {δ : DEnv} {μ : Sto} {Φ : DK} : dRev2L φ Ψ δ μ Φ = φ Ψ δ μ fun x μ1 => ∃ ds, Items μ1 x ds ∧ isTup x = false ∧ ds ≠ [] ∧ Φ (.lst ds.dropLast.reverse) μ1 := rfl
end
section
variable {K : Fg} {B : Bx K}
def dCallR (n : Nat) (c : Con) (ψ : DA) : DE := fun Ψ δ μ Φ => ψ Ψ δ μ fun xs μ1 => n ≤ xs.length ∧ xs.length ≤ 100000 ∧ c (xs.take n ++ [.tup (xs.drop n)]) μ1 Φ fun x μ2 => Ψ x δ μ2
theorem u_callR {n : Nat} {c : Con} {ψ : DA} {Ψ : XP} {δ : DEnv} {μ : Sto} {Φ : DK} : dCallR n c ψ Ψ δ μ Φ = ψ Ψ δ μ fun xs μ1 => n ≤ xs.length ∧ xs.length ≤ 100000 ∧ c (xs.take n ++ [.tup (xs.drop n)]) μ1 Φ fun x μ2 => Ψ x δ μ2 := rfl
end
end DW
set_option Elab.async false
set_option linter.all false
set_option maxRecDepth 100000
namespace LW
open PySem PySem.Spec L2 DW
theorem seq_cut {ω ζ : DSt} {Ψ : XP} {Δ : DEnds} {δ : DEnv} {μ : Sto} (h : ∀ M, M = ζ Ψ Δ → ω Ψ { Δ with nx := M } δ μ) : dSeq ω ζ Ψ Δ δ μ := h _ rfl
structure Rw where
  h : List Int
  c : List Int
def NSA : List Str := ["head", "cycle"]
def rwO (C : Addr) (r : Rw) : D := .obj C NSA [.tup (r.h.map .int), .tup (r.c.map .int)]
def cyc (c : List Int) (i : Nat) : Int := c.getD (i % c.length) 0
/-- what stands at a place -/
def ent (r : Rw) (i : Nat) : Int := if i < r.h.length then r.h.getD i 0 else cyc r.c (i - r.h.length)
structure RwOk (r : Rw) : Prop where
  c0 : r.c ≠ []
  hl : r.h.length ≤ 1000
  cl : r.c.length ≤ 1000
  hp : ∀ x ∈ r.h, 0 ≤ x
  cp : ∀ x ∈ r.c, 0 ≤ x
def Per (c : List Int) (d : Nat) : Prop := ∀ i, cyc c (i + d) = cyc c i
theorem cyc_mod (c : List Int) (i : Nat) : cyc c (i % c.length) = cyc c i := by unfold cyc; rw [Nat.mod_mod]
theorem cyc_lt {c : List Int} {i : Nat} (h : i < c.length) : cyc c i = c[i] := by
  unfold cyc
  rw [Nat.mod_eq_of_lt h, List.getD_eq_getElem?_getD, List.getElem?_eq_getElem h]; rfl
theorem cyc_add (c : List Int) (i : Nat) : cyc c (i + c.length) = cyc c i := by unfold cyc; rw [Nat.add_mod_right]
theorem per_len (c : List Int) : Per c c.length := cyc_add c
theorem per_of {c : List Int} {d : Nat} (h : ∀ i, i < c.length → cyc c (i + d) = cyc c i) (hc : 0 < c.length) : Per c d := fun i => by
  have := h (i % c.length) (Nat.mod_lt _ hc)
  rw [cyc_mod] at this
  rw [← this]
  unfold cyc
  rw [Nat.mod_add_mod]
theorem per_mul {c : List Int} {d : Nat} (h : Per c d) : ∀ k i, cyc c (i + k * d) = cyc c i
  | 0, i => by rw [Nat.zero_mul, Nat.add_zero]
  | k + 1, i => by rw [show i + (k + 1) * d = i + k * d + d by rw [Nat.add_mul]; omega, h, per_mul h k i]
theorem least {P : Nat → Prop} {n : Nat} (h : P n) : ∃ m, m ≤ n ∧ P m ∧ ∀ j, j < m → ¬ P j := by
  induction n using Nat.strongRecOn with
  | ind n ih =>
    by_cases hx : ∃ j, j < n ∧ P j
    · obtain ⟨j, hj, hp⟩ := hx
      obtain ⟨m, h1, h2, h3⟩ := ih j hj hp
      exact ⟨m, by omega, h2, h3⟩
    · exact ⟨n, Nat.le_refl _, h, fun j hj hp => hx ⟨j, hj, hp⟩⟩
structure MinPer (c : List Int) (d : Nat) : Prop where
  d1 : 1 ≤ d
  per : Per c d
  min : ∀ e, 1 ≤ e → e < d → ¬ Per c e
theorem minper_ex {c : List Int} (hc : c ≠ []) : ∃ d, MinPer c d := by
  obtain ⟨m, _, ⟨h1, h2⟩, h3⟩ := least (P := fun d => 1 ≤ d ∧ Per c d) (n := c.length) ⟨List.length_pos_iff.mpr hc, per_len c⟩
  exact ⟨m, h1, h2, fun e e1 e2 hp => h3 e e2 ⟨e1, hp⟩⟩
theorem MinPer.le {c : List Int} {d : Nat} (h : MinPer c d) (hc : c ≠ []) : d ≤ c.length := Classical.byContradiction fun z => h.min c.length (List.length_pos_iff.mpr hc) (by omega) (per_len c)
theorem MinPer.dvd {c : List Int} {d e : Nat} (h : MinPer c d) (he : Per c e) : e % d = 0 := by
  refine Classical.byContradiction fun z => h.min (e % d) (by omega) (Nat.mod_lt _ h.d1) fun i => ?_
  have e1 := per_mul h.per (e / d) (i + e % d)
  have e2 : i + e % d + e / d * d = i + e := by have := Nat.div_add_mod e d; rw [Nat.mul_comm] at this; omega
  rw [e2, he] at e1
  exact e1.symm
theorem MinPer.uniq {c : List Int} {d e : Nat} (h : MinPer c d) (g : MinPer c e) : d = e := by
  rcases Nat.lt_trichotomy d e with q | q | q
  · exact absurd h.per (g.min d h.d1 q)
  · exact q
  · exact absurd g.per (h.min e g.d1 q)
/-- turned by d -/
def rot (c : List Int) (d : Nat) : List Int := c.drop d ++ c.take d
theorem rot_len {c : List Int} {d : Nat} (h : d ≤ c.length) : (rot c d).length = c.length := by unfold rot; rw [List.length_append, List.length_drop, List.length_take]; omega
theorem rot_at {c : List Int} {d i : Nat} (h : d ≤ c.length) (hi : i < c.length) : (rot c d)[i]? = some (cyc c (i + d)) := by
  unfold rot
  by_cases q : i + d < c.length
  · rw [List.getElem?_append_left (by rw [List.length_drop]; omega), List.getElem?_drop, Nat.add_comm d i, List.getElem?_eq_getElem q, cyc_lt q]
  · rw [List.getElem?_append_right (by rw [List.length_drop]; omega), List.length_drop, List.getElem?_take, if_pos (by omega), List.getElem?_eq_getElem (by omega)]
    have e : (i + d) % c.length = i - (c.length - d) := by
      rw [Nat.mod_eq_sub_mod (by omega), Nat.mod_eq_of_lt (by omega)]; omega
    unfold cyc
    rw [e, List.getD_eq_getElem?_getD, List.getElem?_eq_getElem (by omega)]; rfl
theorem self_at {c : List Int} {i : Nat} (hi : i < c.length) : c[i]? = some (cyc c i) := by rw [List.getElem?_eq_getElem hi, cyc_lt hi]
theorem rep_at {α : Type} {l : List α} : ∀ {k i : Nat}, i < k * l.length → (List.replicate k l).flatten[i]? = l[i % l.length]?
  | 0, i, h => by simp at h
  | k + 1, i, h => by
    rw [List.replicate_succ, List.flatten_cons]
    by_cases q : i < l.length
    · rw [List.getElem?_append_left q, Nat.mod_eq_of_lt q]
    · rw [List.getElem?_append_right (by omega), rep_at (by rw [Nat.add_mul] at h; omega), ← Nat.mod_eq_sub_mod (by omega)]
theorem rep_per {c : List Int} {d : Nat} (d1 : 1 ≤ d) (h : d ≤ c.length) : (List.replicate (c.length / d) (c.take d)).flatten = c ↔ (c.length % d = 0 ∧ Per c d) := by
  have hl : (c.take d).length = d := by rw [List.length_take]; omega
  have hn : (List.replicate (c.length / d) (c.take d)).flatten.length = c.length / d * d := by simp [hl]
  have hc : 0 < c.length := by omega
  refine ⟨fun e => ?_, fun ⟨z, p⟩ => ?_⟩
  · have el : c.length / d * d = c.length := by rw [← hn, e]
    have z : c.length % d = 0 := by have := Nat.div_add_mod c.length d; rw [Nat.mul_comm] at this; omega
    have key : ∀ i, i < c.length → cyc c (i % d) = cyc c i := fun i hi => by
      have := rep_at (l := c.take d) (k := c.length / d) (i := i) (by rw [hl, el]; exact hi)
      rw [e, hl, List.getElem?_take, if_pos (Nat.mod_lt _ d1), self_at hi, self_at (by have := Nat.mod_lt i d1; omega)] at this
      exact (Option.some.inj this).symm
    refine ⟨z, per_of (fun i hi => ?_) hc⟩
    have a := key ((i + d) % c.length) (Nat.mod_lt _ hc)
    rw [Nat.mod_mod_of_dvd _ (Nat.dvd_of_mod_eq_zero z), Nat.add_mod_right, key i hi, cyc_mod] at a
    exact a.symm
  · have el : c.length / d * d = c.length := by have := Nat.div_add_mod c.length d; rw [Nat.mul_comm] at this; omega
    apply List.ext_getElem?
    intro i
    by_cases hi : i < c.length
    · rw [rep_at (by rw [hl, el]; exact hi), hl, List.getElem?_take, if_pos (Nat.mod_lt _ d1), self_at hi, self_at (by have := Nat.mod_lt i d1; omega)]
      have := per_mul p (i / d) (i % d)
      rw [show i % d + i / d * d = i by have := Nat.div_add_mod i d; rw [Nat.mul_comm] at this; omega] at this
      rw [this]
    · rw [List.getElem?_eq_none (by rw [hn, el]; omega), List.getElem?_eq_none (by omega)]
structure LeastOf (s : Nat → Int) (p d : Nat) : Prop where
  d1 : 1 ≤ d
  dmin : ∀ e, 1 ≤ e → e < d → ¬ ∃ N, ∀ m, N ≤ m → s (m + e) = s m
  pp : ∀ m, p ≤ m → s (m + d) = s m
  pmin : ∀ q, q < p → ¬ ∀ m, q ≤ m → s (m + d) = s m
theorem LeastOf.uniq {s : Nat → Int} {p d p' d' : Nat} (h : LeastOf s p d) (g : LeastOf s p' d') : p = p' ∧ d = d' := by
  have ed : d = d' := by
    rcases Nat.lt_trichotomy d d' with q | q | q
    · exact absurd ⟨p, h.pp⟩ (g.dmin d h.d1 q)
    · exact q
    · exact absurd ⟨p', g.pp⟩ (h.dmin d' g.d1 q)
  subst ed
  refine ⟨?_, rfl⟩
  rcases Nat.lt_trichotomy p p' with q | q | q
  · exact absurd h.pp (g.pmin p q)
  · exact q
  · exact absurd g.pp (h.pmin p' q)
def mkR (s : Nat → Int) (p d : Nat) : Rw := ⟨(List.range p).map s, (List.range d).map fun i => s (p + i)⟩
/-- the least form of r -/
def IsLeast (r r' : Rw) : Prop := ∃ p d, LeastOf (ent r) p d ∧ r' = mkR (ent r) p d
theorem IsLeast.uniq {r a b : Rw} (h : IsLeast r a) (g : IsLeast r b) : a = b := by
  obtain ⟨p, d, h1, rfl⟩ := h
  obtain ⟨p', d', h2, rfl⟩ := g
  obtain ⟨rfl, rfl⟩ := h1.uniq h2
  rfl
theorem ent_eper {r : Rw} (hc : r.c ≠ []) {e : Nat} (h : ∃ N, ∀ m, N ≤ m → ent r (m + e) = ent r m) : Per r.c e := fun i => by
  obtain ⟨N, h⟩ := h
  have hl : 0 < r.c.length := List.length_pos_iff.mpr hc
  have hN : N ≤ N * r.c.length := Nat.le_mul_of_pos_right _ hl
  have := h (r.h.length + (i + N * r.c.length)) (by omega)
  unfold ent at this
  rw [if_neg (by omega), if_neg (by omega), show r.h.length + (i + N * r.c.length) + e - r.h.length = i + e + N * r.c.length by omega, Nat.add_sub_cancel_left, per_mul (per_len r.c), per_mul (per_len r.c)] at this
  exact this
/-- how many last entries of the head the cycle could say, d the shortest cycle's length -/
structure Spare (h c : List Int) (d sp : Nat) : Prop where
  le : sp ≤ h.length
  yes : ∀ s, s < sp → h.getD (h.length - 1 - s) 0 = cyc c (d - 1 - s % d)
  no : sp < h.length → h.getD (h.length - 1 - sp) 0 ≠ cyc c (d - 1 - sp % d)
theorem back_mod {d s : Nat} (h : d ≤ s) : (s - d) % d = s % d := (Nat.mod_eq_sub_mod h).symm
theorem spare_per {r : Rw} {d sp : Nat} (hc : r.c ≠ []) (hd : MinPer r.c d) (hs : Spare r.h r.c d sp) {s : Nat} (hsl : s < r.h.length) (hss : s ≤ sp) : ent r (r.h.length - 1 - s + d) = cyc r.c (d - 1 - s % d) := by
  have d1 := hd.d1
  unfold ent
  by_cases q : s < d
  · rw [if_neg (by omega), Nat.mod_eq_of_lt q]
    congr 1
    omega
  · rw [if_pos (by omega), show r.h.length - 1 - s + d = r.h.length - 1 - (s - d) by omega, hs.yes (s - d) (by omega), back_mod (by omega)]
theorem leastOf_spare {r : Rw} {d sp : Nat} (hc : r.c ≠ []) (hd : MinPer r.c d) (hs : Spare r.h r.c d sp) : LeastOf (ent r) (r.h.length - sp) d := by
  have d1 := hd.d1
  refine ⟨d1, fun e e1 e2 z => hd.min e e1 e2 (ent_eper hc z), fun m hm => ?_, fun q hq z => ?_⟩
  · by_cases h : r.h.length ≤ m
    · unfold ent
      rw [if_neg (by omega), if_neg (by omega), show m + d - r.h.length = m - r.h.length + d by omega]
      exact hd.per _
    · obtain ⟨s, rfl⟩ : ∃ s, m = r.h.length - 1 - s := ⟨r.h.length - 1 - m, by omega⟩
      by_cases hs0 : s < r.h.length
      · have hss : s < sp := by omega
        rw [spare_per hc hd hs hs0 (by omega), ← hs.yes s hss]
        unfold ent
        rw [if_pos (by omega)]
      · have e0 : r.h.length - 1 - s = r.h.length - 1 - (r.h.length - 1) := by omega
        rw [e0]
        rw [spare_per hc hd hs (by omega) (by omega), ← hs.yes _ (by omega)]
        unfold ent
        rw [if_pos (by omega)]
  · have hlt : sp < r.h.length := by omega
    have e := z (r.h.length - 1 - sp) (by omega)
    rw [spare_per hc hd hs hlt (Nat.le_refl _)] at e
    refine hs.no hlt ?_
    rw [e]
    unfold ent
    rw [if_pos (by omega)]
theorem cyc_cong {c : List Int} {d x y k : Nat} (p : Per c d) (h : x = y + k * d) : cyc c x = cyc c y := by rw [h, per_mul p]
theorem take_cyc {c : List Int} {d : Nat} (hc : c ≠ []) (hd : MinPer c d) (j : Nat) : cyc (c.take d) j = cyc c j := by
  have d1 := hd.d1
  have hl : (c.take d).length = d := by rw [List.length_take]; have := hd.le hc; omega
  have e : cyc (c.take d) j = cyc c (j % d) := by
    have hlt : j % d < d := Nat.mod_lt _ d1
    have hle := hd.le hc
    rw [← cyc_mod, hl, cyc_lt (by rw [hl]; exact hlt), List.getElem_take, cyc_lt (by omega)]
  rw [e]
  refine (cyc_cong (k := j / d) hd.per ?_).symm
  have := Nat.div_add_mod j d
  rw [Nat.mul_comm] at this
  omega
/-- what the program makes is the least form -/
theorem isleast_prog {r : Rw} {d sp st : Nat} (hc : r.c ≠ []) (hd : MinPer r.c d) (hs : Spare r.h r.c d sp) (hst : st < d) (hz : (st + sp) % d = 0) : IsLeast r ⟨r.h.take (r.h.length - sp), rot (r.c.take d) st⟩ := by
  have d1 := hd.d1
  have hl : (r.c.take d).length = d := by rw [List.length_take]; have := hd.le hc; omega
  have hle := hs.le
  refine ⟨r.h.length - sp, d, leastOf_spare hc hd hs, ?_⟩
  unfold mkR
  rw [Rw.mk.injEq]
  constructor
  · apply List.ext_getElem?
    intro i
    by_cases h : i < r.h.length - sp
    · rw [List.getElem?_take, if_pos h, List.getElem?_map, List.getElem?_range h, Option.map_some, List.getElem?_eq_getElem (by omega)]
      unfold ent
      rw [if_pos (by omega), List.getD_eq_getElem?_getD, List.getElem?_eq_getElem (by omega)]; rfl
    · rw [List.getElem?_eq_none (by rw [List.length_take]; omega), List.getElem?_eq_none (by rw [List.length_map, List.length_range]; omega)]
  · apply List.ext_getElem?
    intro i
    by_cases h : i < d
    · rw [rot_at (by rw [hl]; omega) (by rw [hl]; exact h), List.getElem?_map, List.getElem?_range h, Option.map_some, take_cyc hc hd]
      congr 1
      obtain ⟨q, hq⟩ : ∃ q, st + sp = d * q := ⟨(st + sp) / d, by have := Nat.div_add_mod (st + sp) d; omega⟩
      by_cases hi : i < sp
      · obtain ⟨s, hs2⟩ : ∃ s, s = sp - 1 - i := ⟨_, rfl⟩
        have e1 : r.h.length - sp + i = r.h.length - 1 - s := by omega
        rw [e1]
        have e2 : ent r (r.h.length - 1 - s) = cyc r.c (d - 1 - s % d) := by
          rw [← hs.yes s (by omega)]
          unfold ent
          rw [if_pos (by omega)]
        rw [e2]
        have m1 := Nat.div_add_mod s d
        have m2 := Nat.mod_lt s d1
        have hqs : s / d + 1 ≤ q := by
          have : d * (s / d) < d * q := by omega
          exact Nat.lt_of_mul_lt_mul_left this
        obtain ⟨k, rfl⟩ : ∃ k, q = s / d + 1 + k := ⟨q - (s / d + 1), by omega⟩
        refine cyc_cong (k := k) hd.per ?_
        have e3 : d * (s / d + 1 + k) = d * (s / d) + d + k * d := by rw [Nat.mul_add, Nat.mul_add, Nat.mul_one, Nat.mul_comm d k]
        omega
      · unfold ent
        rw [if_neg (by omega)]
        refine cyc_cong (k := q) hd.per ?_
        rw [Nat.mul_comm q d]
        omega
    · rw [List.getElem?_eq_none (by rw [rot_len (by rw [hl]; omega), hl]; omega), List.getElem?_eq_none (by rw [List.length_map, List.length_range]; omega)]
theorem isleast_law {r : Rw} {d p : Nat} (hc : r.c ≠ []) (hd : MinPer r.c d) (hp : p ≤ r.h.length) (h1 : ∀ m, p ≤ m → m < r.h.length → ent r m = ent r (m + d)) (h2 : ∀ q, q + 1 = p → ent r q ≠ ent r (q + d)) : IsLeast r (mkR (ent r) p d) := by
  refine ⟨p, d, ⟨hd.d1, fun e e1 e2 z => hd.min e e1 e2 (ent_eper hc z), fun m hm => ?_, fun q hq z => ?_⟩, rfl⟩
  · by_cases h : r.h.length ≤ m
    · unfold ent
      rw [if_neg (by omega), if_neg (by omega), show m + d - r.h.length = m - r.h.length + d by omega]
      exact hd.per _
    · exact (h1 m hm (by omega)).symm
  · exact h2 (p - 1) (by omega) (z (p - 1) (by omega)).symm
theorem RwOk.least {r a : Rw} (h : RwOk r) (g : IsLeast r a) : RwOk a ∧ a.h.length ≤ r.h.length ∧ a.c.length ≤ r.c.length := by
  have hl : 0 < r.c.length := List.length_pos_iff.mpr h.c0
  have he : ∀ i, 0 ≤ ent r i := fun i => by
    unfold ent cyc
    split
    · rename_i q
      rw [List.getD_eq_getElem?_getD, List.getElem?_eq_getElem q]
      exact h.hp _ (List.getElem_mem q)
    · have q := Nat.mod_lt (i - r.h.length) hl
      rw [List.getD_eq_getElem?_getD, List.getElem?_eq_getElem q]
      exact h.cp _ (List.getElem_mem q)
  obtain ⟨p, d, h1, rfl⟩ := g
  have d1 := h1.d1
  have hp : p ≤ r.h.length := Classical.byContradiction fun z => h1.pmin r.h.length (by omega) fun m hm => by
    have := ent_eper h.c0 ⟨p, h1.pp⟩
    unfold ent
    rw [if_neg (by omega), if_neg (by omega), show m + d - r.h.length = m - r.h.length + d by omega]
    exact this _
  have hd : d ≤ r.c.length := Classical.byContradiction fun z => h1.dmin r.c.length hl (by omega) ⟨r.h.length, fun m hm => by
    unfold ent
    rw [if_neg (by omega), if_neg (by omega), show m + r.c.length - r.h.length = m - r.h.length + r.c.length by omega]
    exact cyc_add _ _⟩
  have e1 : (mkR (ent r) p d).h.length = p := by unfold mkR; simp
  have e2 : (mkR (ent r) p d).c.length = d := by unfold mkR; simp
  refine ⟨⟨fun z => ?_, by rw [e1]; have := h.hl; omega, by rw [e2]; have := h.cl; omega, fun x hx => ?_, fun x hx => ?_⟩, by rw [e1]; exact hp, by rw [e2]; exact hd⟩
  · rw [z] at e2; simp at e2; omega
  · obtain ⟨i, _, rfl⟩ := List.mem_map.mp hx
    exact he i
  · obtain ⟨i, _, rfl⟩ := List.mem_map.mp hx
    exact he _
end LW
set_option Elab.async false
set_option linter.all false
set_option maxRecDepth 100000
namespace LW
open PySem PySem.Spec L2 DW
inductive QT where
  | tell (o : Nat)
  | look (p : Nat) (ts : List QT)
abbrev NS_Row : List Str := NSA
def NS_Query : List Str := ["term", "widths", "outcomes"]
mutual
def qD : QT → D
  | .tell o => .tup [.str "tell", .int (o : Int)]
  | .look p ts => .tup (.str "look" :: .int (p : Int) :: qDs ts)
def qDs : List QT → List D
  | [] => []
  | t :: ts => qD t :: qDs ts
end
theorem qDs_map : ∀ ts : List QT, qDs ts = ts.map qD
  | [] => rfl
  | t :: ts => by rw [qDs, qDs_map ts]; rfl
theorem qDs_len (ts : List QT) : (qDs ts).length = ts.length := by rw [qDs_map, List.length_map]
/-- the width of a place -/
def wd (ws : List Int) (p : Nat) : Nat := (ws.getD (p % ws.length) 0).toNat
structure WsOk (ws : List Int) : Prop where
  l0 : 1 ≤ ws.length
  l1 : ws.length ≤ 6
  w : ∀ x ∈ ws, 1 ≤ x ∧ x ≤ 4
theorem WsOk.at_ {ws : List Int} (h : WsOk ws) (p : Nat) : ∃ x, ws[p % ws.length]? = some x ∧ x = (wd ws p : Int) ∧ 1 ≤ x ∧ x ≤ 4 := by
  have hp : p % ws.length < ws.length := Nat.mod_lt _ (by have := h.l0; omega)
  have hx := h.w _ (List.getElem_mem hp)
  refine ⟨ws[p % ws.length], List.getElem?_eq_getElem hp, ?_, hx⟩
  unfold wd
  rw [List.getD_eq_getElem?_getD, List.getElem?_eq_getElem hp]
  simp only [Option.getD_some]
  omega
theorem WsOk.wd1 {ws : List Int} (h : WsOk ws) (p : Nat) : 1 ≤ wd ws p ∧ wd ws p ≤ 4 := by
  obtain ⟨x, _, e, h1, h2⟩ := h.at_ p
  omega
mutual
def QOk (ws : List Int) (oc : Nat) : QT → Prop
  | .tell o => o < oc
  | .look p ts => p < 100 ∧ ts.length = wd ws p ∧ QOks ws oc ts
def QOks (ws : List Int) (oc : Nat) : List QT → Prop
  | [] => True
  | t :: ts => QOk ws oc t ∧ QOks ws oc ts
end
theorem qoks_iff {ws : List Int} {oc : Nat} : ∀ {ts : List QT}, QOks ws oc ts ↔ ∀ t ∈ ts, QOk ws oc t
  | [] => by simp [QOks]
  | t :: ts => by rw [QOks, qoks_iff (ts := ts)]; simp
/-- how many looks inside of one another -/
def qDep : QT → Nat
  | .tell _ => 0
  | .look _ ts => qDeps ts + 1
where qDeps : List QT → Nat
  | [] => 0
  | t :: ts => max (qDep t) (qDeps ts)
theorem qdeps_le {t : QT} : ∀ {ts : List QT}, t ∈ ts → qDep t ≤ qDep.qDeps ts
  | s :: ts, h => by
    rw [qDep.qDeps]
    rcases List.mem_cons.mp h with e | e
    · subst e; omega
    · have := qdeps_le e; omega
/-- the places, look by look -/
def qPl : QT → List Nat
  | .tell _ => []
  | .look p ts => p :: qPls ts
where qPls : List QT → List Nat
  | [] => []
  | t :: ts => qPl t ++ qPls ts
theorem qpls_flat : ∀ ts : List QT, qPl.qPls ts = ts.flatMap qPl
  | [] => rfl
  | t :: ts => by rw [qPl.qPls, qpls_flat ts, List.flatMap_cons]
theorem qpls_mem {ts : List QT} {q : Nat} : q ∈ qPl.qPls ts ↔ ∃ t ∈ ts, q ∈ qPl t := by rw [qpls_flat, List.mem_flatMap]
theorem qpls_len {t : QT} : ∀ {ts : List QT}, t ∈ ts → (qPl t).length ≤ (qPl.qPls ts).length
  | s :: ts, h => by
    rw [qPl.qPls, List.length_append]
    rcases List.mem_cons.mp h with e | e
    · subst e; omega
    · have := qpls_len e; omega
/-- what is told on a way -/
def qA (f : Nat → Nat) : QT → Nat
  | .tell o => o
  | .look p ts => (qAs f ts).getD (f p) 0
where qAs (f : Nat → Nat) : List QT → List Nat
  | [] => []
  | t :: ts => qA f t :: qAs f ts
theorem qas_map {f : Nat → Nat} : ∀ ts : List QT, qA.qAs f ts = ts.map (qA f)
  | [] => rfl
  | t :: ts => by rw [qA.qAs, qas_map ts]; rfl
theorem qA_look {f : Nat → Nat} {p : Nat} {ts : List QT} {t : QT} (h : ts[f p]? = some t) : qA f (.look p ts) = qA f t := by
  rw [qA, qas_map, List.getD_eq_getElem?_getD, List.getElem?_map, h]; rfl
/-- a place fixed -/
def qFx (m o : Nat) : QT → QT
  | .tell x => .tell x
  | .look p ts => if p = m then (qFxs m o ts).getD o (.tell 0) else .look p (qFxs m o ts)
where qFxs (m o : Nat) : List QT → List QT
  | [] => []
  | t :: ts => qFx m o t :: qFxs m o ts
theorem qfxs_map {m o : Nat} : ∀ ts : List QT, qFx.qFxs m o ts = ts.map (qFx m o)
  | [] => rfl
  | t :: ts => by rw [qFx.qFxs, qfxs_map ts]; rfl
theorem qFx_at {m o : Nat} {ts : List QT} {t : QT} (h : ts[o]? = some t) : qFx m o (.look m ts) = qFx m o t := by
  rw [qFx, if_pos rfl, qfxs_map, List.getD_eq_getElem?_getD, List.getElem?_map, h]; rfl
theorem qFx_ne {m o p : Nat} {ts : List QT} (h : p ≠ m) : qFx m o (.look p ts) = .look p (ts.map (qFx m o)) := by rw [qFx, if_neg h, qfxs_map]
/-- a way of proving for all terms -/
theorem QT.ind {P : QT → Prop} (h1 : ∀ o, P (.tell o)) (h2 : ∀ p ts, (∀ t ∈ ts, P t) → P (.look p ts)) (t : QT) : P t :=
  QT.rec (motive_1 := P) (motive_2 := fun ts => ∀ t ∈ ts, P t) h1 h2 (by simp) (fun t ts a b => by simpa using ⟨a, b⟩) t
section
variable {ws : List Int} {oc m o : Nat}
theorem qFx_ok (hm : o < wd ws m) : ∀ t, QOk ws oc t → QOk ws oc (qFx m o t) := fun t => by
  induction t using QT.ind with
  | h1 x => intro h; exact h
  | h2 p ts ih =>
    intro h
    obtain ⟨hp, hl, ht⟩ := h
    rw [qoks_iff] at ht
    by_cases e : p = m
    · subst e
      have ho : o < ts.length := by omega
      rw [qFx_at (List.getElem?_eq_getElem ho)]
      exact ih _ (List.getElem_mem ho) (ht _ (List.getElem_mem ho))
    · rw [qFx_ne e]
      refine ⟨hp, by rw [List.length_map]; exact hl, qoks_iff.mpr fun t h => ?_⟩
      obtain ⟨s, hs, rfl⟩ := List.mem_map.mp h
      exact ih s hs (ht s hs)
theorem qFx_ans {f : Nat → Nat} (hm : o < wd ws m) (hf : ∀ p, f p < wd ws p) : ∀ t, QOk ws oc t → qA f (qFx m o t) = qA (fun p => if p = m then o else f p) t := fun t => by
  induction t using QT.ind with
  | h1 x => intro h; rfl
  | h2 p ts ih =>
    intro h
    obtain ⟨hp, hl, ht⟩ := h
    rw [qoks_iff] at ht
    by_cases e : p = m
    · subst e
      have ho : o < ts.length := by omega
      rw [qFx_at (List.getElem?_eq_getElem ho), ih _ (List.getElem_mem ho) (ht _ (List.getElem_mem ho))]
      refine (qA_look ?_).symm
      rw [if_pos rfl]
      exact List.getElem?_eq_getElem ho
    · rw [qFx_ne e]
      have ho : f p < ts.length := by have := hf p; omega
      rw [qA_look (t := qFx m o ts[f p]) (by rw [List.getElem?_map, List.getElem?_eq_getElem ho]; rfl), ih _ (List.getElem_mem ho) (ht _ (List.getElem_mem ho))]
      refine (qA_look ?_).symm
      rw [if_neg e]
      exact List.getElem?_eq_getElem ho
theorem qFx_pl (hm : o < wd ws m) : ∀ t, QOk ws oc t → ∀ q ∈ qPl (qFx m o t), q ∈ qPl t ∧ q ≠ m := fun t => by
  induction t using QT.ind with
  | h1 x => intro h q hq; simp [qFx, qPl] at hq
  | h2 p ts ih =>
    intro h q hq
    obtain ⟨hp, hl, ht⟩ := h
    rw [qoks_iff] at ht
    rw [qPl]
    by_cases e : p = m
    · subst e
      have ho : o < ts.length := by omega
      rw [qFx_at (List.getElem?_eq_getElem ho)] at hq
      obtain ⟨h1, h2⟩ := ih _ (List.getElem_mem ho) (ht _ (List.getElem_mem ho)) q hq
      exact ⟨List.mem_cons_of_mem _ (qpls_mem.mpr ⟨_, List.getElem_mem ho, h1⟩), h2⟩
    · rw [qFx_ne e, qPl] at hq
      rcases List.mem_cons.mp hq with e2 | e2
      · subst e2; exact ⟨List.mem_cons_self, e⟩
      · obtain ⟨s, hs, hq2⟩ := qpls_mem.mp e2
        obtain ⟨t, ht2, rfl⟩ := List.mem_map.mp hs
        obtain ⟨h1, h2⟩ := ih t ht2 (ht t ht2) q hq2
        exact ⟨List.mem_cons_of_mem _ (qpls_mem.mpr ⟨t, ht2, h1⟩), h2⟩
theorem qpls_map_le {g : QT → QT} : ∀ ts : List QT, (∀ t ∈ ts, (qPl (g t)).length ≤ (qPl t).length) → (qPl.qPls (ts.map g)).length ≤ (qPl.qPls ts).length
  | [], _ => Nat.le_refl _
  | t :: ts, h => by
    rw [List.map_cons, qPl.qPls, qPl.qPls, List.length_append, List.length_append]
    have h1 := h t List.mem_cons_self
    have h2 := qpls_map_le ts fun s hs => h s (List.mem_cons_of_mem _ hs)
    omega
theorem qFx_len (hm : o < wd ws m) : ∀ t, QOk ws oc t → (qPl (qFx m o t)).length ≤ (qPl t).length := fun t => by
  induction t using QT.ind with
  | h1 x => intro h; exact Nat.le_refl _
  | h2 p ts ih =>
    intro h
    obtain ⟨hp, hl, ht⟩ := h
    rw [qoks_iff] at ht
    by_cases e : p = m
    · subst e
      have ho : o < ts.length := by omega
      rw [qFx_at (List.getElem?_eq_getElem ho), qPl, List.length_cons]
      have h1 := ih _ (List.getElem_mem ho) (ht _ (List.getElem_mem ho))
      have h2 := qpls_len (List.getElem_mem ho)
      omega
    · rw [qFx_ne e, qPl, qPl, List.length_cons, List.length_cons]
      have := qpls_map_le (g := qFx m o) ts fun t h => ih t h (ht t h)
      omega
theorem qFx_dep : ∀ t, QOk ws oc t → o < wd ws m → qDep (qFx m o t) ≤ qDep t := fun t => by
  induction t using QT.ind with
  | h1 x => intro h _; exact Nat.le_refl _
  | h2 p ts ih =>
    intro h hm
    obtain ⟨hp, hl, ht⟩ := h
    rw [qoks_iff] at ht
    by_cases e : p = m
    · subst e
      have ho : o < ts.length := by omega
      rw [qFx_at (List.getElem?_eq_getElem ho), qDep]
      have h1 := ih _ (List.getElem_mem ho) (ht _ (List.getElem_mem ho)) hm
      have h2 := qdeps_le (List.getElem_mem ho)
      omega
    · rw [qFx_ne e, qDep, qDep]
      have : ∀ us : List QT, (∀ t ∈ us, qDep (qFx m o t) ≤ qDep t) → qDep.qDeps (us.map (qFx m o)) ≤ qDep.qDeps us := fun us => by
        induction us with
        | nil => intro _; exact Nat.le_refl _
        | cons u us ih2 =>
          intro h
          rw [List.map_cons, qDep.qDeps, qDep.qDeps]
          have h1 := h u List.mem_cons_self
          have h2 := ih2 fun t ht => h t (List.mem_cons_of_mem _ ht)
          omega
      have := this ts fun t h => ih t h (ht t h) hm
      omega
end
section
variable {ws : List Int} {oc m o : Nat}
theorem qpls_map_lt {g : QT → QT} {t0 : QT} : ∀ ts : List QT, (∀ t ∈ ts, (qPl (g t)).length ≤ (qPl t).length) → t0 ∈ ts → (qPl (g t0)).length < (qPl t0).length → (qPl.qPls (ts.map g)).length < (qPl.qPls ts).length
  | [], _, z, _ => by cases z
  | t :: ts, h, hm, hl => by
    rw [List.map_cons, qPl.qPls, qPl.qPls, List.length_append, List.length_append]
    have h1 := h t List.mem_cons_self
    have h2 := qpls_map_le (g := g) ts fun s hs => h s (List.mem_cons_of_mem _ hs)
    rcases List.mem_cons.mp hm with e | e
    · subst e; omega
    · have := qpls_map_lt ts (fun s hs => h s (List.mem_cons_of_mem _ hs)) e hl
      omega
theorem qFx_lt (hm : o < wd ws m) : ∀ t, QOk ws oc t → m ∈ qPl t → (qPl (qFx m o t)).length < (qPl t).length := fun t => by
  induction t using QT.ind with
  | h1 x => intro h q; simp [qPl] at q
  | h2 p ts ih =>
    intro h q
    have hh := h
    obtain ⟨hp, hl, ht⟩ := h
    rw [qoks_iff] at ht
    by_cases e : p = m
    · subst e
      have ho : o < ts.length := by omega
      rw [qFx_at (List.getElem?_eq_getElem ho), qPl, List.length_cons]
      have h1 := qFx_len hm _ (ht _ (List.getElem_mem ho))
      have h2 := qpls_len (List.getElem_mem ho)
      omega
    · rw [qFx_ne e, qPl, qPl, List.length_cons, List.length_cons]
      rw [qPl] at q
      rcases List.mem_cons.mp q with e2 | e2
      · exact absurd e2.symm e
      · obtain ⟨t, ht2, hq⟩ := qpls_mem.mp e2
        have := qpls_map_lt (g := qFx m o) (t0 := t) ts (fun t h => qFx_len hm t (ht t h)) ht2 (ih t ht2 (ht t ht2) hq)
        omega
/-- the least of numbers -/
def qMin : List Nat → Nat
  | [] => 0
  | [x] => x
  | x :: y :: l => min x (qMin (y :: l))
theorem qMin_mem : ∀ {l : List Nat}, l ≠ [] → qMin l ∈ l
  | [x], _ => List.mem_cons_self
  | x :: y :: l, _ => by
    rw [qMin]
    have h := qMin_mem (l := y :: l) (by simp)
    by_cases e : x ≤ qMin (y :: l)
    · rw [Nat.min_eq_left e]; exact List.mem_cons_self
    · rw [Nat.min_eq_right (by omega)]; exact List.mem_cons_of_mem _ h
theorem qMin_le : ∀ {l : List Nat} {z : Nat}, z ∈ l → qMin l ≤ z
  | [x], z, h => by simp at h; subst h; exact Nat.le_refl _
  | x :: y :: l, z, h => by
    rw [qMin]
    rcases List.mem_cons.mp h with e | e
    · subst e; omega
    · have := qMin_le e; omega
theorem qMin_eq {l : List Nat} (h : m ∈ l) (hl : ∀ z ∈ l, m ≤ z) : qMin l = m := by
  have h1 := qMin_le h
  have h2 := hl _ (qMin_mem (l := l) (fun e => by rw [e] at h; cases h))
  omega
open Classical in
/-- the parts of a place put together -/
noncomputable def joinP (m : Nat) (parts : List QT) : QT := if ∀ q ∈ parts, q = parts.headD (.tell 0) then parts.headD (.tell 0) else .look m parts
/-- a settled term -/
noncomputable def qSt (ws : List Int) : Nat → QT → QT
  | 0, t => t
  | _ + 1, .tell o => .tell o
  | n + 1, .look p ts => joinP (qMin (qPl (.look p ts))) ((List.range (wd ws (qMin (qPl (.look p ts))))).map fun i => qSt ws n (qFx (qMin (qPl (.look p ts))) i (.look p ts)))
mutual
def IsS (ws : List Int) (oc : Nat) : Nat → QT → Prop
  | _, .tell o => o < oc
  | lo, .look p ts => lo ≤ p ∧ p < 100 ∧ ts.length = wd ws p ∧ (¬ ∀ q ∈ ts, q = ts.headD (.tell 0)) ∧ IsSs ws oc (p + 1) ts
def IsSs (ws : List Int) (oc : Nat) : Nat → List QT → Prop
  | _, [] => True
  | lo, t :: ts => IsS ws oc lo t ∧ IsSs ws oc lo ts
end
theorem iss_iff {lo : Nat} : ∀ {ts : List QT}, IsSs ws oc lo ts ↔ ∀ t ∈ ts, IsS ws oc lo t
  | [] => by simp [IsSs]
  | t :: ts => by rw [IsSs, iss_iff (ts := ts)]; simp
theorem IsS.mono {lo lo' : Nat} (h : lo' ≤ lo) : ∀ {t : QT}, IsS ws oc lo t → IsS ws oc lo' t
  | .tell o, q => by rw [IsS] at q ⊢; exact q
  | .look p ts, q => by rw [IsS] at q ⊢; exact ⟨by omega, q.2⟩
theorem IsS.ok : ∀ (t : QT) {lo : Nat}, IsS ws oc lo t → QOk ws oc t := fun t => by
  induction t using QT.ind with
  | h1 x => intro lo h; rw [IsS] at h; exact h
  | h2 p ts ih =>
    intro lo h
    rw [IsS] at h
    obtain ⟨_, h1, h2, _, h3⟩ := h
    exact ⟨h1, h2, qoks_iff.mpr fun t ht => ih t ht (iss_iff.mp h3 t ht)⟩
theorem IsS.pl : ∀ (t : QT) {lo : Nat}, IsS ws oc lo t → ∀ q ∈ qPl t, lo ≤ q := fun t => by
  induction t using QT.ind with
  | h1 x => intro lo h q hq; simp [qPl] at hq
  | h2 p ts ih =>
    intro lo h q hq
    rw [IsS] at h
    obtain ⟨h0, h1, h2, _, h3⟩ := h
    rw [qPl] at hq
    rcases List.mem_cons.mp hq with e | e
    · subst e; exact h0
    · obtain ⟨t, ht, hq2⟩ := qpls_mem.mp e
      have := ih t ht (iss_iff.mp h3 t ht) q hq2
      omega
theorem qSt_ok (hw : WsOk ws) : ∀ (n : Nat) (t : QT) (lo : Nat), QOk ws oc t → (qPl t).length ≤ n → (∀ p ∈ qPl t, lo ≤ p) →
    IsS ws oc lo (qSt ws n t) ∧ (∀ q ∈ qPl (qSt ws n t), q ∈ qPl t) ∧ ∀ f : Nat → Nat, (∀ p, f p < wd ws p) → qA f (qSt ws n t) = qA f t := fun n => by
  induction n with
  | zero =>
    intro t lo h hl hp
    cases t with
    | tell x => exact ⟨by rw [qSt, IsS]; exact h, fun _ q => q, fun _ _ => rfl⟩
    | look p ts => rw [qPl, List.length_cons] at hl; omega
  | succ n ih =>
    intro t lo h hl hp
    cases t with
    | tell x => exact ⟨by rw [qSt, IsS]; exact h, fun _ q => by rw [qSt] at q; exact q, fun _ _ => rfl⟩
    | look p ts =>
      rw [qSt]
      generalize ht : QT.look p ts = t at *
      have hne : qPl t ≠ [] := by rw [← ht, qPl]; simp
      have hm := qMin_mem hne
      generalize hmm : qMin (qPl t) = m at *
      have hm1 : ∀ z ∈ qPl t, m ≤ z := fun z hz => by rw [← hmm]; exact qMin_le hz
      have hlo := hp m hm
      have hm100 : m < 100 := by
        have : ∀ t : QT, QOk ws oc t → ∀ q ∈ qPl t, q < 100 := fun t => by
          induction t using QT.ind with
          | h1 x => intro h q hq; simp [qPl] at hq
          | h2 p ts ih2 =>
            intro h q hq
            obtain ⟨hp, hl, ht⟩ := h
            rw [qoks_iff] at ht
            rw [qPl] at hq
            rcases List.mem_cons.mp hq with e | e
            · subst e; exact hp
            · obtain ⟨t, ht2, hq2⟩ := qpls_mem.mp e
              exact ih2 t ht2 (ht t ht2) q hq2
        exact this t h m hm
      have I : ∀ i, i < wd ws m → IsS ws oc (m + 1) (qSt ws n (qFx m i t)) ∧ (∀ q ∈ qPl (qSt ws n (qFx m i t)), q ∈ qPl t) ∧ ∀ f : Nat → Nat, (∀ p, f p < wd ws p) → f m = i → qA f (qSt ws n (qFx m i t)) = qA f t := fun i hi => by
        have hlt := qFx_lt hi t h hm
        obtain ⟨a, b, c⟩ := ih (qFx m i t) (m + 1) (qFx_ok hi t h) (by omega) (fun q hq => by
          obtain ⟨x, y⟩ := qFx_pl hi t h q hq
          have := hm1 q x
          omega)
        refine ⟨a, fun q hq => (qFx_pl hi t h q (b q hq)).1, fun f hf e => ?_⟩
        rw [c f hf, qFx_ans hi hf t h]
        congr 1
        funext p
        by_cases ep : p = m
        · rw [if_pos ep, ep, e]
        · rw [if_neg ep]
      have hw1 := hw.wd1 m
      generalize hps : ((List.range (wd ws m)).map fun i => qSt ws n (qFx m i t)) = parts
      have hpl : parts.length = wd ws m := by rw [← hps, List.length_map, List.length_range]
      have hat : ∀ i, i < wd ws m → parts[i]? = some (qSt ws n (qFx m i t)) := fun i hi => by rw [← hps, List.getElem?_map, List.getElem?_range hi]; rfl
      have hmem : ∀ s ∈ parts, ∃ i, i < wd ws m ∧ s = qSt ws n (qFx m i t) := fun s hs => by
        rw [← hps] at hs
        obtain ⟨i, hi, rfl⟩ := List.mem_map.mp hs
        exact ⟨i, List.mem_range.mp hi, rfl⟩
      unfold joinP
      split
      · rename_i hall
        have h0 : parts.headD (.tell 0) = qSt ws n (qFx m 0 t) := by
          have := hat 0 (by omega)
          cases parts with
          | nil => simp at this
          | cons a l => simpa using this
        rw [h0] at hall ⊢
        obtain ⟨a, b, c⟩ := I 0 (by omega)
        refine ⟨a.mono (by omega), b, fun f hf => ?_⟩
        have e := hall _ (List.mem_of_getElem? (hat (f m) (hf m)))
        rw [← e]
        exact (I (f m) (hf m)).2.2 f hf rfl
      · rename_i hall
        refine ⟨?_, fun q hq => ?_, fun f hf => ?_⟩
        · rw [IsS]
          exact ⟨hlo, hm100, hpl, hall, iss_iff.mpr fun s hs => by obtain ⟨i, hi, rfl⟩ := hmem s hs; exact (I i hi).1⟩
        · rw [qPl] at hq
          rcases List.mem_cons.mp hq with e | e
          · subst e; exact hm
          · obtain ⟨s, hs, hq2⟩ := qpls_mem.mp e
            obtain ⟨i, hi, rfl⟩ := hmem s hs
            exact (I i hi).2.1 q hq2
        · rw [qA_look (hat (f m) (hf m))]
          exact (I (f m) (hf m)).2.2 f hf rfl
/-- the product of the widths of places -/
def wpr (ws : List Int) : List Nat → Nat
  | [] => 1
  | p :: ps => wd ws p * wpr ws ps
theorem wpr_pos (hw : WsOk ws) : ∀ ps, 1 ≤ wpr ws ps
  | [] => Nat.le_refl _
  | p :: ps => by rw [wpr]; exact Nat.mul_le_mul (hw.wd1 p).1 (wpr_pos hw ps)
theorem wpr_split (hw : WsOk ws) {p : Nat} : ∀ {ps : List Nat}, ps.Pairwise (· < ·) → p ∈ ps → ∃ b : List Nat, b.Pairwise (· < ·) ∧ (∀ q ∈ ps, p < q → q ∈ b) ∧ wd ws p * wpr ws b ≤ wpr ws ps ∧ b.length + 1 ≤ ps.length
  | x :: ps, hs, hp => by
    rw [List.pairwise_cons] at hs
    rcases List.mem_cons.mp hp with e | e
    · subst e
      refine ⟨ps, hs.2, fun q hq hl => ?_, by rw [wpr]; exact Nat.le_refl _, by rw [List.length_cons]; omega⟩
      rcases List.mem_cons.mp hq with e2 | e2
      · omega
      · exact e2
    · obtain ⟨b, h1, h2, h3, h4⟩ := wpr_split hw hs.2 e
      refine ⟨b, h1, fun q hq hl => ?_, ?_, by rw [List.length_cons]; omega⟩
      · rcases List.mem_cons.mp hq with e2 | e2
        · have := hs.1 p e; omega
        · exact h2 q e2 hl
      · rw [wpr]
        have := (hw.wd1 x).1
        exact Nat.le_trans h3 (Nat.le_mul_of_pos_left _ (by omega))
theorem qpls_bound {k : Nat} : ∀ ts : List QT, (∀ t ∈ ts, (qPl t).length + 1 ≤ k) → (qPl.qPls ts).length + ts.length ≤ ts.length * k
  | [], _ => by simp [qPl.qPls]
  | t :: ts, h => by
    rw [qPl.qPls, List.length_append, List.length_cons, Nat.add_mul, Nat.one_mul]
    have h1 := h t List.mem_cons_self
    have h2 := qpls_bound ts fun s hs => h s (List.mem_cons_of_mem _ hs)
    omega
theorem qdeps_bound {k : Nat} : ∀ ts : List QT, (∀ t ∈ ts, qDep t ≤ k) → qDep.qDeps ts ≤ k
  | [], _ => by rw [qDep.qDeps]; omega
  | t :: ts, h => by
    rw [qDep.qDeps]
    have h1 := h t List.mem_cons_self
    have h2 := qdeps_bound ts fun s hs => h s (List.mem_cons_of_mem _ hs)
    omega
/-- a settled term is small -/
theorem IsS.small (hw : WsOk ws) : ∀ (t : QT) {lo : Nat} {ps : List Nat}, IsS ws oc lo t → ps.Pairwise (· < ·) → (∀ q ∈ qPl t, q ∈ ps) → (qPl t).length + 1 ≤ wpr ws ps ∧ qDep t ≤ ps.length := fun t => by
  induction t using QT.ind with
  | h1 x => intro lo ps _ _ _; exact ⟨by rw [qPl]; exact wpr_pos hw ps, by rw [qDep]; omega⟩
  | h2 p ts ih =>
    intro lo ps h hs hm
    rw [IsS] at h
    obtain ⟨h0, h1, h2, h4, h3⟩ := h
    rw [iss_iff] at h3
    obtain ⟨b, b1, b2, b3, b4⟩ := wpr_split hw hs (hm p (by rw [qPl]; exact List.mem_cons_self))
    have hch : ∀ t ∈ ts, (qPl t).length + 1 ≤ wpr ws b ∧ qDep t ≤ b.length := fun t ht => ih t ht (h3 t ht) b1 fun q hq => by
      have hl := IsS.pl t (h3 t ht) q hq
      exact b2 q (hm q (by rw [qPl]; exact List.mem_cons_of_mem _ (qpls_mem.mpr ⟨t, ht, hq⟩))) (by omega)
    have h5 := qpls_bound ts fun t ht => (hch t ht).1
    have h6 := qdeps_bound ts fun t ht => (hch t ht).2
    have h7 : 2 ≤ ts.length := by
      refine Classical.byContradiction fun z => h4 fun q hq => ?_
      match ts, hq with
      | [a], hq => simpa using hq
      | a :: c :: l, _ => exact absurd (by simp) z
    refine ⟨?_, by rw [qDep]; omega⟩
    rw [qPl, List.length_cons]
    rw [← h2] at b3
    omega
end
theorem qpls_take : ∀ (ts : List QT) (k : Nat), (qPl.qPls (ts.take k)).length ≤ (qPl.qPls ts).length
  | [], k => by rw [List.take_nil]; exact Nat.le_refl _
  | t :: ts, 0 => by rw [List.take_zero]; exact Nat.zero_le _
  | t :: ts, k + 1 => by
    rw [List.take_succ_cons, qPl.qPls, qPl.qPls, List.length_append, List.length_append]
    have := qpls_take ts k
    omega
def nI (l : List Nat) : List D := l.map fun (n : Nat) => D.int (n : Int)
theorem nI_len (l : List Nat) : (nI l).length = l.length := by unfold nI; rw [List.length_map]
theorem nI_get {l : List Nat} {i : Nat} {d : D} (h : (nI l)[i]? = some d) : ∃ hi : i < l.length, d = .int ((l[i] : Nat) : Int) := by
  unfold nI at h
  rw [List.getElem?_map] at h
  have hi : i < l.length := by
    refine Classical.byContradiction fun z => ?_
    rw [List.getElem?_eq_none (by omega)] at h
    cases h
  rw [List.getElem?_eq_getElem hi] at h
  cases h
  exact ⟨hi, rfl⟩
theorem nI_ints (l : List Nat) : nI l = (l.map fun (n : Nat) => (n : Int)).map D.int := by unfold nI; rw [List.map_map]; rfl
theorem nI_range (l : List Nat) : ((List.range (nI l).length).map fun j => D.int ((l.getD j 0 : Nat) : Int)) = nI l := by
  refine List.ext_getElem (by rw [List.length_map, List.length_range]) fun i h1 h2 => ?_
  have hi : i < l.length := by rw [nI_len] at h2; exact h2
  have e : (nI l)[i]? = some (D.int ((l[i] : Nat) : Int)) := by unfold nI; rw [List.getElem?_map, List.getElem?_eq_getElem hi]; rfl
  rw [List.getElem_map, List.getElem_range, List.getD_eq_getElem?_getD, List.getElem?_eq_getElem hi]
  rw [List.getElem?_eq_getElem h2] at e
  exact (Option.some.inj e).symm
theorem nI_flat (ts : List QT) : ∀ k, k ≤ ts.length → ((List.range k).flatMap fun i => (List.range (nI (qPl (ts.getD i (.tell 0)))).length).map fun j => D.int (((qPl (ts.getD i (.tell 0))).getD j 0 : Nat) : Int)) = nI (qPl.qPls (ts.take k))
  | 0, _ => by rw [List.range_zero, List.take_zero]; rfl
  | k + 1, h => by
    rw [List.range_succ, List.flatMap_append, nI_flat ts k (by omega), List.take_succ, List.getElem?_eq_getElem (by omega), List.flatMap_cons, List.flatMap_nil, nI_range, qpls_flat, qpls_flat]
    unfold nI
    rw [Option.toList_some, List.flatMap_append, List.flatMap_cons, List.flatMap_nil, List.append_nil, List.append_nil, List.map_append, List.getD_eq_getElem?_getD, List.getElem?_eq_getElem (show k < ts.length by omega)]
    rfl
theorem qDs_at {ts : List QT} {i : Nat} (h : i < ts.length) : (qDs ts).getD i .non = qD ts[i] := by rw [qDs_map, List.getD_eq_getElem?_getD, List.getElem?_map, List.getElem?_eq_getElem h]; rfl
theorem qDs_get {ts : List QT} {i : Nat} {d : D} (h : (qDs ts)[i]? = some d) : ∃ hi : i < ts.length, d = qD ts[i] := by
  rw [qDs_map, List.getElem?_map] at h
  have hi : i < ts.length := by
    refine Classical.byContradiction fun z => ?_
    rw [List.getElem?_eq_none (by omega)] at h
    cases h
  rw [List.getElem?_eq_getElem hi] at h
  cases h
  exact ⟨hi, rfl⟩
section
variable {ws : List Int}
theorem wpr_mono (hw : WsOk ws) : ∀ {ns ps : List Nat}, ns.Pairwise (· < ·) → ps.Pairwise (· < ·) → (∀ q ∈ ns, q ∈ ps) → wpr ws ns ≤ wpr ws ps ∧ ns.length ≤ ps.length
  | [], ps, _, _, _ => ⟨wpr_pos hw ps, Nat.zero_le _⟩
  | n :: ns, ps, h1, h2, h3 => by
    rw [List.pairwise_cons] at h1
    obtain ⟨b, b1, b2, b3, b4⟩ := wpr_split hw h2 (h3 n List.mem_cons_self)
    obtain ⟨c1, c2⟩ := wpr_mono hw h1.2 b1 fun q hq => b2 q (h3 q (List.mem_cons_of_mem _ hq)) (h1.1 q hq)
    rw [wpr, List.length_cons]
    exact ⟨Nat.le_trans (Nat.mul_le_mul_left _ c1) b3, by omega⟩
theorem fold_wpr : ∀ (l : List Nat) (a : Int), (l.map fun (p : Nat) => (wd ws p : Int)).foldl (· * ·) a = a * (wpr ws l : Int)
  | [], a => by rw [wpr]; simp
  | p :: l, a => by
    rw [List.map_cons, List.foldl_cons, fold_wpr l, wpr, Int.natCast_mul, Int.mul_assoc]
theorem prod_wpr (l : List Nat) : prodI (l.map fun (p : Nat) => (wd ws p : Int)) = (wpr ws l : Int) := by
  unfold prodI
  rw [fold_wpr, Int.one_mul]
/-- what of a query keeps it within the limits -/
structure QFit (ws : List Int) (oc : Nat) (ps : List Nat) (t : QT) : Prop where
  w : WsOk ws
  o1 : 1 ≤ oc
  o4 : oc ≤ 4
  ok : QOk ws oc t
  sorted : ps.Pairwise (· < ·)
  most : ps.length ≤ 8
  few : wpr ws ps ≤ 256
  pl : ∀ q ∈ qPl t, q ∈ ps
  looks : (qPl t).length ≤ 300
  dep : qDep t ≤ 20
end
def qO (C : Addr) (t : QT) (ws : List Int) (oc : Nat) : D := .obj C NS_Query [qD t, .tup (ws.map .int), .int (oc : Int)]
theorem rangeQ {α : Type} (f : QT → α) (ts : List QT) : (List.range ts.length).map (fun i => f (ts.getD i (.tell 0))) = ts.map f := by
  refine List.ext_getElem (by rw [List.length_map, List.length_range, List.length_map]) fun i h1 h2 => ?_
  have hi : i < ts.length := by rw [List.length_map] at h2; exact h2
  rw [List.getElem_map, List.getElem_range, List.getElem_map, List.getD_eq_getElem?_getD, List.getElem?_eq_getElem hi]
  rfl
mutual
theorem eqv_q : ∀ s t : QT, PyData.eqv (toPy (qD s)) (toPy (qD t)) = true ↔ s = t
  | .tell a, .tell b => by
    rw [qD, qD]
    simp [toPy, toPys, PyData.eqv, PyData.eqvAll]
    exact ⟨fun h => Int.ofNat.inj h, fun h => by rw [h]⟩
  | .tell a, .look p ts => by
    rw [qD, qD]
    simp only [toPy, toPys, PyData.eqv, PyData.eqvAll, Bool.and_eq_true, reduceCtorEq, iff_false]
    intro h
    exact absurd (by simpa using h.1) (show ¬ (Str.ofString "tell" = Str.ofString "look") by decide)
  | .look p ts, .tell a => by
    rw [qD, qD]
    simp only [toPy, toPys, PyData.eqv, PyData.eqvAll, Bool.and_eq_true, reduceCtorEq, iff_false]
    intro h
    exact absurd (by simpa using h.1) (show ¬ (Str.ofString "look" = Str.ofString "tell") by decide)
  | .look p ts, .look q us => by
    rw [qD, qD]
    simp only [toPy, toPys, PyData.eqv, PyData.eqvAll, Bool.and_eq_true, QT.look.injEq, eqv_qs ts us]
    simp
    exact fun _ => ⟨fun h => Int.ofNat.inj h, fun h => by rw [h]⟩
theorem eqv_qs : ∀ ss ts : List QT, PyData.eqvAll (toPys (qDs ss)) (toPys (qDs ts)) = true ↔ ss = ts
  | [], [] => by simp [qDs, toPys, PyData.eqvAll]
  | [], t :: ts => by simp [qDs, toPys, PyData.eqvAll]
  | s :: ss, [] => by simp [qDs, toPys, PyData.eqvAll]
  | s :: ss, t :: ts => by
    simp only [qDs, toPys, PyData.eqvAll, Bool.and_eq_true, eqv_q s t, eqv_qs ss ts, List.cons.injEq]
end
open Classical in
theorem eqD_qs (ss ts : List QT) : eqD (.tup (qDs ss)) (.tup (qDs ts)) = decide (ss = ts) := by
  unfold eqD
  simp only [toPy, PyData.eqv]
  rw [Bool.eq_iff_iff, eqv_qs, decide_eq_true_eq]
open Classical in
theorem eqD_q (s t : QT) : eqD (qD s) (qD t) = decide (s = t) := by
  unfold eqD
  rw [Bool.eq_iff_iff, eqv_q, decide_eq_true_eq]
mutual
theorem eqOk_q : ∀ t : QT, eqOk (qD t) = true
  | .tell o => by rw [qD]; simp only [eqOk, eqOks, Bool.and_true]; decide +kernel
  | .look p ts => by rw [qD]; simp only [eqOk, eqOks, eqOk_qs ts, Bool.and_true]; decide +kernel
theorem eqOk_qs : ∀ ts : List QT, eqOks (qDs ts) = true
  | [] => rfl
  | t :: ts => by rw [qDs, eqOks, eqOk_q t, eqOk_qs ts]; rfl
end
mutual
theorem dpt_q : ∀ t : QT, dpt (qD t) ≤ qDep t + 1
  | .tell o => by rw [qD, qDep]; simp [dpt, dpts]
  | .look p ts => by rw [qD, qDep]; simp only [dpt, dpts]; have := dpts_q ts; omega
theorem dpts_q : ∀ ts : List QT, dpts (qDs ts) ≤ qDep.qDeps ts + 1
  | [] => by rw [qDs, dpts]; omega
  | t :: ts => by rw [qDs, dpts, qDep.qDeps]; have := dpt_q t; have := dpts_q ts; omega
end
theorem qSt_fuel {ws : List Int} {oc : Nat} (hw : WsOk ws) : ∀ (n n' : Nat) (t : QT), QOk ws oc t → (qPl t).length ≤ n → (qPl t).length ≤ n' → qSt ws n t = qSt ws n' t := fun n => by
  induction n with
  | zero =>
    intro n' t h h1 h2
    cases t with
    | tell x => cases n' <;> rfl
    | look p ts => rw [qPl, List.length_cons] at h1; omega
  | succ n ih =>
    intro n' t h h1 h2
    cases t with
    | tell x => cases n' <;> rfl
    | look p ts =>
      cases n' with
      | zero => rw [qPl, List.length_cons] at h2; omega
      | succ n' =>
        have hm : qMin (qPl (.look p ts)) ∈ qPl (.look p ts) := qMin_mem (by rw [qPl]; simp)
        rw [qSt, qSt]
        congr 1
        refine List.map_congr_left fun i hi => ?_
        have hi := List.mem_range.mp hi
        have hl := qFx_lt hi _ h hm
        exact ih n' _ (qFx_ok hi _ h) (by omega) (by omega)
end LW
set_option Elab.async false
set_option linter.all false
set_option maxRecDepth 100000
namespace LW
open PySem PySem.Spec L2 DW
section
variable {ws : List Int} {oc : Nat}
theorem QOk.pl : ∀ t, QOk ws oc t → ∀ q ∈ qPl t, q < 100 := fun t => by
  induction t using QT.ind with
  | h1 o => intro _ q hq; simp [qPl] at hq
  | h2 p ts ih =>
    intro h q hq
    obtain ⟨hp, hl, hts⟩ := h
    rw [qoks_iff] at hts
    rw [qPl] at hq
    rcases List.mem_cons.mp hq with e | e
    · omega
    · obtain ⟨s, hs, hq2⟩ := qpls_mem.mp e
      exact ih s hs (hts s hs) q hq2
end
/-- the product of widths, in the order of a list -/
def wpl (ws : List Int) (ps : List Nat) : Nat := ps.foldl (fun a p => a * wd ws p) 1
theorem wpl_snoc (ws : List Int) (ps : List Nat) (p : Nat) : wpl ws (ps ++ [p]) = wpl ws ps * wd ws p := by
  unfold wpl
  rw [List.foldl_append, List.foldl_cons, List.foldl_nil]
theorem wpl_wpr0 (ws : List Int) : ∀ (ps : List Nat) (a : Nat), ps.foldl (fun a p => a * wd ws p) a = a * wpr ws ps
  | [], a => by rw [wpr, Nat.mul_one]; rfl
  | p :: ps, a => by rw [List.foldl_cons, wpl_wpr0 ws ps, wpr, Nat.mul_assoc]
theorem wpl_wpr (ws : List Int) (ps : List Nat) : wpl ws ps = wpr ws ps := by unfold wpl; rw [wpl_wpr0, Nat.one_mul]
end LW
set_option Elab.async false
set_option linter.all false
set_option maxRecDepth 100000
namespace LW
open PySem PySem.Spec L2 DW
/-- the product of the widths of k places from a on -/
def pwk (ws : List Int) : Nat → Nat → Nat
  | _, 0 => 1
  | a, k + 1 => wd ws a * pwk ws (a + 1) k
/-- one place set -/
def up (f : Nat → Nat) (p x : Nat) : Nat → Nat := fun q => if q = p then x else f q
theorem up_same (f : Nat → Nat) (p x : Nat) : up f p x p = x := if_pos rfl
theorem up_ne {f : Nat → Nat} {p x q : Nat} (h : q ≠ p) : up f p x q = f q := if_neg h
section
variable {ws : List Int} {oc r : Nat}
/-- heads by outcome: the count -/
def tc (ws : List Int) (R r : Nat) : QT → Nat → Nat
  | .tell o, st => pwk ws st (R - st) * (if r = o then 1 else 0)
  | .look p ts, st => pwk ws st (p - st) * (tcs ws R r ts (p + 1)).sum
where tcs (ws : List Int) (R r : Nat) : List QT → Nat → List Nat
  | [], _ => []
  | t :: ts, a => tc ws R r t a :: tcs ws R r ts a
theorem IsS.sub {st p : Nat} {ts : List QT} (h : IsS ws oc st (.look p ts)) {t : QT} (ht : t ∈ ts) : IsS ws oc (p + 1) t := by
  rw [IsS] at h
  exact iss_iff.mp h.2.2.2.2 t ht
theorem IsS.len {st p : Nat} {ts : List QT} (h : IsS ws oc st (.look p ts)) : ts.length = wd ws p := by
  rw [IsS] at h
  exact h.2.2.1
theorem IsS.ge {st p : Nat} {ts : List QT} (h : IsS ws oc st (.look p ts)) : st ≤ p := by
  rw [IsS] at h
  exact h.1
end
end LW
set_option Elab.async false
set_option linter.all false
set_option maxRecDepth 100000
namespace LW
open PySem PySem.Spec L2 DW
section
variable {ws : List Int} {oc r : Nat}
theorem qA_off : ∀ (t : QT) {f f' : Nat → Nat}, (∀ q ∈ qPl t, f q = f' q) → qA f t = qA f' t := fun t => by
  induction t using QT.ind with
  | h1 o => intro f f' h; rfl
  | h2 p ts ih =>
    intro f f' h
    rw [qA, qA, qas_map, qas_map, h p (by rw [qPl]; exact List.mem_cons_self)]
    congr 1
    exact List.map_congr_left fun t ht => ih t ht fun q hq => h q (by rw [qPl]; exact List.mem_cons_of_mem _ (qpls_mem.mpr ⟨t, ht, hq⟩))
theorem up_lt {f : Nat → Nat} (hf : ∀ q, f q < wd ws q) {p x : Nat} (hx : x < wd ws p) : ∀ q, up f p x q < wd ws q := fun q => by
  unfold up
  split
  · rename_i e; rw [e]; exact hx
  · exact hf q
theorem sub_off {lo p : Nat} {ts : List QT} (h : IsS ws oc lo (.look p ts)) {t : QT} (ht : t ∈ ts) : p ∉ qPl t := fun hq => by
  have := IsS.pl _ (h.sub ht) p hq
  omega
theorem qA_up {p x : Nat} {t : QT} (h : p ∉ qPl t) (f : Nat → Nat) : qA (up f p x) t = qA f t := qA_off t fun q hq => up_ne fun e => h (by rw [← e]; exact hq)
/-- all parts alike is no settled look -/
theorem IsS.ne_all {lo p : Nat} {ts : List QT} (h : IsS ws oc lo (.look p ts)) (u : QT) (hu : ∀ x (hx : x < ts.length), ts[x] = u) : False := by
  have hl := h.len
  rw [IsS] at h
  refine h.2.2.2.1 fun q hq => ?_
  obtain ⟨x, hx, rfl⟩ := List.mem_iff_getElem.mp hq
  cases ts with
  | nil => simp at hx
  | cons a l => rw [hu x hx]; exact (hu 0 (by simp)).symm
/-- settled terms that answer alike are one -/
theorem canon (hw : WsOk ws) : ∀ (n : Nat) (t u : QT) (lo lo' : Nat), (qPl t).length + (qPl u).length ≤ n → IsS ws oc lo t → IsS ws oc lo' u → (∀ f : Nat → Nat, (∀ q, f q < wd ws q) → qA f t = qA f u) → t = u := fun n => by
  have z0 : ∀ q, (fun _ => 0 : Nat → Nat) q < wd ws q := fun q => (hw.wd1 q).1
  have len_sub : ∀ {p : Nat} {ts : List QT} {t : QT}, t ∈ ts → (qPl t).length < (qPl (.look p ts)).length := fun {p ts t} ht => by
    rw [qPl, List.length_cons]
    have := qpls_len ht
    omega
  have low : ∀ (m : Nat), (∀ (t u : QT) (lo lo' : Nat), (qPl t).length + (qPl u).length ≤ m → IsS ws oc lo t → IsS ws oc lo' u → (∀ f : Nat → Nat, (∀ q, f q < wd ws q) → qA f t = qA f u) → t = u) →
      ∀ (p : Nat) (ts : List QT) (u : QT) (lo lo' : Nat), (qPl (.look p ts)).length + (qPl u).length ≤ m + 1 → IsS ws oc lo (.look p ts) → IsS ws oc lo' u → p ∉ qPl u → (∀ f : Nat → Nat, (∀ q, f q < wd ws q) → qA f (.look p ts) = qA f u) → False :=
    fun m ih p ts u lo lo' hl h1 h2 hp he => by
      refine h1.ne_all u fun x hx => ?_
      refine ih ts[x] u _ _ (by have := len_sub (p := p) (List.getElem_mem hx); omega) (h1.sub (List.getElem_mem hx)) h2 fun f hf => ?_
      have hx' : x < wd ws p := by rw [← h1.len]; exact hx
      have e := he (up f p x) (up_lt hf hx')
      rw [qA_look (t := ts[x]) (by rw [up_same]; exact List.getElem?_eq_getElem hx), qA_up (sub_off h1 (List.getElem_mem hx)), qA_up hp] at e
      exact e
  induction n with
  | zero =>
    intro t u lo lo' hl h1 h2 he
    cases t with
    | look p ts => rw [qPl, List.length_cons] at hl; omega
    | tell o =>
      cases u with
      | look p ts => rw [qPl.eq_2 p ts, List.length_cons] at hl; omega
      | tell o' =>
        have := he _ z0
        rw [qA, qA] at this
        rw [this]
  | succ n ih =>
    intro t u lo lo' hl h1 h2 he
    cases t with
    | tell o =>
      cases u with
      | tell o' =>
        have := he _ z0
        rw [qA, qA] at this
        rw [this]
      | look p us => exact (low n ih p us _ _ _ (by omega) h2 h1 (by simp [qPl]) fun f hf => (he f hf).symm).elim
    | look p ts =>
      cases u with
      | tell o' => exact (low n ih p ts _ _ _ hl h1 h2 (by simp [qPl]) he).elim
      | look p' us =>
        rcases Nat.lt_trichotomy p p' with z | z | z
        · refine (low n ih p ts _ _ _ hl h1 h2 (fun hq => ?_) he).elim
          have h3 : IsS ws oc p' (.look p' us) := by rw [IsS] at h2 ⊢; exact ⟨Nat.le_refl _, h2.2⟩
          have := IsS.pl _ h3 p hq
          omega
        · subst z
          congr 1
          refine List.ext_getElem (by rw [h1.len, h2.len]) fun x hx hy => ?_
          refine ih _ _ _ _ (by have := len_sub (p := p) (List.getElem_mem hx); have := len_sub (p := p) (List.getElem_mem hy); omega) (h1.sub (List.getElem_mem hx)) (h2.sub (List.getElem_mem hy)) fun f hf => ?_
          have hx' : x < wd ws p := by rw [← h1.len]; exact hx
          have e := he (up f p x) (up_lt hf hx')
          rw [qA_look (t := ts[x]) (by rw [up_same]; exact List.getElem?_eq_getElem hx), qA_look (t := us[x]) (by rw [up_same]; exact List.getElem?_eq_getElem hy), qA_up (sub_off h1 (List.getElem_mem hx)), qA_up (sub_off h2 (List.getElem_mem hy))] at e
          exact e
        · refine (low n ih p' us _ _ _ (by omega) h2 h1 (fun hq => ?_) fun f hf => (he f hf).symm).elim
          have h3 : IsS ws oc p (.look p ts) := by rw [IsS] at h1 ⊢; exact ⟨Nat.le_refl _, h1.2⟩
          have := IsS.pl _ h3 p' hq
          omega
theorem adj {α : Type} {l : List α} (h : ∀ x (h1 : x + 1 < l.length), l[x] = l[x + 1]) : ∀ x (hx : x < l.length), l[x] = l[0]
  | 0, _ => rfl
  | x + 1, hx => by rw [← h x hx]; exact adj h x (by omega)
/-- each place of a settled term is needed -/
theorem needed_dep (hw : WsOk ws) : ∀ (t : QT) (lo p : Nat), IsS ws oc lo t → p ∈ qPl t → ∃ f : Nat → Nat, (∀ q, f q < wd ws q) ∧ f p + 1 < wd ws p ∧ qA f t ≠ qA (up f p (f p + 1)) t := fun t => by
  induction t using QT.ind with
  | h1 o => intro lo p h hp; simp [qPl] at hp
  | h2 q ts ih =>
    intro lo p h hp
    have hl := h.len
    by_cases e : p = q
    · subst e
      have hx : ∃ x, ∃ h1 : x + 1 < ts.length, ts[x] ≠ ts[x + 1] := Classical.byContradiction fun z => by
        have a : ∀ x (h1 : x + 1 < ts.length), ts[x] = ts[x + 1] := fun x h1 => Classical.byContradiction fun y => z ⟨x, h1, y⟩
        have h0 : 0 < ts.length := by rw [hl]; exact (hw.wd1 p).1
        exact h.ne_all ts[0] fun x hx => adj a x hx
      obtain ⟨x, h1, hne⟩ := hx
      have hf : ∃ f : Nat → Nat, (∀ q, f q < wd ws q) ∧ qA f ts[x] ≠ qA f ts[x + 1] := Classical.byContradiction fun z =>
        hne (canon hw _ _ _ _ _ (Nat.le_refl _) (h.sub (List.getElem_mem (by omega))) (h.sub (List.getElem_mem h1)) fun f hf => Classical.byContradiction fun y => z ⟨f, hf, y⟩)
      obtain ⟨f, hf, hd⟩ := hf
      refine ⟨up f p x, up_lt hf (by omega), by rw [up_same]; omega, ?_⟩
      rw [up_same, qA_look (t := ts[x]) (by rw [up_same]; exact List.getElem?_eq_getElem (by omega)), qA_look (t := ts[x + 1]) (by rw [up_same]; exact List.getElem?_eq_getElem h1),
        qA_up (sub_off h (List.getElem_mem (by omega))), qA_up (sub_off h (List.getElem_mem h1)), qA_up (sub_off h (List.getElem_mem h1))]
      exact hd
    · rw [qPl] at hp
      rcases List.mem_cons.mp hp with z | z
      · exact absurd z e
      · obtain ⟨t, ht, hq⟩ := qpls_mem.mp z
        obtain ⟨f, hf, h1, h2⟩ := ih t ht _ p (h.sub ht) hq
        obtain ⟨x, hx, rfl⟩ := List.mem_iff_getElem.mp ht
        refine ⟨up f q x, up_lt hf (by omega), by rw [up_ne e]; exact h1, ?_⟩
        rw [up_ne e, qA_look (t := ts[x]) (by rw [up_same]; exact List.getElem?_eq_getElem hx), qA_look (t := ts[x]) (by rw [up_ne (Ne.symm e), up_same]; exact List.getElem?_eq_getElem hx), qA_up (sub_off h ht)]
        have e2 : up (up f q x) p (f p + 1) = up (up f p (f p + 1)) q x := funext fun z => by
          unfold up
          by_cases z1 : z = p
          · rw [if_pos z1, if_neg (by omega), if_pos z1]
          · rw [if_neg z1, if_neg z1]
        rw [e2, qA_up (sub_off h ht)]
        exact h2
def hs (ws : List Int) : List Nat → List (List Nat)
  | [] => [[]]
  | p :: ps => (List.range (wd ws p)).flatMap fun x => (hs ws ps).map (x :: ·)
/-- the list of ways that a head over places tells -/
def rd (ps c : List Nat) (q : Nat) : Nat := c.getD (ps.idxOf q) 0
theorem fm_idx {α β γ : Type} {h : α → β → γ} {M : List β} {b : β} {j : Nat} (hb : M[j]? = some b) : ∀ (L : List α) (i : Nat) (a : α), L[i]? = some a → (L.flatMap fun a => M.map (h a))[i * M.length + j]? = some (h a b)
  | [], i, a, e => by simp at e
  | x :: L, 0, a, e => by
    obtain rfl : x = a := by simpa using e
    have hj : j < M.length := (List.getElem?_eq_some_iff.mp hb).1
    rw [List.flatMap_cons, Nat.zero_mul, Nat.zero_add, List.getElem?_append_left (by rw [List.length_map]; exact hj), List.getElem?_map, hb]
    rfl
  | x :: L, i + 1, a, e => by
    have e' : L[i]? = some a := by simpa using e
    rw [List.flatMap_cons, List.getElem?_append_right (by rw [List.length_map, Nat.add_mul]; omega), List.length_map, show (i + 1) * M.length + j - M.length = i * M.length + j by rw [Nat.add_mul]; omega]
    exact fm_idx hb L i a e'
theorem hs_app (A B : List Nat) : hs ws (A ++ B) = (hs ws A).flatMap fun la => (hs ws B).map (la ++ ·) := by
  induction A with
  | nil => rw [List.nil_append, hs, List.flatMap_cons, List.flatMap_nil, List.append_nil]; exact (List.map_id _).symm
  | cons p A ih =>
    rw [List.cons_append, hs, hs, ih, List.flatMap_assoc]
    congr 1
    funext x
    rw [List.map_flatMap, List.flatMap_map]
    congr 1
    funext la
    rw [List.map_map]
    rfl
end
end LW
set_option Elab.async false
set_option linter.all false
set_option maxRecDepth 100000
namespace LW
open PySem PySem.Spec L2 DW
section
variable {ws : List Int} {oc r : Nat}
theorem hs_len (ps : List Nat) : (hs ws (ps)).length = ps.foldr (fun p a => wd ws p * a) 1 := by
  induction ps with
  | nil => rfl
  | cons p ps ih =>
    rw [hs, List.length_flatMap, List.foldr_cons, ← ih]
    have : (List.map (fun a => ((hs ws ps).map (a :: ·)).length) (List.range (wd ws p))) = List.replicate (wd ws p) (hs ws ps).length := by
      refine List.ext_getElem (by simp) fun i h1 h2 => by simp
    rw [this, List.sum_replicate_nat]
theorem hs_mem {ps : List Nat} {l : List Nat} : l ∈ hs ws ps ↔ l.length = ps.length ∧ ∀ i (h : i < ps.length), l.getD i 0 < wd ws ps[i] := by
  induction ps generalizing l with
  | nil =>
    rw [hs, List.mem_singleton]
    constructor
    · intro h; subst h; exact ⟨rfl, fun i h => by simp at h⟩
    · intro h; exact List.eq_nil_of_length_eq_zero h.1
  | cons p ps ih =>
    rw [hs, List.mem_flatMap]
    constructor
    · rintro ⟨x, hx, hl⟩
      obtain ⟨l', h', rfl⟩ := List.mem_map.mp hl
      obtain ⟨h1, h2⟩ := ih.mp h'
      refine ⟨by rw [List.length_cons, List.length_cons, h1], fun i hi => ?_⟩
      cases i with
      | zero => exact List.mem_range.mp hx
      | succ i => simpa using h2 i (by simpa using hi)
    · rintro ⟨h1, h2⟩
      cases l with
      | nil => simp at h1
      | cons x l =>
        refine ⟨x, List.mem_range.mpr (h2 0 (Nat.zero_lt_succ _)), List.mem_map.mpr ⟨l, ih.mpr ⟨by simpa using h1, fun i hi => ?_⟩, rfl⟩⟩
        exact h2 (i + 1) (Nat.succ_lt_succ hi)
def longer (hs : List (List Nat)) (n : Nat) : List (List Nat) := hs.flatMap fun l => (List.range n).map fun x => l ++ [x]
/-- all ways to choose options of places -/
def heads (ws : List Int) (ps : List Nat) : List (List Nat) := ps.foldl (fun hs p => longer hs (wd ws p)) [[]]
theorem heads_hs0 (ps : List Nat) : ∀ L : List (List Nat), ps.foldl (fun hs p => longer hs (wd ws p)) L = L.flatMap fun l => (hs ws ps).map (l ++ ·) := by
  induction ps with
  | nil =>
    intro L
    rw [List.foldl_nil, hs]
    induction L with
    | nil => rfl
    | cons a L ih => rw [List.flatMap_cons, ← ih]; simp
  | cons p ps ih =>
    intro L
    rw [List.foldl_cons, ih, longer, List.flatMap_assoc]
    congr 1
    funext l
    rw [hs, List.map_flatMap, List.flatMap_map]
    congr 1
    funext x
    rw [List.map_map]
    congr 1
    funext m
    show (l ++ [x]) ++ m = l ++ x :: m
    simp
theorem heads_hs (ps : List Nat) : heads ws ps = hs ws ps := by
  unfold heads
  rw [heads_hs0]
  show [[]].flatMap _ = _
  rw [List.flatMap_cons, List.flatMap_nil, List.append_nil]
  exact List.map_id _
/-- a state put down for places -/
theorem hs_map {ps : List Nat} {f : Nat → Nat} (hf : ∀ q, f q < wd ws q) : ps.map f ∈ hs ws ps := hs_mem.mpr ⟨List.length_map f, fun i h => by
  rw [List.getD_eq_getElem?_getD, List.getElem?_map, List.getElem?_eq_getElem h]
  exact hf _⟩
theorem rd_map {ps : List Nat} {f : Nat → Nat} {q : Nat} (h : q ∈ ps) : rd ps (ps.map f) q = f q := by
  unfold rd
  have hi := List.idxOf_lt_length_iff.mpr h
  rw [List.getD_eq_getElem?_getD, List.getElem?_map, List.getElem?_eq_getElem hi, List.getElem_idxOf hi]
  rfl
theorem rd_lt (hw : WsOk ws) {ps c : List Nat} (h : c ∈ hs ws ps) (q : Nat) : rd ps c q < wd ws q := by
  obtain ⟨h1, h2⟩ := hs_mem.mp h
  unfold rd
  by_cases z : q ∈ ps
  · have hi := List.idxOf_lt_length_iff.mpr z
    have := h2 _ hi
    rw [List.getElem_idxOf hi] at this
    exact this
  · have hn : ¬ ps.idxOf q < ps.length := fun y => z (List.idxOf_lt_length_iff.mp y)
    rw [List.getD_eq_getElem?_getD, List.getElem?_eq_none (by omega)]
    exact (hw.wd1 q).1
/-- what a head over places is told -/
def tl (t : QT) (ps c : List Nat) : Nat := qA (rd ps c) t
theorem tl_map {t : QT} {ps : List Nat} {f : Nat → Nat} (h : ∀ q ∈ qPl t, q ∈ ps) : tl t ps (ps.map f) = qA f t := qA_off t fun q hq => rd_map (h q hq)
/-- a term that answers as its settled one -/
theorem tl_eq (hw : WsOk ws) {t s : QT} {ps c : List Nat} (he : ∀ f : Nat → Nat, (∀ q, f q < wd ws q) → qA f s = qA f t) (hc : c ∈ hs ws ps) : tl t ps c = tl s ps c := (he _ (rd_lt hw hc)).symm
/-- the law's look for one place: n is how far the next entry stands -/
def ndB (T : Nat → Nat) (w n q : Nat) : Bool := decide ((q / n) % w < w - 1) && decide (T q ≠ T (q + n))
theorem idx_split {n w i x j : Nat} (hx : x < w) (hj : j < n) : ((i * (w * n) + (x * n + j)) / n) % w = x := by
  have e : i * (w * n) + (x * n + j) = j + n * (i * w + x) := by
    rw [Nat.mul_add, Nat.mul_comm n x, ← Nat.mul_assoc i w n, Nat.mul_comm n (i * w)]
    omega
  rw [e, Nat.add_mul_div_left _ _ (by omega), Nat.div_eq_of_lt hj, Nat.zero_add, Nat.mul_comm i w, Nat.mul_add_mod, Nat.mod_eq_of_lt hx]
theorem hs_at {A B : List Nat} {p : Nat} {la lb : List Nat} {i x j : Nat} (ha : (hs ws A)[i]? = some la) (hb : (hs ws B)[j]? = some lb) (hx : x < wd ws p) :
    (hs ws (A ++ p :: B))[i * (wd ws p * (hs ws B).length) + (x * (hs ws B).length + j)]? = some (la ++ x :: lb) := by
  have h1 : (hs ws (p :: B))[x * (hs ws B).length + j]? = some (x :: lb) := by
    rw [hs]
    exact fm_idx hb _ x x (List.getElem?_range hx)
  have h2 : (hs ws (p :: B)).length = wd ws p * (hs ws B).length := by rw [hs_len, hs_len, List.foldr_cons]
  rw [hs_app, ← h2]
  exact fm_idx h1 _ i la ha
theorem ix_of {α : Type} {l : List α} {x : α} (h : x ∈ l) : ∃ i : Nat, l[i]? = some x := by
  obtain ⟨i, hi, e⟩ := List.mem_iff_getElem.mp h
  exact ⟨i, by rw [List.getElem?_eq_getElem hi, e]⟩
theorem hs_len_app (A B : List Nat) : (hs ws (A ++ B)).length = (hs ws A).length * (hs ws B).length := by
  induction A with
  | nil => rw [List.nil_append, hs, List.length_singleton, Nat.one_mul]
  | cons p A ih => rw [List.cons_append, hs_len, List.foldr_cons, ← hs_len, ih, hs_len (p :: A), List.foldr_cons, ← hs_len, Nat.mul_assoc]
theorem hs_len_cons (p : Nat) (B : List Nat) : (hs ws (p :: B)).length = wd ws p * (hs ws B).length := by rw [hs_len, List.foldr_cons, ← hs_len]
theorem hs_pos (hw : WsOk ws) : ∀ B : List Nat, 0 < (hs ws B).length
  | [] => by rw [hs]; exact Nat.one_pos
  | p :: B => by rw [hs_len_cons]; exact Nat.mul_pos (hw.wd1 p).1 (hs_pos hw B)
theorem needed_iff (hw : WsOk ws) {t : QT} {lo p : Nat} {A B : List Nat} {T : Nat → Nat} (h : IsS ws oc lo t) (hn : (A ++ p :: B).Nodup) (hp : ∀ q ∈ qPl t, q ∈ A ++ p :: B)
    (hT : ∀ (i : Nat) c, (hs ws (A ++ p :: B))[i]? = some c → T i = tl t (A ++ p :: B) c) :
    (∃ q, q < (hs ws (A ++ p :: B)).length ∧ ndB T (wd ws p) (hs ws B).length q = true) ↔ p ∈ qPl t := by
  have hN : (hs ws (A ++ p :: B)).length = (hs ws A).length * (wd ws p * (hs ws B).length) := by rw [hs_len_app, hs_len_cons]
  have pB := hs_pos hw B
  have pw := (hw.wd1 p).1
  generalize hnn : (hs ws B).length = n at *
  constructor
  · rintro ⟨q, hq, hd⟩
    rw [ndB, Bool.and_eq_true, decide_eq_true_eq, decide_eq_true_eq] at hd
    obtain ⟨h1, h2⟩ := hd
    have hi : q / (wd ws p * n) < (hs ws A).length := by
      rw [Nat.div_lt_iff_lt_mul (Nat.mul_pos pw pB)]
      omega
    have hj : q % n < (hs ws B).length := by rw [hnn]; exact Nat.mod_lt _ pB
    generalize hx : (q / n) % wd ws p = x at *
    have eq : q = q / (wd ws p * n) * (wd ws p * n) + (x * n + q % n) := by
      have e1 := Nat.div_add_mod q n
      have e2 := Nat.div_add_mod (q / n) (wd ws p)
      rw [hx, Nat.div_div_eq_div_mul, Nat.mul_comm n] at e2
      have e3 : n * (wd ws p * (q / (wd ws p * n)) + x) + q % n = q := by rw [e2]; exact e1
      rw [Nat.mul_add] at e3
      have e4 : n * (wd ws p * (q / (wd ws p * n))) = q / (wd ws p * n) * (wd ws p * n) := by
        rw [← Nat.mul_assoc, Nat.mul_comm n, Nat.mul_comm]
      rw [e4, Nat.mul_comm n x] at e3
      omega
    have ga := List.getElem?_eq_getElem hi
    have gb := List.getElem?_eq_getElem hj
    have g1 := hs_at (p := p) (x := x) ga gb (by omega)
    have g2 := hs_at (p := p) (x := x + 1) ga gb (by omega)
    rw [hnn, ← eq] at g1
    have e5 : q / (wd ws p * n) * (wd ws p * n) + ((x + 1) * n + q % n) = q + n := by rw [Nat.add_mul]; omega
    rw [hnn, e5] at g2
    rw [hT _ _ g1, hT _ _ g2] at h2
    refine Classical.byContradiction fun z => h2 (qA_off t fun z' hz => ?_)
    have hl : ((hs ws A)[q / (wd ws p * n)]).length = A.length := (hs_mem.mp (List.getElem_mem hi)).1
    have hne : (A ++ p :: B).idxOf z' ≠ A.length := fun y => z (by
      have hm := hp z' hz
      have hi2 := List.idxOf_lt_length_iff.mpr hm
      have e := List.getElem_idxOf hi2
      have e2 : (A ++ p :: B)[A.length]? = some p := by rw [List.getElem?_append_right (Nat.le_refl _), Nat.sub_self]; rfl
      have e3 := List.getElem?_eq_getElem hi2
      rw [e, y, e2] at e3
      rw [Option.some.inj e3]
      exact hz)
    unfold rd
    generalize (A ++ p :: B).idxOf z' = m at hne
    rw [List.getD_eq_getElem?_getD, List.getD_eq_getElem?_getD]
    by_cases hm : m < A.length
    · rw [List.getElem?_append_left (by rw [hl]; exact hm), List.getElem?_append_left (by rw [hl]; exact hm)]
    · rw [List.getElem?_append_right (by rw [hl]; omega), List.getElem?_append_right (by rw [hl]; omega), hl]
      have : m - A.length = (m - A.length - 1) + 1 := by omega
      rw [this]
      rfl
  · intro hpt
    obtain ⟨f, hf, h1, h2⟩ := needed_dep hw t lo p h hpt
    have hA : p ∉ A := fun z => by
      rw [List.nodup_append] at hn
      exact hn.2.2 p z p List.mem_cons_self rfl
    have hB : p ∉ B := fun z => by
      rw [List.nodup_append, List.nodup_cons] at hn
      exact hn.2.1.1 z
    obtain ⟨i, hi⟩ := ix_of (hs_map (ps := A) hf)
    obtain ⟨j, hj⟩ := ix_of (hs_map (ps := B) hf)
    have hjn : j < n := by rw [← hnn]; exact (List.getElem?_eq_some_iff.mp hj).1
    have hiA : i < (hs ws A).length := (List.getElem?_eq_some_iff.mp hi).1
    have g1 := hs_at (p := p) (x := f p) hi hj (by omega)
    have g2 := hs_at (p := p) (x := f p + 1) hi hj (by omega)
    have m1 : A.map f ++ f p :: B.map f = (A ++ p :: B).map f := by rw [List.map_append, List.map_cons]
    have m2 : A.map f ++ (f p + 1) :: B.map f = (A ++ p :: B).map (up f p (f p + 1)) := by
      rw [List.map_append, List.map_cons, up_same]
      congr 1
      · exact List.map_congr_left fun q hq => (up_ne fun e => hA (by rw [← e]; exact hq)).symm
      · congr 1
        exact List.map_congr_left fun q hq => (up_ne fun e => hB (by rw [← e]; exact hq)).symm
    rw [m1, hnn] at g1
    rw [m2, hnn] at g2
    refine ⟨i * (wd ws p * n) + (f p * n + j), (List.getElem?_eq_some_iff.mp g1).1, ?_⟩
    rw [ndB, idx_split (by omega) hjn, Bool.and_eq_true, decide_eq_true_eq, decide_eq_true_eq]
    refine ⟨by omega, ?_⟩
    have e5 : i * (wd ws p * n) + (f p * n + j) + n = i * (wd ws p * n) + ((f p + 1) * n + j) := by rw [Nat.add_mul]; omega
    rw [e5, hT _ _ g1, hT _ _ g2, tl_map hp, tl_map hp]
    exact h2
end
end LW
set_option Elab.async false
set_option linter.all false
set_option maxRecDepth 100000
set_option Elab.async false
set_option linter.all false
set_option maxRecDepth 100000
namespace LW
open PySem PySem.Spec L2 DW
/-- the place of a flat option: the index and the rest -/
def spl : List Nat → Nat → Nat × Nat
  | [], r => (0, r)
  | s :: ss, r => if r < s then (0, r) else ((spl ss (r - s)).1 + 1, (spl ss (r - s)).2)
section
variable {ws : List Int} {oc r : Nat}
/-- the widths of k places from a on -/
def wls (ws : List Int) : Nat → Nat → List Int
  | _, 0 => []
  | a, k + 1 => (wd ws a : Int) :: wls ws (a + 1) k
/-- the numbers of a list -/
def zI (l : List Nat) : List Int := l.map fun (n : Nat) => (n : Int)
/-- the entries of a free number -/
def chN (ws : List Int) (a k i : Nat) : List Nat := (choA (wls ws a k) (i : Int)).map Int.toNat
/-- the head of a number -/
def ha (ws : List Int) (R r : Nat) : QT → Nat → Nat → List Nat
  | .tell _, st, i => chN ws st (R - st) i
  | .look p ts, st, i =>
    chN ws st (p - st) (i / (tc.tcs ws R r ts (p + 1)).sum) ++ (spl (tc.tcs ws R r ts (p + 1)) (i % (tc.tcs ws R r ts (p + 1)).sum)).1 ::
      ((has ws R r ts (p + 1)).getD (spl (tc.tcs ws R r ts (p + 1)) (i % (tc.tcs ws R r ts (p + 1)).sum)).1 fun _ => []) (spl (tc.tcs ws R r ts (p + 1)) (i % (tc.tcs ws R r ts (p + 1)).sum)).2
where has (ws : List Int) (R r : Nat) : List QT → Nat → List (Nat → List Nat)
  | [], _ => []
  | t :: ts, a => (ha ws R r t a) :: has ws R r ts a
end
end LW
set_option Elab.async false
set_option linter.all false
set_option maxRecDepth 100000
set_option maxHeartbeats 4000000
namespace DW
open PySem PySem.Spec PyProof.Rows L2
section layer
variable {X : Cx} {CX : CXT} {k : Nat} {f C : Addr} {fd : FuncData} {ps : List Str} {sp : Sp} {E : L2.St → XK} {x m : Str} {p pos apos : Pos} {e o : Expr} {es : List Expr} {ta : TE} {t : TA} {dvs : List V} {dus : List Value}
theorem run_makeSD {pins : List (Addr × Obj)} {σ : L2.St} {H : Hp} {s : Shared} {Q : VK} {us : List Value} {vs : List V} (M : Mk X.K C f) (F : FnOk X.prog X.w X.K X.mg X.base CX k f fd ps sp) (hr : Room (k + 1) X.A) (hb : Binds X.K fd ps dus) (hd : Vals dvs dus)
    (hx : ∀ σ, PassesAt CX X σ (E σ)) (I : Inv X pins σ H s) (r : Vals vs us)
    (h : ∀ x dx, H x = none → H dx = none → dx ≠ x → sp (.ref x :: (vs ++ dvs)) (upd (upd H dx (.own x)) x (.ins C dx [])) (fun v H2 => v = .non ∧ Q (.ref x) H2) (E σ)) :
    wpAny (model X.prog X.w) X.A (call (.ref C) us) (EP X pins σ Q) X.xe s := by
  have hq := h (s.heap.objs.size + 1) s.heap.objs.size (I.hok.fresh (Nat.le_succ _)) (I.hok.fresh (Nat.le_refl _)) (Nat.ne_of_lt (Nat.lt_succ_self _))
  have I2 := Inv.made (C := C) I
  have r2 : Vals (V.ref (s.heap.objs.size + 1) :: (vs ++ dvs)) (Value.ref (s.heap.objs.size + 1) :: (us ++ dus)) := .cons rfl (r.append hd)
  have hl : ((Value.ref (s.heap.objs.size + 1) :: us) ++ dus).length = ps.length := by
    have e := r2.length
    rw [F.len _ _ _ _ hq] at e
    exact e.symm
  have hb2 := hb _ (Value.ref (s.heap.objs.size + 1) :: us) I2.kIn hl
  refine wpAny_call (make_map (f := f) I.kIn M.makes M.init (beq_iff_eq.mp M.fn) (codeAny_mono (F.run _ X.stack _ _ ⟨Value.ref (s.heap.objs.size + 1) :: us, []⟩ (Value.ref (s.heap.objs.size + 1) :: (us ++ dus)) _ _ (E σ) (hr.make C us [])
    (I2.env0.make C us []) hb2 r2 hq) fun r s' hq' => ?_))
  cases r with
  | error e => exact hx σ pins _ _ e s' I2 hq'
  | ok fl =>
    cases fl with
    | ret u =>
      obtain ⟨v, H', I3, rv, ev, q3⟩ := I2.after hq'
      subst ev
      exact ⟨rv, ⟨V.ref (s.heap.objs.size + 1), H', I3, rfl, q3⟩⟩
    | next => exact False.elim hq'
    | brk => exact False.elim hq'
    | cont => exact False.elim hq'
def tMakeSD (C : Addr) (sp : Sp) (dvs : List V) (E : L2.St → XK) (t : TA) : TE := fun σ H Q => t σ H fun vs H1 => ∀ x dx, H1 x = none → H1 dx = none → dx ≠ x → sp (.ref x :: (vs ++ dvs)) (upd (upd H1 dx (.own x)) x (.ins C dx [])) (fun v H2 => v = .non ∧ Q (.ref x) H2) (E σ)
theorem pe_makeSD (M : Mk X.K C f) (F : FnOk X.prog X.w X.K X.mg X.base CX k f fd ps sp) (hr : Room (k + 1) X.A) (hg : Gl X x) (hm : X.mg x = some (.ref C)) (hb : Binds X.K fd ps dus) (hd : Vals dvs dus) (hx : ∀ σ, PassesAt CX X σ (E σ))
    (ha : PA X (e :: es) t) (hdb : (x == ("__debug__" : Str)) = false := by decide) (he : starEach (e :: es) X.env = (false, eval e X.env) :: starEach es X.env := by rfl) (hpl : (backTo pos (starEach es X.env)).any (·.1) = false := by rfl) :
    PE X (.Call (.Name x p) (e :: es) [] pos) (tMakeSD C sp dvs E t) := by
  refine ⟨fun pins s σ H Q I h => ?_⟩
  refine wpAny_Call_Name_kw (ld_glob I hg hm ?_ hdb)
  refine PySem.W.callWith_K (h₀ := X.base) I.ok.mod.kin M.kp (thn (ha.run pos pins s σ H _ I h) fun us s1 ⟨vs, H1, I1, r, q⟩ => ⟨I1.kIn, ?_⟩) he hpl
  exact run_makeSD M F hr hb hd hx I1 r q
theorem pe_methX0 {pl : Sem Bool} (he : PE X o ta) (c : Cls X.K C) (hm : Meth X.K C m f) (F : FnOk X.prog X.w X.K X.mg X.base CX k f fd ps sp) (hr : Room k X.A) (hb : Binds X.K fd ps []) (hx : ∀ σ, PassesAt CX X σ (E σ))
    (ht : eval (.Call (.Attribute o m apos) [] [] pos) X.env = (do
      let ov ← eval o X.env
      standAt apos.atName
      let (f, first) ← holding [ov] (getMethod ov m pl)
      callWith pos f first (backTo pos (starEach [] X.env)) (backToKw pos (keywordEach [] X.env))) := by rfl) :
    PE X (.Call (.Attribute o m apos) [] [] pos) (tMethX C m sp E ta tNil) := by
  refine ⟨fun pins s σ H Q I h => ?_⟩
  refine PySem.W.methodCall_KW (pl := pl) (thn (he.run pins s σ H _ I h) fun u s1 ⟨x, H1, I1, rx, a, dx, fs, ex, ea, l, q⟩ => ?_) ht
  subst ex
  obtain rfl : u = Value.ref a := rx
  refine getmeth_ok I1 ea c hm l ?_
  exact PySem.W.callWith_K0 (first := [.ref a]) I1.kIn hm.kp (run_fnS (us := [.ref a]) (vs := [.ref a]) F hr hb (hx σ) I1 (.cons rfl .nil) q)
end layer
section
variable {K : Fg} {B : Bx K} {ta tb tc : TE} {φ φ' φ'' : DE} {tas : TA} {ψ : DA} {W : WX} {Ψ : XP} {δ : DEnv} {μ : Sto} {Φ : DK}
/-- what the defaults of a def stand for -/
def Dfl (K : Fg) (dvs : List V) (dds : List D) : Prop := ∀ μ H, Reps K μ H dvs dds
theorem dfl_tup {a : Addr} {ns : List Int} (h : SqTw K a (ns.map V.int)) : Dfl K [.ref a] [.tup (ns.map .int)] := fun μ H => .tup (.inr h) (by
  clear h
  induction ns with
  | nil => exact .nil
  | cons n ns ih => exact .int n ih) .nil
def dMakeSD (C : Addr) (c : Con) (dds : List D) (ψ : DA) : DE := fun Ψ δ μ Φ => ψ Ψ δ μ fun ds μ1 => ∀ x, μ1 x = none → c (.hd (.ref x) :: (ds ++ dds)) (sset μ1 x (.ins C [] [])) (fun d μ2 => d = .non ∧ ∃ ns es, μ2 x = some (.ins C ns es) ∧ Φ (.obj C ns es) (sdel μ2 x)) (fun y μ2 => Ψ y δ μ2)
theorem sMakeSD {C : Addr} {c : Con} {dvs : List V} {dds : List D} (hW : B.W = W) (hd : Dfl K dvs dds) (a : SA B tas ψ) : SE B (tMakeSD C (spOf K c) dvs (WE W) tas) (dMakeSD C c dds ψ) := by
  subst hW
  exact fun σ H δ μ Φ Q S q k =>
  a σ H δ μ _ _ S q fun vs H1 xs μ1 S1 e1 r1 q1 x dx hx hdx hne => by
    have hx' : upd H1 dx (.own x) x = none := by rw [upd_ne (Ne.symm hne)]; exact hx
    have ev0 : Evo μ1 H1 μ1 (upd H1 dx (.own x)) := .new hdx
    have st0 : StoOk K μ1 (upd H1 dx (.own x)) := S1.sto.new hdx
    have ev1 : Evo μ1 (upd H1 dx (.own x)) (sset μ1 x (.ins C [] [])) (upd (upd H1 dx (.own x)) x (.ins C dx [])) := .newC st0 hx'
    have st1 : StoOk K (sset μ1 x (.ins C [] [])) (upd (upd H1 dx (.own x)) x (.ins C dx [])) := st0.cell ev1 ⟨dx, [], upd_same, rfl, .nil⟩
    have ev := ev0.trans ev1
    refine ⟨sset μ1 x (.ins C [] []), .hd (.ref x) :: (xs ++ dds), _, _, st1, .hd _ ((r1.mono ev).append (hd _ _)), q1 x (S1.sto.fresh hx), fun v H' d μ' e s r ⟨hd, ns, es, hc, hq⟩ => ?_, fun cls dd H' y μ' e s rx hΨ => ?_⟩
    · subst hd
      obtain rfl := Rep.non_inv r
      refine ⟨rfl, ?_⟩
      obtain ⟨dx', us, hH, hl, hr⟩ := s x _ hc
      have sb : Sub (sdel μ' x) μ' := sdel_sub
      have e2 : Evo μ' H' (sdel μ' x) H' := sb.evo
      exact k _ H' _ (sdel μ' x) (S1.step (ev.trans (e.trans e2)) (sb.sto s)) (e1.trans (ev.trans (e.trans e2))) (.obj hH (NM.of sdel_same) hl (hr.mono e2) .nil) hq
    · exact B.hW cls dd σ H' y δ μ' (S1.step (ev.trans e) s) rx hΨ
theorem u_makeSD {C : Addr} {c : Con} {dds : List D} : dMakeSD C c dds ψ Ψ δ μ Φ = ψ Ψ δ μ fun ds μ1 => ∀ x, μ1 x = none → c (.hd (.ref x) :: (ds ++ dds)) (sset μ1 x (.ins C [] [])) (fun d μ2 => d = .non ∧ ∃ ns es, μ2 x = some (.ins C ns es) ∧ Φ (.obj C ns es) (sdel μ2 x)) (fun y μ2 => Ψ y δ μ2) := rfl
def rngB (hi : Int) (n : Nat) : List D := (List.range n).map fun (i : Nat) => .int (hi - (i : Int))
theorem rngB_len {hi : Int} {n : Nat} : (rngB hi n).length = n := by unfold rngB; rw [List.length_map, List.length_range]
def iR3 (φ φ' φ'' : DE) : DI := fun Ψ δ μ Φ => φ Ψ δ μ fun x μ1 => φ' Ψ δ μ1 fun y μ2 => φ'' Ψ δ μ2 fun z μ3 => ∃ i j, x = .int i ∧ y = .int j ∧ z = .int (-1) ∧ (-4611686018427387904 ≤ i ∧ i < 4611686018427387904 ∧ -4611686018427387904 ≤ j ∧ j < 4611686018427387904) ∧ Φ (rngB i (i - j).toNat) μ3
theorem u_iR3 {Ls : List D → Sto → Prop} : iR3 φ φ' φ'' Ψ δ μ Ls = φ Ψ δ μ fun x μ1 => φ' Ψ δ μ1 fun y μ2 => φ'' Ψ δ μ2 fun z μ3 => ∃ i j, x = .int i ∧ y = .int j ∧ z = .int (-1) ∧ (-4611686018427387904 ≤ i ∧ i < 4611686018427387904 ∧ -4611686018427387904 ≤ j ∧ j < 4611686018427387904) ∧ Ls (rngB i (i - j).toNat) μ3 := rfl
end
/-- THE RULE for a def with defaults -/
theorem def_okD {CX : CXT} {P : Program} {w : World} {K : Fg} {mg : Str → Option Value} {base : Heap} {x qual : Str} {st : Stmt} {f : Addr} {fd : FuncData} {N ps : List Str} {dvs : List V} {kws : List (Str × V)} {k : Nat} {c : Con} (F : FunD K x qual (defArgs st) (defBody st) (defScope st) dvs kws f fd) (Sc : FnScope N ps (defScope st)) (φ : DSt)
    (hl : ∀ ds μ Φ Ψ, c ds μ Φ Ψ → ds.length = ps.length)
    (hb : ∀ (cdv : Value) (A : Around) (outer : List Env) (s : Shared) (H : Hp) (E : XK) (B : Bx K), B.W = (fun cls d _ H => E cls d H) → Room k (A.deeper (PyProof.Rows.envOfC qual (defScope st) s.heap.objs.size f cdv)) →
      ∃ t, PSs (cxOf CX P w K mg base N qual (defScope st) f cdv A outer s H E) (defBody st) t ∧ SS B t φ)
    (hv : ∀ ds μ Φ Ψ, c ds μ Φ Ψ → φ (goalX Ψ) (goalE Φ) (dstart N ds) μ) : FnOk P w K mg base CX (k + 1) f fd ps (spOf K c) := by
  refine F.ok Sc (fun vs H Q E h => ?_) (fun cdv A outer s H vs Q E hr h => ?_)
  · obtain ⟨μ, ds, Φ, Ψ, _, r, hc, _⟩ := h
    rw [r.length]
    exact hl ds μ Φ Ψ hc
  · obtain ⟨μ, ds, Φ, Ψ, s0, r, hc, hq, hx⟩ := h
    let B : Bx K := ⟨H, μ, fun cls d _ H => E cls d H, goalX Ψ, fun cls dd σ H' x δ μ' S rx ⟨μ2, hs, q⟩ => hx cls dd H' x μ2 (S.evo.trans hs.evo) (hs.sto S.sto) (rx.mono hs.evo) q⟩
    obtain ⟨t, ht, hs⟩ := hb cdv A outer s H E B rfl hr
    refine ⟨t, ht, hs { nx := fun _ H' => Q .non H', rt := Q } (goalE Φ) (L2.start N vs) H (dstart N ds) μ ⟨fun σ H' δ μ' S ⟨μ2, h2, q⟩ => ?_, fun v H' d μ' σ δ S rv ⟨μ2, h2, q⟩ => ?_, fun _ _ _ _ _ z => z, fun _ _ _ _ _ z => z⟩ ⟨.refl, s0, env_start r⟩ (hv ds μ Φ Ψ hc)⟩
    · exact hq .non H' .non μ2 (S.evo.trans h2.evo) (h2.sto S.sto) (.non .nil) q
    · exact hq v H' d μ2 (S.evo.trans h2.evo) (h2.sto S.sto) (rv.mono h2.evo) q
theorem binds_full {K : Fg} {fd : FuncData} {ps : List Str} (h : ∃ us, Vals [] us ∧ Binds K fd ps us) : Binds K fd ps [] := by
  obtain ⟨us, r, b⟩ := h
  cases r
  exact b
section
variable {K : Fg} {B : Bx K} {ta tb : TE} {φ φ2 : DE} {Ψ : XP} {δ : DEnv} {μ : Sto} {Φ : DK}
def dGetXN (C : Addr) (NS : List Str) (c : Con) (φ φ2 : DE) : DE := fun Ψ δ μ Φ => φ Ψ δ μ fun x μ1 => φ2 Ψ δ μ1 fun y μ2 => ∃ es, x = .obj C NS es ∧ c [x, y] μ2 Φ fun _ _ => False
theorem u_getXN {C : Addr} {NS : List Str} {c : Con} : dGetXN C NS c φ φ2 Ψ δ μ Φ = φ Ψ δ μ fun x μ1 => φ2 Ψ δ μ1 fun y μ2 => ∃ es, x = .obj C NS es ∧ c [x, y] μ2 Φ fun _ _ => False := rfl
end
section
variable {K : Fg} {B : Bx K} {tas : TA} {ψ : DA} {Ψ : XP} {Δ : DEnds} {δ : DEnv} {μ : Sto}
def dPar (i j : Nat) (ψ : DA) : DSt := fun Ψ Δ δ μ => ψ Ψ δ μ fun xs μ1 => ∃ v w, xs = [v, w] ∧ Δ.nx ((δ.set i (some v)).set j (some w)) μ1
theorem u_par {i j : Nat} : dPar i j ψ Ψ Δ δ μ = ψ Ψ δ μ fun xs μ1 => ∃ v w, xs = [v, w] ∧ Δ.nx ((δ.set i (some v)).set j (some w)) μ1 := rfl
end
structure IsO (K : Fg) (C : Addr) : Prop where
  ty : ∀ {H : Hp} {a dx : Addr} {fs : List (Str × V)}, H a = some (.ins C dx fs) → TyOf K H (.ref a) (.ref C)
  kit : PySem.W.kitOne K (.ref C) (.ref C) = some true
def cIsiO (C : Addr) : DC := fun xs μ Φ => ∃ ns es, xs = [.obj C ns es, .hd (.ref C)] ∧ Φ (.bl true) μ
theorem rcIsiO {K : Fg} {C : Addr} (h : IsO K C) : RC K (rIsi K) (cIsiO C) := fun H μ vs ds Φ Q s r q k => by
  obtain ⟨ns, es, rfl, q⟩ := q
  obtain ⟨v, w, rfl, r1, r2⟩ := reps2 r
  obtain rfl := Rep.hd_inv r2
  obtain ⟨p, dx, us, rfl, hH, hnm, hl, hr⟩ := Rep.obj_inv r1
  exact ⟨_, _, _, _, true, rfl, .own C, .base (h.ty hH), h.kit, k _ H _ μ .refl s (.bl _ .nil) q⟩
theorem w_isiO {C : Addr} {ns : List Str} {es : List D} {μ : Sto} {Φ : DK} : cIsiO C [.obj C ns es, .hd (.ref C)] μ Φ = Φ (.bl true) μ := propext ⟨fun ⟨_, _, e, q⟩ => q, fun q => ⟨ns, es, rfl, q⟩⟩
end DW
set_option Elab.async false
set_option linter.all false
set_option maxRecDepth 100000
set_option maxHeartbeats 4000000
namespace DW
open PySem PySem.Spec PyProof.Rows L2
section
variable {K : Fg} {B : Bx K} {ta : TE} {φ : DE} {Ψ : XP} {δ : DEnv} {μ : Sto} {Φ : DK}
def dCVal (n : Int) : DE := fun _ _ μ Φ => Φ (.int n) μ
theorem sCVal {C : Addr} {mc : Value} {f : Str} {n : Int} (r : ClX.CRead K C mc) (c : ∃ t, ClX.CVal K C mc f (.int n) (.int n t)) (_a : SE B (tC (.ref C)) (dC (.hd (.ref C)))) : SE B (ClX.tCVal K (tC (.ref C)) f) (dCVal n) := fun σ H δ μ Φ Q S q k => by
  obtain ⟨t, h⟩ := c
  exact ⟨C, mc, .int n, _, rfl, r, h, sInt σ H δ μ Φ Q S q k⟩
theorem u_cval {n : Int} : dCVal n Ψ δ μ Φ = Φ (.int n) μ := rfl
end
/-- enumerate(t, start=e2), e2 a constant by name -/
theorem pi_enumTg {X : Cx} {e e2 : Expr} {ta : TA} {p kp pos tpos : Pos} {kk : Nat} {n : Int} {elts : List Expr} (hg : Gl X "enumerate") (hm : X.mg "enumerate" = none) (he : PE X e2 (tC (.int n))) (ha : PA X [e] ta) (h0 : -(2 ^ 63) ≤ n) (h1 : n < 2 ^ 63)
    (hs : starEach [e] X.env = [(false, eval e X.env)] := by rfl) :
    PI X (.Tuple elts kk tpos) (.Call (.Name "enumerate" p) [e] [⟨some "start", e2, kp⟩] pos) (iEnumT X.K n ta) := by
  refine ⟨fun pins s σ H R I h => ?_⟩
  refine wpAny_Call_Name_kw (ld_blt I hg hm boot_enumerate ?_)
  have A := ha.run pos pins s σ H _ I h
  rw [hs] at A ⊢
  refine callWith_tyKw rfl rfl rfl (thn A fun us s1 ⟨vs, H1, I1, r1, q1⟩ => kws_cons ?_)
  obtain ⟨a, xs, rfl, hq, q⟩ := q1
  rw [Vals.ref1 r1]
  obtain ⟨its, rv, p', hz⟩ := I1.tuple hq
  refine thn (he.run pins s1 σ H1 (fun v H2 => v = .int n ∧ H2 = H1) I1 ⟨rfl, rfl⟩) fun u s2 ⟨v, H2, I2, r2, ev, eh⟩ => kws_nil ?_
  subst ev
  rw [eh] at I2
  obtain ⟨t, rfl⟩ := r2
  obtain ⟨its2, rv2, p2', hz2⟩ := I2.tuple hq
  exact enum_begins_start (begins_tuple a its2.toArray) p2' h0 h1 fun h' he ho hsz hk => wpAny_pyIter_enum he (pie_enumT I2 hq he ho hk q)
end DW
set_option Elab.async false
set_option linter.all false
set_option maxRecDepth 100000
set_option maxHeartbeats 4000000
namespace DW
open PySem PySem.Spec PyProof.Rows L2
theorem cr_range1 {X : Cx} : CallR X (.type "range") (fun vs H Q => ∃ j, vs = [V.int j] ∧ ∀ p, H p = none → Q (.ref p) (upd H p (.rng 0 j))) := by
  intro pins s σ H vs us Q I r h
  obtain ⟨j, rfl, q⟩ := h
  cases r with
  | cons r rr =>
    cases rr
    obtain ⟨t, rfl⟩ := r
    refine call_range_1 ⟨.ref s.heap.objs.size, upd H s.heap.objs.size (.rng 0 j), I.laid (t' := s.toks + 1 + 1) (fun b o e => Heap.get?_push_of_some _ e) (Nat.le_refl _) ?_, rfl, q _ (I.hok.fresh (Nat.le_refl _))⟩
    exact ⟨s.toks, t, s.toks + 1, Heap.get?_push_size _ rfl⟩
def iRngV (tl : TE) : TI := fun σ H R => tl σ H fun x H1 => ∃ a lo hi, x = .ref a ∧ H1 a = some (.rng lo hi) ∧ (-(2 ^ 62) ≤ lo ∧ lo < 2 ^ 62 ∧ -(2 ^ 62) ≤ hi ∧ hi < 2 ^ 62) ∧ R (Itr lo (hi - lo).toNat) H1
theorem pi_rngV {X : Cx} {tg l : Expr} {tl : TE} (hl : PE X l tl) : PI X tg l (iRngV tl) := by
  refine ⟨fun pins s σ H R I h => ?_⟩
  refine thn (hl.run pins s σ H _ I h) fun v s1 ⟨x, H1, I1, r1, q1⟩ => ?_
  obtain ⟨a, lo, hi, e, ha, ⟨h1, h2, h3, h4⟩, q⟩ := q1
  subst e
  cases r1
  obtain ⟨t, u, w, ho⟩ := I1.hok a _ ha
  refine wpAny_pyIter_range (show IsRange s1.heap a lo hi 1 t u w from ho) (small_one h1 h2 h3 h4) ?_
  refine ⟨s1.heap.objs.size, [s1.heap.objs.size], _, _, H1, rfl, I1.kept (t' := s1.toks) fun b o e => Heap.get?_push_of_some _ e, turn_range _ lo (hi - lo).toNat, ?_, fun b hb => ?_, q⟩
  · have e1 : lo + ((0 : Nat) : Int) * 1 = lo := by simp
    have e2 : (((hi - lo).toNat : Nat) : Int) - ((0 : Nat) : Int) = Builtin.Range.rangeSize lo hi 1 := by rw [rangeSize_one]; split <;> omega
    show IsRangeIter _ _ (lo + ((0 : Nat) : Int) * 1) ((((hi - lo).toNat : Nat) : Int) - ((0 : Nat) : Int)) 1
    rw [e1, e2]
    exact Heap.get?_push_size _ rfl
  · have e : b = s1.heap.objs.size := by simpa using hb
    subst e
    exact I1.fpOk (Nat.le_refl _) (I1.hok.fresh (Nat.le_refl _))
section
variable {K : Fg} {B : Bx K} {te : TE} {φ : DE} {Ψ : XP} {δ : DEnv} {μ : Sto}
def cRng1 : DC := fun xs μ Φ => ∃ j, xs = [.int j] ∧ ∀ p, μ p = none → Φ (.hd (.ref p)) (sset μ p (.rng 0 j))
theorem sto_rng {H : Hp} {p : Addr} {lo hi : Int} (s : StoOk K μ H) (h : H p = none) : StoOk K (sset μ p (.rng lo hi)) (upd H p (.rng lo hi)) := fun a x q => by
  by_cases ha : a = p
  · subst ha
    rw [sset_same] at q
    cases q
    exact upd_same
  · rw [sset_ne ha] at q
    exact (s a x q).mono (.newC s h) fun u z => by rw [upd_ne ha]; exact z
theorem rcRng1 : RC K (fun vs H Q => ∃ j, vs = [V.int j] ∧ ∀ p, H p = none → Q (.ref p) (upd H p (.rng 0 j))) cRng1 := fun H μ vs ds Φ Q s r q k => by
  obtain ⟨j, rfl, q⟩ := q
  obtain ⟨v, rfl, r⟩ := reps1 r
  obtain rfl := Rep.int_inv r
  exact ⟨j, rfl, fun p hp => k _ _ _ _ (.newC s hp) (sto_rng s hp) (.hd _ .nil) (q p (s.fresh hp))⟩
def iRngD (φ : DE) : DI := fun Ψ δ μ Φ => φ Ψ δ μ fun x μ1 => ∃ a lo hi, x = .hd (.ref a) ∧ μ1 a = some (.rng lo hi) ∧ (-4611686018427387904 ≤ lo ∧ lo < 4611686018427387904 ∧ -4611686018427387904 ≤ hi ∧ hi < 4611686018427387904) ∧ Φ (rngD lo (hi - lo).toNat) μ1
theorem siRngV (a : SE B te φ) : SI B (iRngV te) (iRngD φ) := fun σ H δ μ Φ R S q k =>
  a σ H δ μ _ _ S q fun v H1 x μ1 S1 e1 r1 q1 => by
    obtain ⟨p, lo, hi, rfl, hp, hb, q2⟩ := q1
    obtain rfl := Rep.hd_inv r1
    exact ⟨p, lo, hi, rfl, S1.sto p _ hp, by omega, k _ _ H1 μ1 S1 e1 iter_rng q2⟩
variable {Φ : DK} {R : List D → Sto → Prop}
theorem v_rng1 {x : D} : cRng1 [x] μ Φ = ∃ j, x = .int j ∧ ∀ p, μ p = none → Φ (.hd (.ref p)) (sset μ p (.rng 0 j)) := propext ⟨fun ⟨j, e, q⟩ => by cases e; exact ⟨j, rfl, q⟩, fun ⟨j, e, q⟩ => ⟨j, by rw [e], q⟩⟩
theorem u_rngV : iRngD φ Ψ δ μ R = φ Ψ δ μ fun x μ1 => ∃ a lo hi, x = .hd (.ref a) ∧ μ1 a = some (.rng lo hi) ∧ (-4611686018427387904 ≤ lo ∧ lo < 4611686018427387904 ∧ -4611686018427387904 ≤ hi ∧ hi < 4611686018427387904) ∧ R (rngD lo (hi - lo).toNat) μ1 := rfl
theorem w_rngE {a b : Int} {c d : Int} : (some (Cell.rng a b) = some (Cell.rng c d)) = (a = c ∧ b = d) := propext ⟨fun e => by cases e; exact ⟨rfl, rfl⟩, fun ⟨h, k⟩ => by rw [h, k]⟩
end
end DW
set_option Elab.async false
set_option linter.all false
set_option maxRecDepth 100000
set_option maxHeartbeats 4000000
namespace DW
open PySem PySem.Spec PyProof.Rows L2
end DW
set_option Elab.async false
set_option linter.all false
set_option maxRecDepth 100000
set_option maxHeartbeats 4000000
namespace DW
open PySem PySem.Spec PyProof.Rows L2
section
variable {K : Fg} {B : Bx K} {te : TE} {φ : DE} {Ψ : XP} {δ : DEnv} {μ : Sto} {Φ : DK}
def dRestE (φ : DE) : DE := fun Ψ δ μ Φ => φ Ψ δ μ fun x μ1 => ∃ a ds, x = .hd (.ref a) ∧ μ1 a = some (.lst ds) ∧ Φ (.lst ds) (sset μ1 a (.frz ds))
theorem u_restE : dRestE φ Ψ δ μ Φ = φ Ψ δ μ fun x μ1 => ∃ a ds, x = .hd (.ref a) ∧ μ1 a = some (.lst ds) ∧ Φ (.lst ds) (sset μ1 a (.frz ds)) := rfl
end
end DW
set_option Elab.async false
set_option linter.all false
set_option maxRecDepth 100000
set_option maxHeartbeats 4000000
namespace DW
open PySem PySem.Spec PyProof.Rows L2
section
variable {K : Fg} {B : Bx K} {ta te : TE} {tas : TA} {Ψ : XP} {δ : DEnv} {μ : Sto} {Φ : DK}
theorem sset_sdel {μ : Sto} {p : Addr} {c : Cell} (h : μ p = some c) : sset (sdel μ p) p c = μ := by
  funext b
  by_cases e : b = p
  · rw [e, sset_same, h]
  · rw [sset_ne e]; unfold sdel; rw [if_neg e]
/-- what is wanted of a list that is one's own -/
def ownK (Φ : DK) : DK := fun d μ' => ∃ acc, d = .lst acc ∧ ∀ p, μ' p = none → Φ (.hd (.ref p)) (sset μ' p (.lst acc))
def dLcO (ι : DI) (γ : DG) (θ : DT) (φ : DE) (vs : List Nat) : DE := fun Ψ δ μ Φ => dLc ι γ θ φ vs Ψ δ μ (ownK Φ)
theorem sLcO {wi : TI} {g : TG} {tt : TT} {te : TE} {vs : List Nat} {ι : DI} {γ : DG} {θ : DT} {φ : DE} (a : SI B wi ι) (w : GW vs g) (b : ∀ H1 μ1 e, SG (B.re H1 μ1 e) g γ) (c : ∀ H1 μ1 e, ST (B.re H1 μ1 e) tt θ) (d : ∀ H1 μ1 e, SE (B.re H1 μ1 e) te φ) :
    SE B (tLc wi g tt te vs) (dLcO ι γ θ φ vs) := fun σ H δ μ Φ Q S q k =>
  a σ H δ μ _ _ S q fun xs J H1 μ1 S1 e1 it q1 => fun p hp => by
    have hμp : μ1 p = none := S1.sto.fresh hp
    obtain ⟨W, w0, ws, wd⟩ := q1 p hμp
    refine ⟨fun i m H' => m = xs.length - i ∧ i ≤ xs.length ∧ ∃ μ', Evo μ1 H1 μ' H' ∧ StoOk K μ' H' ∧ W i μ', ⟨xs.length, by simp, Nat.zero_le _, _, .newC S1.sto hp, sto_own S1.sto hp .nil, w0⟩, ?_⟩
    rintro i m H' ⟨rfl, hi, μ', e', s', wi'⟩
    by_cases hlt : i < xs.length
    · obtain ⟨hgo, hy⟩ := (it i H' μ' s' e').1 hlt
      refine .inr ⟨hgo, fun H2 => ∃ μ2, Evo μ1 H1 μ2 H2 ∧ StoOk K μ2 H2 ∧ W (i + 1) μ2, fun H2 ⟨μ2, e2, s2, w2⟩ => ⟨xs.length - (i + 1), by omega, rfl, by omega, μ2, e2, s2, w2⟩, fun x H2 y => ?_⟩
      obtain ⟨dd, hd, s2, e2, r2⟩ := hy x H2 y
      have S2 : (B.re H1 μ1 S1.evo).S (L2.wipe σ vs) H2 (dwipe δ vs) μ' := ⟨e'.trans e2, s2, ((S1.env.mono e').mono e2).wipe vs⟩
      refine w x (L2.wipe σ vs) (L2.wipe σ vs) H2 _ wipe_wipe ?_
      refine b H1 μ1 S1.evo x dd (L2.wipe σ vs) H2 (dwipe δ vs) μ' _ _ S2 r2 (ws i dd μ' hd wi') fun σ3 H3 δ3 μ3 S3 e3 q3 => ?_
      refine c H1 μ1 S1.evo σ3 H3 δ3 μ3 _ _ S3 q3 fun b4 H4 μ4 S4 e4 q4 => ?_
      cases b4 with
      | true =>
        rw [if_pos rfl]
        refine d H1 μ1 S1.evo σ3 H4 δ3 μ4 _ _ S4 (q4.1 rfl) fun v5 H5 y5 μ5 S5 e5 r5 q5 => ?_
        obtain ⟨acc, hacc, hz, w5⟩ := q5
        obtain ⟨us, h5, hr5⟩ := S5.sto _ _ hacc
        have e6 : Evo μ5 H5 (sset μ5 p (.lst (acc ++ [y5]))) (upd H5 p (.lst (us ++ [v5]))) := own_evo hacc
        obtain ⟨e7, s7⟩ := own_upd S5.sto hacc ((hr5.append r5).mono e6)
        exact ⟨us, h5, Nat.lt_of_le_of_lt (by rw [hr5.length]; exact hz) (by decide), _, S5.evo.trans e7, s7, w5⟩
      | false =>
        rw [if_neg Bool.false_ne_true]
        exact ⟨μ4, S4.evo, S4.sto, q4.2 rfl⟩
    · have e : i = xs.length := by omega
      subst e
      obtain ⟨acc, hacc, q2⟩ := wd μ' wi'
      obtain ⟨acc', ea, q2⟩ := q2
      cases ea
      refine .inl ⟨(it _ H' μ' s' e').2 (Nat.le_refl _), ?_⟩
      have q3 := q2 p sdel_same
      rw [sset_sdel hacc] at q3
      exact k (.ref p) H' (.hd (.ref p)) μ' (S1.step e' s') (e1.trans e') (.hd _ .nil) q3
theorem u_lcO {ι : DI} {γ : DG} {θ : DT} {φ : DE} {vs : List Nat} : dLcO ι γ θ φ vs Ψ δ μ Φ = ι Ψ δ μ fun xs μ1 => LcG γ θ φ (dwipe δ vs) Ψ xs μ1 (ownK Φ) := rfl
end
end DW
set_option Elab.async false
set_option linter.all false
set_option maxRecDepth 100000
set_option maxHeartbeats 4000000
namespace DW
open PySem PySem.Spec PyProof.Rows L2
section
variable {K : Fg} {B : Bx K} {X : Cx}
theorem reads_ints {h : Heap} : ∀ {ns : List Int} {us : List Value}, Vals (ns.map V.int) us → ReadsAll h us (ns.map PyData.int) []
  | [], [], _ => .nil
  | n :: ns, [], r => by cases r
  | [], _ :: _, r => by cases r
  | n :: ns, u :: us, r => by
    cases r with
    | cons r1 r2 =>
      obtain ⟨t, rfl⟩ := r1
      exact .cons (as := []) (bs := []) (.int n t) (reads_ints r2)
theorem alike_ints (ns : List Int) : PySem.W.AlikeAll (ns.map PyData.int) := ⟨fun x hx y hy => by
  obtain ⟨a, _, rfl⟩ := List.mem_map.mp hx
  obtain ⟨b, _, rfl⟩ := List.mem_map.mp hy
  rfl, fun x hx z => by obtain ⟨a, _, rfl⟩ := List.mem_map.mp hx; cases z⟩
theorem depth_ints : ∀ ns : List Int, PyData.depthAll (ns.map PyData.int) ≤ 1
  | [] => by simp [PyData.depthAll]
  | n :: ns => by
    have := depth_ints ns
    rw [List.map_cons, PyData.depthAll]
    have : PyData.depth (.int n) ≤ 1 := by simp [PyData.depth]
    omega
theorem maxD_is : ∀ (ns : List Int) (a : Int), ∃ m, PySem.W.maxD (.int a) (ns.map PyData.int) = .int m ∧ (m = a ∨ m ∈ ns) ∧ a ≤ m ∧ ∀ y ∈ ns, y ≤ m
  | [], a => ⟨a, rfl, .inl rfl, Int.le_refl _, by simp⟩
  | n :: ns, a => by
    have e : PySem.W.maxD (.int a) ((n :: ns).map PyData.int) = PySem.W.maxD (.int (if a < n then n else a)) (ns.map PyData.int) := by
      unfold PySem.W.maxD
      rw [List.map_cons, List.foldl_cons, PySem.W.dataLt_int]
      by_cases c : a < n
      · rw [if_pos c, if_pos (by simpa using c)]
      · rw [if_neg c, if_neg (by simpa using c)]
    obtain ⟨m, h1, h2, h3, h4⟩ := maxD_is ns (if a < n then n else a)
    refine ⟨m, e.trans h1, ?_, ?_, fun y hy => ?_⟩
    · rcases h2 with h2 | h2
      · by_cases c : a < n
        · rw [if_pos c] at h2; exact .inr (by rw [h2]; exact List.mem_cons_self)
        · rw [if_neg c] at h2; exact .inl h2
      · exact .inr (List.mem_cons_of_mem _ h2)
    · split at h3 <;> omega
    · rcases List.mem_cons.mp hy with z | z
      · subst z; split at h3 <;> omega
      · exact h4 y z
def rMaxT (K : PySem.W.Frag) : List V → Hp → VK → Prop := fun vs H Q => ∃ (a : Addr) (ns : List Int), vs = [.ref a] ∧ SqT K H a (ns.map V.int) ∧ 0 < ns.length ∧ ∀ m, m ∈ ns → (∀ y, y ∈ ns → y ≤ m) → Q (.int m) H
theorem cr_maxT {k : Nat} (hc : X.calm = true) (hr : Room k X.A) : CallR X (.builtin "max") (rMaxT X.K) := fun pins s σ H xs us Q I r q => by
  obtain ⟨a, ns, rfl, hq, hl, q⟩ := q
  rw [Vals.ref1 r]
  obtain ⟨its, rv, p', hz⟩ := I.tuple hq
  cases ns with
  | nil => simp at hl
  | cons n ns =>
    have hu := hr.un
    have hd := depth_ints (n :: ns)
    refine PySem.W.max_tuple_data (x := .int n) (xs := ns.map PyData.int) (as := []) (I.ok.hd hc) p' (reads_ints (ns := n :: ns) rv) (alike_ints (n :: ns)) (by have e : PyData.depthAll (PyData.int n :: ns.map PyData.int) = PyData.depthAll ((n :: ns).map PyData.int) := rfl; omega) fun i v h' tk bs hv hR hk => ?_
    obtain ⟨m, e, h2, h3, h4⟩ := maxD_is ns n
    rw [e] at hR
    cases hR with
    | int _ t =>
      exact ⟨.int m, H, I.kept hk, ⟨t, rfl⟩, q m (h2.elim (fun z => by rw [z]; exact List.mem_cons_self) (List.mem_cons_of_mem _)) fun y hy => by
        rcases List.mem_cons.mp hy with z | z
        · rw [z]; exact h3
        · exact h4 y z⟩
def cMaxT : DC := fun xs μ Φ => ∃ ns : List Int, xs = [.tup (ns.map .int)] ∧ ns ≠ [] ∧ ∀ m, m ∈ ns → (∀ y, y ∈ ns → y ≤ m) → Φ (.int m) μ
theorem rcMaxT : RC K (rMaxT K) cMaxT := fun H μ vs ds Φ Q s r q k => by
  obtain ⟨ns, rfl, hne, q⟩ := q
  obtain ⟨v, rfl, r1⟩ := reps1 r
  obtain ⟨a, us, rfl, h1, h2⟩ := Rep.tup_inv r1
  have e := reps_intsV h2
  subst e
  exact ⟨a, ns, rfl, h1.sq, List.length_pos_iff.2 hne, fun m hm hmax => k _ H _ μ .refl s (.int _ .nil) (q m hm hmax)⟩
theorem w_maxT {ns : List Int} {μ : Sto} {Φ : DK} (h : ns ≠ [] ∧ ∀ m, m ∈ ns → (∀ y, y ∈ ns → y ≤ m) → Φ (.int m) μ) : cMaxT [.tup (ns.map .int)] μ Φ := ⟨ns, rfl, h⟩
end
end DW
set_option Elab.async false
set_option linter.all false
set_option maxRecDepth 100000
set_option maxHeartbeats 4000000
namespace DW
open PySem PySem.Spec PyProof.Rows L2
section
variable {K : Fg} {B : Bx K} {ta : TE} {φ : DE} {Ψ : XP} {δ : DEnv} {μ : Sto} {Th : Bool → Sto → Prop}
def dTruT (φ : DE) : DT := fun Ψ δ μ Φ => φ Ψ δ μ fun x μ1 => ∃ ds, x = .tup ds ∧ Φ (!ds.isEmpty) μ1
theorem u_truT : dTruT φ Ψ δ μ Th = φ Ψ δ μ fun x μ1 => ∃ ds, x = .tup ds ∧ Th (!ds.isEmpty) μ1 := rfl
end
end DW
set_option Elab.async false
set_option linter.all false
set_option maxRecDepth 100000
set_option maxHeartbeats 4000000
namespace DW
open PySem PySem.Spec PyProof.Rows L2
def zip3D : List D → List D → List D → List D
  | x :: xs, y :: ys, z :: zs => .pr [x, y, z] :: zip3D xs ys zs
  | _, _, _ => []
def iZ3 (φ φ' φ'' : DE) : DI := fun Ψ δ μ Φ => φ Ψ δ μ fun x μ1 => φ' Ψ δ μ1 fun y μ2 => φ'' Ψ δ μ2 fun z μ3 => ∃ xs ys zs, x = .tup xs ∧ y = .tup ys ∧ z = .tup zs ∧ Φ (zip3D xs ys zs) μ3
theorem u_iZ3 {φ φ' φ'' : DE} {Ψ : XP} {δ : DEnv} {μ : Sto} {Φ : List D → Sto → Prop} : iZ3 φ φ' φ'' Ψ δ μ Φ = φ Ψ δ μ fun x μ1 => φ' Ψ δ μ1 fun y μ2 => φ'' Ψ δ μ2 fun z μ3 => ∃ xs ys zs, x = .tup xs ∧ y = .tup ys ∧ z = .tup zs ∧ Φ (zip3D xs ys zs) μ3 := rfl
theorem w_zip3E {a b c : List D} {P : List D → List D → List D → Prop} : (∃ xs ys zs, D.tup a = .tup xs ∧ D.tup b = .tup ys ∧ D.tup c = .tup zs ∧ P xs ys zs) = P a b c := propext ⟨fun ⟨_, _, _, e1, e2, e3, q⟩ => by cases e1; cases e2; cases e3; exact q, fun q => ⟨_, _, _, rfl, rfl, rfl, q⟩⟩
end DW
set_option Elab.async false
set_option linter.all false
set_option maxRecDepth 100000
set_option maxHeartbeats 4000000
namespace DW
open PySem PySem.Spec PyProof.Rows L2
section
variable {K : Fg} {B : Bx K}
/-- the classes of a display, all of them own -/
def kitA (K : Fg) : XD → List Addr → Option Bool
  | .mk C _, cs => PySem.W.kitAny K (.ref C) (cs.map Value.ref)
def dIsET (K : Fg) (a : Addr) (x : XD) (ψ : DA) : DE := fun Ψ δ μ Φ => ψ Ψ δ μ fun xs μ1 => ∃ (cs : List Addr) (b : Bool), xs = [.hd (.ref a), .tup (cs.map fun c => .hd (.ref c))] ∧ kitA K x cs = some b ∧ excE K x ∧ Φ (.bl b) μ1
end
section
variable {K : Fg} {Ψ : XP} {δ : DEnv} {μ : Sto} {Φ : DK}
theorem u_isET {a : Addr} {x : XD} {ψ : DA} : dIsET K a x ψ Ψ δ μ Φ = ψ Ψ δ μ fun xs μ1 => ∃ (cs : List Addr) (b : Bool), xs = [.hd (.ref a), .tup (cs.map fun c => .hd (.ref c))] ∧ kitA K x cs = some b ∧ excE K x ∧ Φ (.bl b) μ1 := rfl
theorem hds_inj {es cs : List Addr} (e : es.map (fun c => D.hd (.ref c)) = cs.map fun c => D.hd (.ref c)) : es = cs :=
  (List.map_inj_right (fun _ _ z => by cases z; rfl)).mp e
theorem w_isETg {a : Addr} {es : List Addr} {P : List Addr → Bool → Prop} : (∃ (cs : List Addr) (b : Bool), [D.hd (.ref a), D.tup (es.map fun c => .hd (.ref c))] = [.hd (.ref a), .tup (cs.map fun c => .hd (.ref c))] ∧ P cs b) = ∃ b, P es b := propext ⟨fun ⟨cs, b, e, q⟩ => by
  injection e with _ e
  injection e with e _
  injection e with e
  rw [hds_inj e]; exact ⟨b, q⟩, fun ⟨b, q⟩ => ⟨es, b, rfl, q⟩⟩
theorem w_isET2 {a c1 c2 : Addr} {P : List Addr → Bool → Prop} : (∃ (cs : List Addr) (b : Bool), [D.hd (.ref a), D.tup [.hd (.ref c1), .hd (.ref c2)]] = [.hd (.ref a), .tup (cs.map fun c => .hd (.ref c))] ∧ P cs b) = ∃ b, P [c1, c2] b := w_isETg (es := [c1, c2])
theorem w_isET3 {a c1 c2 c3 : Addr} {P : List Addr → Bool → Prop} : (∃ (cs : List Addr) (b : Bool), [D.hd (.ref a), D.tup [.hd (.ref c1), .hd (.ref c2), .hd (.ref c3)]] = [.hd (.ref a), .tup (cs.map fun c => .hd (.ref c))] ∧ P cs b) = ∃ b, P [c1, c2, c3] b := w_isETg (es := [c1, c2, c3])
theorem w_isET4 {a c1 c2 c3 c4 : Addr} {P : List Addr → Bool → Prop} : (∃ (cs : List Addr) (b : Bool), [D.hd (.ref a), D.tup [.hd (.ref c1), .hd (.ref c2), .hd (.ref c3), .hd (.ref c4)]] = [.hd (.ref a), .tup (cs.map fun c => .hd (.ref c))] ∧ P cs b) = ∃ b, P [c1, c2, c3, c4] b := w_isETg (es := [c1, c2, c3, c4])
end
end DW
set_option Elab.async false
set_option linter.all false
set_option maxRecDepth 100000
namespace DW
open PySem PySem.Spec PyProof.Rows L2
end DW
set_option Elab.async false
set_option linter.all false
set_option maxRecDepth 100000
set_option maxHeartbeats 2000000
namespace DW
open PySem PySem.Spec PyProof.Rows L2
end DW
set_option Elab.async false
set_option linter.all false
set_option maxRecDepth 100000
set_option maxHeartbeats 2000000
namespace DW
open PySem PySem.Spec PyProof.Rows L2
end DW
set_option Elab.async false
set_option linter.all false
set_option maxRecDepth 100000
set_option maxHeartbeats 4000000
namespace DW
open PySem PySem.Spec PyProof.Rows L2
section
variable {K : Fg} {B : Bx K} {X : Cx}
def tMaxD (K : PySem.W.Frag) (ta tb : TE) : TE := fun σ H Q => ta σ H fun x H1 => ∃ (a : Addr) (ns : List Int), x = .ref a ∧ tb σ H1 fun y H2 => ∃ d, y = .int d ∧ SqL K H2 a (ns.map V.int) ∧ (ns = [] → Q (.int d) H2) ∧ ∀ m, m ∈ ns → (∀ y, y ∈ ns → y ≤ m) → Q (.int m) H2
theorem pe_maxD {k : Nat} {a b : Expr} {ta tb : TE} {p kp pos : Pos} (hg : Gl X "max") (hm : X.mg "max" = none) (hc : X.calm = true) (hr : Room k X.A) (ha : PE X a ta) (hb : PE X b tb)
    (na : starEach [a] X.env = (false, eval a X.env) :: starEach [] X.env := by rfl)
    (he : backTo pos (starEach [a] X.env) = (false, eval a X.env) :: backTo pos (starEach [] X.env) := by rfl) (hpl : (backTo pos (starEach [a] X.env)).any (·.1) = false := by rfl)
    (hall : (backToKw pos (keywordEach [⟨some "default", b, kp⟩] X.env)).all (·.1.isSome) = true := by rfl) (hnone : (backToKw pos (keywordEach [⟨some "default", b, kp⟩] X.env)).any (·.1.isNone) = false := by rfl)
    (hks : (backToKw pos (keywordEach [⟨some "default", b, kp⟩] X.env)).filterMap (·.1) = [("default" : Str)] := by rfl) :
    PE X (.Call (.Name "max" p) [a] [⟨some "default", b, kp⟩] pos) (tMaxD X.K ta tb) := by
  refine ⟨fun pins s σ H Q I h => ?_⟩
  refine wpAny_Call_Name_kw (ld_blt I hg hm boot_max ?_)
  refine PyProof.Rows.callWith_kw (args_cons (thn (ha.run pins s σ H _ I h) fun v s1 ⟨x, H1, I1, r1, l, ns, ex, q⟩ => args_nil ?_) na) he hpl hall hnone
  refine PyProof.Rows.kws_cons (thn (hb.run pins s1 σ H1 _ I1 q) fun u s2 ⟨y, H2, I2, r2, d, ey, hq, q1, q2⟩ => PyProof.Rows.kws_nil ?_)
  rw [hks]
  subst ex ey
  cases r1
  obtain ⟨t, rfl⟩ := r2
  obtain ⟨its, rv, p', hz⟩ := I2.list hq
  have hu := hr.un
  have hd := depth_ints ns
  refine PySem.W.max_list_default (xs := ns.map PyData.int) (as := []) (I2.ok.hd hc) p'.isList (reads_ints (ns := ns) rv) (alike_ints ns) (by omega) (fun e h' tk hk => ?_) fun y ys i v h' tk bs e hi hR hk => ?_
  · exact ⟨.int d, H2, I2.kept hk, ⟨t, rfl⟩, q1 (List.map_eq_nil_iff.mp e)⟩
  · cases ns with
    | nil => cases e
    | cons n ns =>
      rw [List.map_cons, List.cons.injEq] at e
      obtain ⟨e1, e2⟩ := e
      subst e1 e2
      obtain ⟨m, e, h2, h3, h4⟩ := maxD_is ns n
      rw [e] at hR
      cases hR with
      | int _ t =>
        exact ⟨.int m, H2, I2.kept hk, ⟨t, rfl⟩, q2 m (h2.elim (fun z => by rw [z]; exact List.mem_cons_self) (List.mem_cons_of_mem _)) fun y hy => by
          rcases List.mem_cons.mp hy with z | z
          · rw [z]; exact h3
          · exact h4 y z⟩
def dMaxD (φa φb : DE) : DE := fun Ψ δ μ Φ => φa Ψ δ μ fun x μ1 => ∃ ns : List Int, x = .lst (ns.map .int) ∧ φb Ψ δ μ1 fun y μ2 => ∃ d, y = .int d ∧ (ns = [] → Φ (.int d) μ2) ∧ ∀ m, m ∈ ns → (∀ y, y ∈ ns → y ≤ m) → Φ (.int m) μ2
theorem sMaxD {ta tb : TE} {φa φb : DE} (a : SE B ta φa) (b : SE B tb φb) : SE B (tMaxD K ta tb) (dMaxD φa φb) := fun σ H δ μ Φ Q S q k =>
  a σ H δ μ _ _ S q fun v H1 x μ1 S1 e1 r1 q1 => by
    obtain ⟨ns, rfl, q1⟩ := q1
    obtain ⟨p, us, rfl, h1, h2⟩ := Rep.lst_inv r1
    have e := reps_intsV h2
    subst e
    refine ⟨p, ns, rfl, b σ H1 δ μ1 _ _ S1 q1 fun w H2 y μ2 S2 e2 r2 q2 => ?_⟩
    obtain ⟨d, rfl, qa, qb⟩ := q2
    obtain rfl := Rep.int_inv r2
    exact ⟨d, rfl, (h1.mono e2).sq, fun z => k _ _ _ μ2 S2 (e1.trans e2) (.int _ .nil) (qa z), fun m h3 h4 => k _ _ _ μ2 S2 (e1.trans e2) (.int _ .nil) (qb m h3 h4)⟩
theorem u_maxD {φa φb : DE} {Ψ : XP} {δ : DEnv} {μ : Sto} {Φ : DK} : dMaxD φa φb Ψ δ μ Φ = φa Ψ δ μ fun x μ1 => ∃ ns : List Int, x = .lst (ns.map .int) ∧ φb Ψ δ μ1 fun y μ2 => ∃ d, y = .int d ∧ (ns = [] → Φ (.int d) μ2) ∧ ∀ m, m ∈ ns → (∀ y, y ∈ ns → y ≤ m) → Φ (.int m) μ2 := rfl
def cSortL : DC := fun xs μ Φ => ∃ ns : List Int, xs = [.lst (ns.map .int)] ∧ ns.length < 64 ∧ ∀ ns' : List Int, ns'.Perm ns → ns'.Pairwise (· ≤ ·) → Φ (.lst (ns'.map .int)) μ
theorem rcSortL : RC K (rSorted K) cSortL := fun H μ vs ds Φ Q s r q k => by
  obtain ⟨ns, rfl, hl, q⟩ := q
  obtain ⟨v, rfl, r1⟩ := reps1 r
  obtain ⟨a, us, rfl, h1, h2⟩ := Rep.lst_inv r1
  have e := reps_intsV h2
  subst e
  exact ⟨a, ns, rfl, h1.sq, hl, fun ns' p hp hs hn => k _ _ _ μ (.new hn) (s.new hn) (rep_lst s hn (reps_of_ints ns')) (q ns' hp hs)⟩
theorem w_sortL {ns : List Int} {μ : Sto} {Φ : DK} (h : ns.length < 64 ∧ ∀ ns' : List Int, ns'.Perm ns → ns'.Pairwise (· ≤ ·) → Φ (.lst (ns'.map .int)) μ) : cSortL [.lst (ns.map .int)] μ Φ := ⟨ns, rfl, h⟩
def dIdxD (φa φb : DE) : DE := fun Ψ δ μ Φ => φa Ψ δ μ fun x μ1 => ∃ ds, x = .lst ds ∧ φb Ψ δ μ1 fun y μ2 => EqSide y ∧ EqSide (.lst ds) ∧ ∃ (j : Nat) (z : D), ds[j]? = some z ∧ eqD z y = true ∧ (∀ (m : Nat) (z' : D), m < j → ds[m]? = some z' → eqD z' y = false) ∧ Φ (.int j) μ2
theorem u_idxD {φa φb : DE} {Ψ : XP} {δ : DEnv} {μ : Sto} {Φ : DK} : dIdxD φa φb Ψ δ μ Φ = φa Ψ δ μ fun x μ1 => ∃ ds, x = .lst ds ∧ φb Ψ δ μ1 fun y μ2 => EqSide y ∧ EqSide (.lst ds) ∧ ∃ (j : Nat) (z : D), ds[j]? = some z ∧ eqD z y = true ∧ (∀ (m : Nat) (z' : D), m < j → ds[m]? = some z' → eqD z' y = false) ∧ Φ (.int j) μ2 := rfl
end
end DW
set_option Elab.async false
set_option linter.all false
set_option maxRecDepth 100000
namespace LW
open PySem PySem.Spec L2 DW
/-- one more than the greatest -/
def rch (l : List Nat) : Nat := l.foldr (fun x m => max (x + 1) m) 0
theorem rch_lt : ∀ {l : List Nat} {q : Nat}, q ∈ l → q < rch l
  | a :: l, q, h => by
    show q < max (a + 1) (rch l)
    rcases List.mem_cons.mp h with e | e
    · subst e; omega
    · have := rch_lt e; omega
theorem rch_le : ∀ {l : List Nat} {m : Nat}, (∀ q ∈ l, q < m) → rch l ≤ m
  | [], m, _ => Nat.zero_le _
  | a :: l, m, h => by
    show max (a + 1) (rch l) ≤ m
    have h1 := h a List.mem_cons_self
    have h2 := rch_le fun q hq => h q (List.mem_cons_of_mem a hq)
    omega
theorem rch_max {l : List Nat} {m : Nat} (h : m ∈ l) (hm : ∀ q ∈ l, q ≤ m) : rch l = m + 1 := by
  have h1 := rch_lt h
  have h2 := rch_le (l := l) (m := m + 1) fun q hq => by have := hm q hq; omega
  omega
section
variable {ws : List Int} {oc r : Nat}
theorem IsS.p100 : ∀ (t : QT) {lo : Nat}, IsS ws oc lo t → ∀ q ∈ qPl t, q < 100 := fun t => by
  induction t using QT.ind with
  | h1 x => intro lo h q hq; simp [qPl] at hq
  | h2 p ts ih =>
    intro lo h q hq
    have hp : p < 100 := by rw [IsS] at h; exact h.2.1
    rw [qPl] at hq
    rcases List.mem_cons.mp hq with e | e
    · rw [e]; exact hp
    · obtain ⟨t, ht, hq2⟩ := qpls_mem.mp e
      exact ih t ht (h.sub ht) q hq2
/-- the settled term, and how far it looks -/
noncomputable def stl (ws : List Int) (t : QT) : QT := qSt ws 300 t
noncomputable def rc (ws : List Int) (t : QT) : Nat := rch (qPl (stl ws t))
structure Stl (ws : List Int) (oc : Nat) (ps : List Nat) (t : QT) : Prop where
  is : IsS ws oc 0 (stl ws t)
  pl : ∀ q ∈ qPl (stl ws t), q ∈ qPl t
  an : ∀ f : Nat → Nat, (∀ p, f p < wd ws p) → qA f (stl ws t) = qA f t
  ln : (qPl (stl ws t)).length ≤ 255
  dp : qDep (stl ws t) ≤ 8
  p100 : ∀ q ∈ qPl (stl ws t), q < 100
  rlt : ∀ q ∈ qPl (stl ws t), q < rc ws t
  r100 : rc ws t ≤ 100
theorem stl_of {ps : List Nat} {t : QT} (h : QFit ws oc ps t) : Stl ws oc ps t := by
  obtain ⟨a, b, c⟩ := qSt_ok (oc := oc) h.w 300 t 0 h.ok h.looks fun p _ => Nat.zero_le p
  obtain ⟨d, e⟩ := IsS.small h.w _ a h.sorted fun q hq => h.pl q (b q hq)
  have f := IsS.p100 _ a
  have := h.few
  have := h.most
  exact ⟨a, b, c, by show (qPl (qSt ws 300 t)).length ≤ _; omega, by show qDep (qSt ws 300 t) ≤ _; omega, f, fun q hq => rch_lt hq, rch_le f⟩
end
section
variable {Ψ : XP} {Φ : DK} {n : Nat} {φ : DE} {δw : DEnv} {μ1 : Sto} {θ : DT}
/-- over a list of anything -/
theorem lcM {α : Type} {l : List α} (G f : α → D) (hz : l.length ≤ 100000)
    (hs : ∀ (a : α) (μ2 : Sto) (X : DK), a ∈ l → DW.Sub μ1 μ2 → X (f a) μ2 → φ Ψ (δw.set n (some (G a))) μ2 X)
    (hd : Φ (.lst (l.map f)) μ1) : LcG (eName n) dYes φ δw Ψ (l.map G) μ1 Φ := by
  cases l with
  | nil => exact lcG_mapN (fun _ => .non) (by simp) (fun i d μ2 X hi => by simp at hi) (by simpa using hd)
  | cons a0 l0 =>
    generalize hl : a0 :: l0 = l at *
    refine lcG_mapN (fun i => f (l.getD i a0)) (by rw [List.length_map]; exact hz) (fun i d μ2 X hi hsub hx => ?_) ?_
    · rw [List.getElem?_map] at hi
      cases e : l[i]? with
      | none => rw [e] at hi; cases hi
      | some a =>
        rw [e] at hi
        cases hi
        rw [List.getD_eq_getElem?_getD, e] at hx
        exact hs a μ2 X (List.mem_of_getElem? e) hsub hx
    · have : (List.range (l.map G).length).map (fun i => f (l.getD i a0)) = l.map f := by
        apply List.ext_getElem
        · simp
        · intro i h1 h2
          simp at h1
          simp [List.getD_eq_getElem?_getD, List.getElem?_eq_getElem h1]
      rw [this]; exact hd
end
end LW
set_option Elab.async false
set_option linter.all false
set_option maxRecDepth 100000
set_option maxHeartbeats 4000000
namespace DW
open PySem PySem.Spec PyProof.Rows L2
section
variable {K : Fg} {B : Bx K} {X : Cx} {μ : Sto} {H : Hp} {Ψ : XP} {δ : DEnv} {Φ : DK}
theorem units1 {k : Nat} {A : Around} (r : Room k A) : A.units + 1 < cLine := by have := r.un; omega
abbrev dkO (ps : List (Int × Int)) : HO := .dK (ps.map fun p => (Sum.inl p.1, V.int p.2))
theorem dct_evo {a : Addr} {ps qs : List (Int × Int)} {o : HO} (h : μ a = some (.dct ps)) : Evo μ H (sset μ a (.dct qs)) (upd H a o) := .cell h fun n => n.notD h
theorem sto_dct {p : Addr} {ps : List (Int × Int)} (s : StoOk K μ H) (hp : H p = none) : StoOk K (sset μ p (.dct ps)) (upd H p (dkO ps)) := s.cell (.newC s hp) upd_same
theorem dct_upd {a : Addr} {ps qs : List (Int × Int)} (s : StoOk K μ H) (h : μ a = some (.dct ps)) : Evo μ H (sset μ a (.dct qs)) (upd H a (dkO qs)) ∧ StoOk K (sset μ a (.dct qs)) (upd H a (dkO qs)) :=
  ⟨dct_evo h, s.cell (dct_evo h) upd_same⟩
theorem putK_new {ps : List (Int × Int)} {a b : Int} (h : ∀ q ∈ ps, q.1 ≠ a) : putK (ps.map fun p => ((Sum.inl p.1 : Key), V.int p.2)) (Sum.inl a) (V.int b) = (ps ++ [(a, b)]).map fun p => ((Sum.inl p.1 : Key), V.int p.2) := by
  unfold putK
  rw [if_neg ?_, List.map_append]
  · rfl
  · rw [List.any_map, List.any_eq_true]
    rintro ⟨q, hq, e⟩
    have e := of_decide_eq_true e
    exact h q hq (Sum.inl.inj e)
theorem valV_int (ps : List (Int × Int)) (k : Int) : valV (ps.map fun p => ((Sum.inl p.1 : Key), V.int p.2)) (Sum.inl k) = (ps.lookup k).map V.int := by
  induction ps with
  | nil => rfl
  | cons p ps ih =>
    obtain ⟨a, b⟩ := p
    rw [List.map_cons, List.lookup_cons]
    by_cases c : a = k
    · subst c
      rw [valV_pos rfl]
      simp
    · rw [valV_neg (fun e => c (Sum.inl.inj e)), ih]
      have : (k == a) = false := by rw [beq_eq_false_iff_ne]; exact fun e => c e.symm
      rw [this]
/-- {k: v for target in iter}, numbers both, keys that differ -/
def dDc (ι : DI) (γ : DG) (φk φv : DE) (vs : List Nat) : DE := fun Ψ δ μ Φ => ι Ψ δ μ fun xs μ1 => ∀ p, μ1 p = none → ∃ W : Nat → Sto → Prop, W 0 (sset μ1 p (.dct [])) ∧
  (∀ i d μ2, xs[i]? = some d → W i μ2 → γ d (dwipe δ vs) μ2 fun δ3 μ3 => φk Ψ δ3 μ3 fun y μ4 => φv Ψ δ3 μ4 fun z μ5 => ∃ ps a b, y = .int a ∧ z = .int b ∧ μ5 p = some (.dct ps) ∧ ps.length ≤ 100000 ∧ (∀ q ∈ ps, q.1 ≠ a) ∧ W (i + 1) (sset μ5 p (.dct (ps ++ [(a, b)])))) ∧
  ∀ μ2, W xs.length μ2 → Φ (.hd (.ref p)) μ2
theorem sDc {wi : TI} {g : TG} {tk tv : TE} {vs : List Nat} {ι : DI} {γ : DG} {φk φv : DE} (a : SI B wi ι) (w : GW vs g) (b : ∀ H1 μ1 e, SG (B.re H1 μ1 e) g γ) (c : ∀ H1 μ1 e, SE (B.re H1 μ1 e) tk φk) (d : ∀ H1 μ1 e, SE (B.re H1 μ1 e) tv φv) :
    SE B (tDc wi g tYes tk tv vs) (dDc ι γ φk φv vs) := fun σ H δ μ Φ Q S q k =>
  a σ H δ μ _ _ S q fun xs J H1 μ1 S1 e1 it q1 => fun p hp => by
    have hμp : μ1 p = none := S1.sto.fresh hp
    obtain ⟨W, w0, ws, wd⟩ := q1 p hμp
    refine ⟨fun i m H' => m = xs.length - i ∧ i ≤ xs.length ∧ ∃ μ', Evo μ1 H1 μ' H' ∧ StoOk K μ' H' ∧ W i μ', ⟨xs.length, by simp, Nat.zero_le _, _, .newC S1.sto hp, sto_dct (ps := []) S1.sto hp, w0⟩, ?_⟩
    rintro i m H' ⟨rfl, hi, μ', e', s', wi'⟩
    by_cases hlt : i < xs.length
    · obtain ⟨hgo, hy⟩ := (it i H' μ' s' e').1 hlt
      refine .inr ⟨hgo, fun H2 => ∃ μ2, Evo μ1 H1 μ2 H2 ∧ StoOk K μ2 H2 ∧ W (i + 1) μ2, fun H2 ⟨μ2, e2, s2, w2⟩ => ⟨xs.length - (i + 1), by omega, rfl, by omega, μ2, e2, s2, w2⟩, fun x H2 y => ?_⟩
      obtain ⟨dd, hd, s2, e2, r2⟩ := hy x H2 y
      have S2 : (B.re H1 μ1 S1.evo).S (L2.wipe σ vs) H2 (dwipe δ vs) μ' := ⟨e'.trans e2, s2, ((S1.env.mono e').mono e2).wipe vs⟩
      refine w x (L2.wipe σ vs) (L2.wipe σ vs) H2 _ wipe_wipe ?_
      refine b H1 μ1 S1.evo x dd (L2.wipe σ vs) H2 (dwipe δ vs) μ' _ _ S2 r2 (ws i dd μ' hd wi') fun σ3 H3 δ3 μ3 S3 e3 q3 => ?_
      unfold tYes
      dsimp only
      rw [if_pos rfl]
      refine c H1 μ1 S1.evo σ3 H3 δ3 μ3 _ _ S3 q3 fun v4 H4 y4 μ4 S4 e4 r4 q4 => ?_
      refine d H1 μ1 S1.evo σ3 H4 δ3 μ4 _ _ S4 q4 fun v5 H5 y5 μ5 S5 e5 r5 q5 => ?_
      obtain ⟨ps, a, b, rfl, rfl, hacc, hz, hne, w5⟩ := q5
      obtain rfl := Rep.int_inv r4
      obtain rfl := Rep.int_inv r5
      obtain ⟨e7, s7⟩ := dct_upd (qs := ps ++ [(a, b)]) S5.sto hacc
      refine ⟨_, Sum.inl a, rfl, S5.sto _ _ hacc, Nat.lt_of_le_of_lt (by rw [List.length_map]; exact hz) (by decide), _, S5.evo.trans ?_, ?_, w5⟩
      · rw [putK_new hne]; exact e7
      · rw [putK_new hne]; exact s7
    · have e : i = xs.length := by omega
      subst e
      refine .inl ⟨(it _ H' μ' s' e').2 (Nat.le_refl _), ?_⟩
      exact k (.ref p) H' (.hd (.ref p)) μ' (S1.step e' s') (e1.trans e') (.hd _ .nil) (wd μ' wi')
theorem u_dc {ι : DI} {γ : DG} {φk φv : DE} {vs : List Nat} : dDc ι γ φk φv vs Ψ δ μ Φ = ι Ψ δ μ fun xs μ1 => ∀ p, μ1 p = none → ∃ W : Nat → Sto → Prop, W 0 (sset μ1 p (.dct [])) ∧
  (∀ i d μ2, xs[i]? = some d → W i μ2 → γ d (dwipe δ vs) μ2 fun δ3 μ3 => φk Ψ δ3 μ3 fun y μ4 => φv Ψ δ3 μ4 fun z μ5 => ∃ ps a b, y = .int a ∧ z = .int b ∧ μ5 p = some (.dct ps) ∧ ps.length ≤ 100000 ∧ (∀ q ∈ ps, q.1 ≠ a) ∧ W (i + 1) (sset μ5 p (.dct (ps ++ [(a, b)])))) ∧
  ∀ μ2, W xs.length μ2 → Φ (.hd (.ref p)) μ2 := rfl
/-- d.get(k, x) -/
def dGet2 (φo φk φx : DE) : DE := fun Ψ δ μ Φ => φo Ψ δ μ fun o μ1 => ∃ a ps, o = .hd (.ref a) ∧ μ1 a = some (.dct ps) ∧ φk Ψ δ μ1 fun y μ2 => φx Ψ δ μ2 fun z μ3 => ∃ qs k, y = .int k ∧ μ3 a = some (.dct qs) ∧ (∀ v, qs.lookup k = some v → Φ (.int v) μ3) ∧ (qs.lookup k = none → Φ z μ3)
theorem sGet2 {td tk tx : TE} {φo φk φx : DE} (a : SE B td φo) (b : SE B tk φk) (c : SE B tx φx) : SE B (tDGet2 td tk tx) (dGet2 φo φk φx) := fun σ H δ μ Φ Q S q k =>
  a σ H δ μ _ _ S q fun v H1 x μ1 S1 e1 r1 q1 => by
    obtain ⟨p, ps, rfl, hp, q1⟩ := q1
    obtain rfl := Rep.hd_inv r1
    refine ⟨p, rfl, .inl ⟨_, .inl (S1.sto _ _ hp)⟩, b σ H1 δ μ1 _ _ S1 q1 fun w H2 y μ2 S2 e2 r2 q2 => c σ H2 δ μ2 _ _ S2 q2 fun u H3 z μ3 S3 e3 r3 q3 => ?_⟩
    obtain ⟨qs, n, rfl, hq, qa, qb⟩ := q3
    obtain rfl := Rep.int_inv r2
    refine ⟨_, DGet.k (k := Sum.inl n) (S3.sto _ _ hq), ?_⟩
    rw [valV_int]
    cases e : qs.lookup n with
    | none => exact k _ _ _ _ S3 ((e1.trans e2).trans e3) r3 (qb e)
    | some v => exact k _ _ _ _ S3 ((e1.trans e2).trans e3) (.int _ .nil) (qa v e)
theorem u_get2 {φo φk φx : DE} : dGet2 φo φk φx Ψ δ μ Φ = φo Ψ δ μ fun o μ1 => ∃ a ps, o = .hd (.ref a) ∧ μ1 a = some (.dct ps) ∧ φk Ψ δ μ1 fun y μ2 => φx Ψ δ μ2 fun z μ3 => ∃ qs k, y = .int k ∧ μ3 a = some (.dct qs) ∧ (∀ v, qs.lookup k = some v → Φ (.int v) μ3) ∧ (qs.lookup k = none → Φ z μ3) := rfl
/-- list(d) -/
def cListD : DC := fun xs μ Φ => ∃ (a : Addr) (ps : List (Int × Int)), xs = [.hd (.ref a)] ∧ μ a = some (.dct ps) ∧ Φ (.lst ((ps.map (·.1)).map .int)) μ
theorem rcListD : RC K (fun xs H Q => ∃ (a : Addr) (kvs : List (Key × V)), xs = [.ref a] ∧ Rd H a (.dK kvs) ∧ ∀ p, H p = none → Q (.ref p) (upd H p (.lst (kvs.map fun kv => kV kv.1)))) cListD := fun H μ vs ds Φ Q s r q k => by
  obtain ⟨a, ps, rfl, hp, q⟩ := q
  obtain ⟨v, rfl, r1⟩ := reps1 r
  obtain rfl := Rep.hd_inv r1
  refine ⟨a, _, rfl, .inl (s _ _ hp), fun p hn => ?_⟩
  have e : ((ps.map fun p => ((Sum.inl p.1 : Key), V.int p.2)).map fun kv => kV kv.1) = (ps.map (·.1)).map V.int := by rw [List.map_map, List.map_map]; rfl
  rw [e]
  exact k _ _ _ μ (.new hn) (s.new hn) (rep_lst s hn (reps_of_ints _)) q
theorem w_listD {x : D} {a : Addr} {ps : List (Int × Int)} (e : x = .hd (.ref a)) (h : μ a = some (.dct ps) ∧ Φ (.lst ((ps.map (·.1)).map .int)) μ) : cListD [x] μ Φ := ⟨a, ps, by rw [e], h⟩
end
end DW
set_option Elab.async false
set_option linter.all false
set_option maxRecDepth 100000
namespace LW
open PySem PySem.Spec L2 DW
/-- the first that leads on -/
def pickP (p : Nat) : Nat → List (Option (List (Nat × Nat))) → Option (List (Nat × Nat))
  | _, [] => none
  | i, none :: l => pickP p (i + 1) l
  | i, some q :: _ => some ((p, i) :: q)
/-- the first way to an outcome -/
def pth (r : Nat) : QT → Option (List (Nat × Nat))
  | .tell o => if o = r then some [] else none
  | .look p ts => pickP p 0 (pths r ts)
where pths (r : Nat) : List QT → List (Option (List (Nat × Nat)))
  | [] => []
  | t :: ts => pth r t :: pths r ts
theorem pths_map {r : Nat} : ∀ ts : List QT, pth.pths r ts = ts.map (pth r)
  | [] => rfl
  | t :: ts => by rw [pth.pths, pths_map ts]; rfl
/-- what a way says of a place -/
def pf (path : List (Nat × Nat)) (q : Nat) : Nat := (path.lookup q).getD 0
theorem pf_cons (p x : Nat) (path : List (Nat × Nat)) : pf ((p, x) :: path) p = x := by unfold pf; rw [List.lookup_cons]; simp
theorem pf_ne {p x q : Nat} {path : List (Nat × Nat)} (h : q ≠ p) : pf ((p, x) :: path) q = pf path q := by
  unfold pf
  rw [List.lookup_cons]
  have : (q == p) = false := by rw [beq_eq_false_iff_ne]; exact h
  rw [this]
theorem pf_out {q : Nat} : ∀ {path : List (Nat × Nat)}, (∀ z ∈ path, z.1 ≠ q) → pf path q = 0
  | [], _ => rfl
  | (p, x) :: path, h => by
    rw [pf_ne (fun e => h _ List.mem_cons_self e.symm)]
    exact pf_out fun z hz => h z (List.mem_cons_of_mem _ hz)
theorem pickP_cases {p : Nat} : ∀ {L : List (Option (List (Nat × Nat)))} {i : Nat} {q : List (Nat × Nat)}, pickP p i L = some q → ∃ (x : Nat) (path : List (Nat × Nat)), L[x]? = some (some path) ∧ q = (p, i + x) :: path ∧ ∀ y, y < x → L[y]? = some none
  | [], i, q, h => by cases h
  | none :: l, i, q, h => by
    obtain ⟨x, path, h1, h2, h3⟩ := pickP_cases (L := l) (i := i + 1) h
    refine ⟨x + 1, path, by simpa using h1, by rw [h2, show i + 1 + x = i + (x + 1) by omega], fun y hy => ?_⟩
    cases y with
    | zero => rfl
    | succ y => simpa using h3 y (by omega)
  | some w :: l, i, q, h => by
    have h : some ((p, i) :: w) = some q := h
    cases h
    exact ⟨0, w, rfl, rfl, fun y hy => by omega⟩
theorem pth_keys {r : Nat} : ∀ (t : QT) (path : List (Nat × Nat)), pth r t = some path → ∀ z ∈ path, z.1 ∈ qPl t := fun t => by
  induction t using QT.ind with
  | h1 o =>
    intro path h z hz
    rw [pth] at h
    split at h
    · cases h; cases hz
    · cases h
  | h2 p ts ih =>
    intro path h z hz
    rw [pth, pths_map] at h
    obtain ⟨x, q, h1, rfl, _⟩ := pickP_cases h
    rw [List.getElem?_map] at h1
    obtain ⟨t, ht, e⟩ := Option.map_eq_some_iff.mp h1
    rw [qPl]
    rcases List.mem_cons.mp hz with e2 | e2
    · rw [e2]; exact List.mem_cons_self
    · exact List.mem_cons_of_mem _ (qpls_mem.mpr ⟨t, List.mem_of_getElem? ht, ih t (List.mem_of_getElem? ht) q e z e2⟩)
theorem pickP_some {p : Nat} {F : Nat → List (Nat × Nat) → List Nat} {G : List (Nat × Nat) → List Nat} (hG : ∀ i path, G ((p, i) :: path) = F i path) : ∀ (L : List (Option (List (Nat × Nat)))) (i : Nat),
    (List.range L.length).findSome? (fun x => (L.getD x none).map (F (i + x))) = (pickP p i L).map G
  | [], i => rfl
  | none :: l, i => by
    rw [List.length_cons, List.range_succ_eq_map, List.findSome?_cons, List.findSome?_map, pickP, ← pickP_some hG l (i + 1)]
    show (List.range l.length).findSome? _ = _
    congr 1
    funext x
    show ((l.getD x none)).map (F (i + (x + 1))) = _
    rw [show i + (x + 1) = i + 1 + x by omega]
  | some w :: l, i => by
    rw [List.length_cons, List.range_succ_eq_map, List.findSome?_cons, pickP]
    show some (F (i + 0) w) = some (G ((p, i) :: w))
    rw [hG, Nat.add_zero]
section
variable {ws : List Int} {oc r : Nat}
theorem rd_cons_ne {p q x : Nat} {ps c : List Nat} (h : q ≠ p) : rd (p :: ps) (x :: c) q = rd ps c q := by
  unfold rd
  rw [List.idxOf_cons]
  have : (p == q) = false := by rw [beq_eq_false_iff_ne]; exact Ne.symm h
  rw [this]
  rfl
theorem rd_cons {p x : Nat} {ps c : List Nat} : rd (p :: ps) (x :: c) p = x := by
  unfold rd
  rw [List.idxOf_cons]
  simp
theorem tl_skip {s : QT} {p x : Nat} {ps c : List Nat} (h : p ∉ qPl s) : tl s (p :: ps) (x :: c) = tl s ps c := qA_off s fun q hq => rd_cons_ne fun e => h (by rw [← e]; exact hq)
theorem tl_look {p x : Nat} {ts : List QT} {ps c : List Nat} {t : QT} (ht : ts[x]? = some t) (h : p ∉ qPl t) : tl (.look p ts) (p :: ps) (x :: c) = tl t ps c := by
  show qA (rd (p :: ps) (x :: c)) (.look p ts) = _
  rw [qA_look (t := t) (by rw [rd_cons]; exact ht)]
  exact tl_skip h
theorem fs_congr {α β : Type} {F G : α → Option β} : ∀ l : List α, (∀ x ∈ l, F x = G x) → l.findSome? F = l.findSome? G
  | [], _ => rfl
  | a :: l, h => by rw [List.findSome?_cons, List.findSome?_cons, h a List.mem_cons_self, fs_congr l fun x hx => h x (List.mem_cons_of_mem _ hx)]
theorem find_hs {P : List Nat → Bool} {p : Nat} {ps : List Nat} : (hs ws (p :: ps)).find? P = (List.range (wd ws p)).findSome? fun x => ((hs ws ps).find? fun c => P (x :: c)).map (x :: ·) := by
  rw [hs, List.find?_flatMap]
  congr 1
  funext x
  rw [List.find?_map]
  rfl
/-- all blocks alike -/
theorem find_same {o : Option (List Nat)} {n : Nat} (hn : 1 ≤ n) : (List.range n).findSome? (fun x => o.map (x :: ·)) = o.map (0 :: ·) := by
  obtain ⟨m, rfl⟩ : ∃ m, n = m + 1 := ⟨n - 1, by omega⟩
  rw [List.range_succ_eq_map, List.findSome?_cons]
  cases o with
  | some v => rfl
  | none =>
    show List.findSome? _ _ = none
    rw [List.findSome?_eq_none_iff]
    intro x _
    rfl
theorem map_pf_skip {p : Nat} {ps : List Nat} {path : List (Nat × Nat)} (h : ∀ z ∈ path, z.1 ≠ p) : (p :: ps).map (pf path) = 0 :: ps.map (pf path) := by rw [List.map_cons, pf_out h]
theorem map_pf_cons {p x : Nat} {ps : List Nat} {path : List (Nat × Nat)} (h : p ∉ ps) : (p :: ps).map (pf ((p, x) :: path)) = x :: ps.map (pf path) := by
  rw [List.map_cons, pf_cons]
  congr 1
  exact List.map_congr_left fun q hq => pf_ne fun e => h (by rw [← e]; exact hq)
theorem find_pth (hw : WsOk ws) : ∀ (ps : List Nat) (s : QT) (lo : Nat), IsS ws oc lo s → ps.Pairwise (· < ·) → (∀ q ∈ qPl s, q ∈ ps) → (hs ws ps).find? (fun c => decide (tl s ps c = r)) = (pth r s).map fun path => ps.map (pf path)
  | [], s, lo, h, hs', hp => by
    cases s with
    | tell o =>
      rw [hs, pth]
      by_cases e : o = r
      · rw [if_pos e]
        rw [List.find?_cons]
        have : decide (tl (.tell o) [] [] = r) = true := decide_eq_true e
        rw [this]
        rfl
      · rw [if_neg e, List.find?_cons]
        have : decide (tl (.tell o) [] [] = r) = false := decide_eq_false e
        rw [this]
        rfl
    | look p ts => exact absurd (hp p (by rw [qPl]; exact List.mem_cons_self)) (by simp)
  | p :: ps, s, lo, h, hs', hp => by
    obtain ⟨h1, h2⟩ := List.pairwise_cons.mp hs'
    have hpn : p ∉ ps := fun z => by have := h1 p z; omega
    rw [find_hs]
    have skip : p ∉ qPl s → (List.range (wd ws p)).findSome? (fun x => ((hs ws ps).find? fun c => decide (tl s (p :: ps) (x :: c) = r)).map (x :: ·)) = (pth r s).map fun path => (p :: ps).map (pf path) := fun hn => by
      have e : (fun x => ((hs ws ps).find? fun c => decide (tl s (p :: ps) (x :: c) = r)).map (x :: ·)) = fun x => ((pth r s).map fun path => ps.map (pf path)).map (x :: ·) := funext fun x => by
        congr 1
        rw [← find_pth hw ps s lo h h2 (fun q hq => by
          rcases List.mem_cons.mp (hp q hq) with z | z
          · exact absurd (by rw [← z]; exact hq) hn
          · exact z)]
        congr 1
        funext c
        rw [tl_skip hn]
      rw [e, find_same (hw.wd1 p).1, Option.map_map]
      cases e2 : pth r s with
      | none => rfl
      | some path =>
        show some (0 :: ps.map (pf path)) = some _
        exact congrArg some (map_pf_skip fun z hz e3 => hn (by rw [← e3]; exact pth_keys s path e2 z hz)).symm
    cases s with
    | tell o => exact skip (by simp [qPl])
    | look q ts =>
      by_cases e : q = p
      · subst e
        rw [pth, pths_map, ← pickP_some (F := fun x path => x :: ps.map (pf path)) (fun i path => map_pf_cons hpn), List.length_map, h.len]
        refine fs_congr _ fun x hx => ?_
        have hx' : x < ts.length := by rw [h.len]; exact List.mem_range.mp hx
        have hm := List.getElem_mem hx'
        have ho : q ∉ qPl ts[x] := sub_off h hm
        have ih := find_pth hw ps ts[x] _ (h.sub hm) h2 fun z hz => by
          rcases List.mem_cons.mp (hp z (by rw [qPl]; exact List.mem_cons_of_mem _ (qpls_mem.mpr ⟨_, hm, hz⟩))) with y | y
          · exact absurd (by rw [← y]; exact hz) ho
          · exact y
        rw [List.getD_eq_getElem?_getD, List.getElem?_map, List.getElem?_eq_getElem hx']
        show _ = (pth r ts[x]).map fun path => (0 + x) :: ps.map (pf path)
        rw [Nat.zero_add, show (fun c => decide (tl (.look q ts) (q :: ps) (x :: c) = r)) = fun c => decide (tl ts[x] ps c = r) from funext fun c => by rw [tl_look (List.getElem?_eq_getElem hx') ho], ih, Option.map_map]
        rfl
      · refine skip fun z => ?_
        have hq := hp q (by rw [qPl]; exact List.mem_cons_self)
        have h3 : IsS ws oc q (.look q ts) := by rw [IsS] at h ⊢; exact ⟨Nat.le_refl _, h.2⟩
        have h4 := IsS.pl _ h3 p z
        rcases List.mem_cons.mp hq with y | y
        · exact e y
        · have := h1 q y; omega
/-- the part behind an option, where the place is looked at -/
def pb (p x : Nat) : QT → QT
  | .tell o => .tell o
  | .look q ts => if q = p then ts.getD x (.tell 0) else .look q ts
open Classical in
noncomputable def pp (ws : List Int) : List Nat → QT → QT → Option (List (Nat × Nat))
  | [], s, u => if s = u then none else some []
  | p :: nd, s, u => if s = u then none else pickP p 0 ((List.range (wd ws p)).map fun x => pp ws nd (pb p x s) (pb p x u))
theorem pb_is {lo p x : Nat} {s : QT} (h : IsS ws oc lo s) (hx : x < wd ws p) (hl : ∀ q ∈ qPl s, p ≤ q) : IsS ws oc (p + 1) (pb p x s) ∧ (∀ q ∈ qPl (pb p x s), q ∈ qPl s ∧ q ≠ p) := by
  cases s with
  | tell o => rw [pb, IsS]; rw [IsS] at h; exact ⟨h, fun q hq => by simp [qPl] at hq⟩
  | look q ts =>
    rw [pb]
    by_cases e : q = p
    · subst e
      have hx' : x < ts.length := by rw [h.len]; exact hx
      rw [if_pos rfl, List.getD_eq_getElem?_getD, List.getElem?_eq_getElem hx']
      exact ⟨h.sub (List.getElem_mem hx'), fun z hz => ⟨by rw [qPl]; exact List.mem_cons_of_mem _ (qpls_mem.mpr ⟨_, List.getElem_mem hx', hz⟩), fun y => sub_off h (List.getElem_mem hx') (by rw [← y]; exact hz)⟩⟩
    · rw [if_neg e]
      have hq := hl q (by rw [qPl]; exact List.mem_cons_self)
      refine ⟨by rw [IsS] at h ⊢; exact ⟨by omega, h.2⟩, fun z hz => ⟨hz, fun y => ?_⟩⟩
      have h3 : IsS ws oc q (.look q ts) := by rw [IsS] at h ⊢; exact ⟨Nat.le_refl _, h.2⟩
      have := IsS.pl _ h3 z hz
      omega
theorem tl_pb {lo p x : Nat} {s : QT} {ps c : List Nat} (h : IsS ws oc lo s) (hx : x < wd ws p) (hl : ∀ q ∈ qPl s, p ≤ q) : tl s (p :: ps) (x :: c) = tl (pb p x s) ps c := by
  cases s with
  | tell o => rfl
  | look q ts =>
    rw [pb]
    by_cases e : q = p
    · subst e
      have hx' : x < ts.length := by rw [h.len]; exact hx
      rw [if_pos rfl, List.getD_eq_getElem?_getD, List.getElem?_eq_getElem hx']
      exact tl_look (List.getElem?_eq_getElem hx') (sub_off h (List.getElem_mem hx'))
    · rw [if_neg e]
      refine tl_skip fun z => ?_
      have h3 : IsS ws oc q (.look q ts) := by rw [IsS] at h ⊢; exact ⟨Nat.le_refl _, h.2⟩
      have h4 := IsS.pl _ h3 p z
      have := hl q (by rw [qPl]; exact List.mem_cons_self)
      omega
theorem pp_keys : ∀ (nd : List Nat) (s u : QT) (path : List (Nat × Nat)), pp ws nd s u = some path → ∀ z ∈ path, z.1 ∈ nd
  | [], s, u, path, h, z, hz => by
    rw [pp] at h
    split at h
    · cases h
    · cases h; cases hz
  | p :: nd, s, u, path, h, z, hz => by
    rw [pp] at h
    split at h
    · cases h
    · obtain ⟨x, q, h1, rfl, _⟩ := pickP_cases h
      rw [List.getElem?_map] at h1
      obtain ⟨y, hy, e⟩ := Option.map_eq_some_iff.mp h1
      rcases List.mem_cons.mp hz with e2 | e2
      · rw [e2]; exact List.mem_cons_self
      · exact List.mem_cons_of_mem _ (pp_keys nd _ _ q e z e2)
theorem pp_same (nd : List Nat) (s : QT) : pp ws nd s s = none := by
  cases nd with
  | nil => rw [pp, if_pos rfl]
  | cons p nd => rw [pp, if_pos rfl]
theorem find_pp (hw : WsOk ws) : ∀ (ps nd : List Nat) (s u : QT) (lo lo' : Nat), IsS ws oc lo s → IsS ws oc lo' u → ps.Pairwise (· < ·) → nd.Sublist ps → (∀ q ∈ qPl s, q ∈ nd) → (∀ q ∈ qPl u, q ∈ nd) →
    (hs ws ps).find? (fun c => decide (tl s ps c ≠ tl u ps c)) = (pp ws nd s u).map fun path => ps.map (pf path)
  | [], nd, s, u, lo, lo', h, h', hs', hn, hp, hp' => by
    obtain rfl : nd = [] := List.sublist_nil.mp hn
    cases s with
    | look p ts => exact absurd (hp p (by rw [qPl]; exact List.mem_cons_self)) (by simp)
    | tell o =>
      cases u with
      | look p ts => exact absurd (hp' p (by rw [qPl]; exact List.mem_cons_self)) (by simp)
      | tell o' =>
        rw [hs, List.find?_cons, pp]
        by_cases e : o = o'
        · subst e
          rw [if_pos rfl]
          have : decide (tl (.tell o) [] [] ≠ tl (.tell o) [] []) = false := by simp
          rw [this]
          rfl
        · rw [if_neg (fun z => e (QT.tell.inj z))]
          have : decide (tl (.tell o) [] [] ≠ tl (.tell o') [] []) = true := decide_eq_true e
          rw [this]
          rfl
  | p :: ps, nd, s, u, lo, lo', h, h', hs', hn, hp, hp' => by
    obtain ⟨h1, h2⟩ := List.pairwise_cons.mp hs'
    have hpn : p ∉ ps := fun z => by have := h1 p z; omega
    by_cases esu : s = u
    · subst esu
      rw [pp_same]
      show _ = none
      exact List.find?_eq_none.mpr fun c _ => by simp
    have pps : ∀ q ∈ nd, p ≤ q := fun q hq => by
      rcases List.mem_cons.mp (hn.subset hq) with z | z
      · omega
      · have := h1 q z; omega
    rw [find_hs]
    by_cases hin : p ∈ nd
    · obtain ⟨nd', rfl, hn'⟩ : ∃ nd', nd = p :: nd' ∧ nd'.Sublist ps := by
        cases hn with
        | cons _ h3 => exact absurd (h3.subset hin) hpn
        | cons_cons _ h3 => exact ⟨_, rfl, h3⟩
      rw [pp, if_neg esu, ← pickP_some (F := fun x path => x :: ps.map (pf path)) (fun i path => map_pf_cons hpn), List.length_map, List.length_range]
      refine fs_congr _ fun x hx => ?_
      have hx := List.mem_range.mp hx
      obtain ⟨a1, a2⟩ := pb_is h hx fun q hq => pps q (hp q hq)
      obtain ⟨b1, b2⟩ := pb_is h' hx fun q hq => pps q (hp' q hq)
      have ih := find_pp hw ps nd' (pb p x s) (pb p x u) _ _ a1 b1 h2 hn' (fun q hq => by
        rcases List.mem_cons.mp (hp q (a2 q hq).1) with z | z
        · exact absurd z (a2 q hq).2
        · exact z) fun q hq => by
        rcases List.mem_cons.mp (hp' q (b2 q hq).1) with z | z
        · exact absurd z (b2 q hq).2
        · exact z
      rw [List.getD_eq_getElem?_getD, List.getElem?_map, List.getElem?_range hx]
      show _ = (pp ws nd' (pb p x s) (pb p x u)).map fun path => (0 + x) :: ps.map (pf path)
      rw [Nat.zero_add, show (fun c => decide (tl s (p :: ps) (x :: c) ≠ tl u (p :: ps) (x :: c))) = fun c => decide (tl (pb p x s) ps c ≠ tl (pb p x u) ps c) from funext fun c => by
        rw [tl_pb h hx fun q hq => pps q (hp q hq), tl_pb h' hx fun q hq => pps q (hp' q hq)], ih, Option.map_map]
      rfl
    · have hn' : nd.Sublist ps := by
        cases hn with
        | cons _ h3 => exact h3
        | cons_cons _ h3 => exact absurd List.mem_cons_self hin
      have n1 : p ∉ qPl s := fun z => hin (hp p z)
      have n2 : p ∉ qPl u := fun z => hin (hp' p z)
      have e : (fun x => ((hs ws ps).find? fun c => decide (tl s (p :: ps) (x :: c) ≠ tl u (p :: ps) (x :: c))).map (x :: ·)) = fun x => ((pp ws nd s u).map fun path => ps.map (pf path)).map (x :: ·) := funext fun x => by
        rw [← find_pp hw ps nd s u lo lo' h h' h2 hn' hp hp']
        congr 2
        funext c
        rw [tl_skip n1, tl_skip n2]
      rw [e, find_same (hw.wd1 p).1, Option.map_map]
      cases e2 : pp ws nd s u with
      | none => rfl
      | some path => exact congrArg some (map_pf_skip fun z hz e3 => hin (by rw [← e3]; exact pp_keys nd s u path e2 z hz)).symm
end
/-- how far a row must go -/
def trm (f : Nat → Nat) : Nat → Nat
  | 0 => 0
  | n + 1 => if f n = 0 then trm f n else n + 1
theorem trm_le (f : Nat → Nat) : ∀ n, trm f n ≤ n
  | 0 => Nat.le_refl _
  | n + 1 => by
    rw [trm]
    split
    · have := trm_le f n; omega
    · omega
theorem trm_zero {f : Nat → Nat} : ∀ {n q : Nat}, trm f n ≤ q → q < n → f q = 0
  | n + 1, q, h1, h2 => by
    rw [trm] at h1
    split at h1
    · rename_i h
      by_cases e : q = n
      · rw [e]; exact h
      · exact trm_zero h1 (by omega)
    · omega
theorem trm_last {f : Nat → Nat} : ∀ {n m : Nat}, trm f n = m + 1 → f m ≠ 0
  | 0, m, h => by cases h
  | n + 1, m, h => by
    rw [trm] at h
    split at h
    · exact trm_last h
    · rename_i h2
      obtain rfl : n = m := by omega
      exact h2
theorem trm_uniq {f : Nat → Nat} {N n : Nat} (h0 : n ≤ N) (h1 : ∀ q, n ≤ q → q < N → f q = 0) (h2 : ∀ m, n = m + 1 → f m ≠ 0) : trm f N = n := by
  have l := trm_le f N
  rcases Nat.lt_trichotomy (trm f N) n with z | z | z
  · obtain ⟨m, rfl⟩ : ∃ m, n = m + 1 := ⟨n - 1, by omega⟩
    exact absurd (trm_zero (n := N) (q := m) (by omega) (by omega)) (h2 m rfl)
  · exact z
  · obtain ⟨m, e⟩ : ∃ m, trm f N = m + 1 := ⟨trm f N - 1, by omega⟩
    exact absurd (h1 m (by omega) (by omega)) (trm_last e)
def ER (f : Nat → Nat) (n : Nat) : List Nat := (List.range n).map f
/-- the head of the least row -/
def rowE (f : Nat → Nat) : List Nat := ER f (trm f 100)
theorem rowE_len (f : Nat → Nat) : (rowE f).length ≤ 100 := by
  unfold rowE ER
  rw [List.length_map, List.length_range]
  exact trm_le f 100
theorem per_one : MinPer [(0 : Int)] 1 := ⟨Nat.le_refl _, fun i => by unfold cyc; rw [show (i + 1) % [(0 : Int)].length = 0 from Nat.mod_one _, show i % [(0 : Int)].length = 0 from Nat.mod_one _], fun e h1 h2 => by omega⟩
theorem ent_row {f : Nat → Nat} {n i : Nat} : ent ⟨(ER f n).map fun (n : Nat) => (n : Int), [0]⟩ i = if i < n then (f i : Int) else 0 := by
  unfold ent ER
  have hl : (((List.range n).map f).map fun (n : Nat) => (n : Int)).length = n := by simp
  show (if i < (((List.range n).map f).map fun (n : Nat) => (n : Int)).length then _ else _) = _
  rw [hl]
  by_cases h : i < n
  · rw [if_pos h, if_pos h, List.getD_eq_getElem?_getD, List.getElem?_map, List.getElem?_map, List.getElem?_range h]
    rfl
  · rw [if_neg h, if_neg h]
    unfold cyc
    rw [show (i - n) % [(0 : Int)].length = 0 from Nat.mod_one _]
    rfl
theorem least_rowE {f : Nat → Nat} {n : Nat} (hn : n ≤ 100) (hz : ∀ q, n ≤ q → f q = 0) {a : Rw} (h : IsLeast ⟨(ER f n).map fun (n : Nat) => (n : Int), [0]⟩ a) : a = ⟨(rowE f).map fun (n : Nat) => (n : Int), [0]⟩ := by
  have hp : trm f 100 ≤ n := by
    refine Classical.byContradiction fun z => ?_
    obtain ⟨m, e⟩ : ∃ m, trm f 100 = m + 1 := ⟨trm f 100 - 1, by omega⟩
    exact trm_last e (hz m (by omega))
  have hz2 : ∀ q, trm f 100 ≤ q → f q = 0 := fun q hq => by
    by_cases c : q < 100
    · exact trm_zero hq c
    · exact hz q (by omega)
  have L := isleast_law (r := ⟨(ER f n).map fun (n : Nat) => (n : Int), [0]⟩) (d := 1) (p := trm f 100) (by simp) per_one (by simp [ER]; exact hp) (fun m h1 h2 => by
    rw [ent_row, ent_row, hz2 m h1, hz2 (m + 1) (by omega)]
    simp) fun q e => by
    rw [ent_row, ent_row, if_pos (by omega), hz2 (q + 1) (by omega)]
    have := trm_last (f := f) (n := 100) (m := q) e.symm
    split <;> omega
  rw [h.uniq L]
  unfold mkR rowE
  congr 1
  · show (List.range (trm f 100)).map (ent _) = ((List.range (trm f 100)).map f).map fun (n : Nat) => (n : Int)
    rw [List.map_map]
    refine List.map_congr_left fun i hi => ?_
    have := List.mem_range.mp hi
    rw [ent_row, if_pos (by omega)]
    rfl
  · show [ent _ (trm f 100 + 0)] = _
    rw [ent_row, hz2 _ (by omega)]
    simp
end LW
set_option Elab.async false
set_option linter.all false
set_option maxRecDepth 100000
set_option maxHeartbeats 4000000
namespace LW
open PySem PySem.Spec L2 DW PyProof.Rows
def topS (i : Nat) : Stmt := PySem.Challenge.pw_choosersrow_k42_whole_first_rows.main.body.getD i (.Pass ⟨0, 0, 0, 0⟩)
local macro_rules | `(tactic| walk_at "wp") => `(tactic| try simp only [u_maxD, u_idxD, u_dc, u_get2, u_isET, w_isET2, w_isET3, w_isET4, u_truT, u_iZ3, w_zip3E, u_lcO, u_restE, v_rng1, u_rngV, w_rngE, u_cval, w_isiO, u_par, u_iR3, u_makeSD, u_getXN, rngB_len, u_star, u_rev2L, u_callR, u_binXI, u_callX, u_getX, u_restF, u_binX, u_invX, w_neB, u_methXN, u_makeSN, u_tupR1, u_lc2, u_iZM, w_zipLT, w_zipTL, u_cntL, u_lstR1O, u_fld, w_fld, w_someE, u_setF, u_methX, w_objE, u_makeS, u_sortSet, u_lstR1, u_iZipL, u_iEnL, u_idx, u_popAt, u_cntT, u_idxT, u_callF, w_maxL, w_minL, w_ixDc, w_inDc, w_repL, w_listLs, w_tplT, w_tplP, u_isE, w_isE, u_kitER, u_kitET, u_excE, u_xf, w_xf1, u_slS, u_raise1, u_iEn, w_listStr, w_lenStr, w_catStr, w_ixStr, w_inStr, w_strE, w_strI, w_strS, u_rest, cut_to, cut_from1, Int.zero_add, u_revT, w_repT, u_tupG, u_try, u_gPlain, u_gThen, u_gNil, u_yield, u_gWhile, u_while, u_isX, u_kitR, u_kitT, u_excOk, w_zipE, u_goalX, u_lc, rngD_len, Int.toNat_natCast, u_for, u_iT, u_iL, u_iR1, u_iR2, u_iZ, u_iS, w_lstE, dwipe, u_asg, u_asgS, u_ret, u_retN, u_if, u_next, u_break, u_cont, u_drop, u_raise, u_aug, u_var, u_c, u_op, u_un, u_test, u_and, u_or, u_not, u_yes, u_andV, u_orV, u_notV, u_ifE, u_chain, u_nil, u_cons, u_tup, u_lst, u_own, u_cb, u_call, u_callS, u_name, u_etup, u_enil, u_econs, u_sub, u_app, u_slT, u_slL, u_noPart, u_part, u_revL, ex_some, w_I0, w_I, w_uI, w_int, w_bl, w_isi, w_someb, w_eqI, w_neI, w_eqS, w_neS, w_lenT, w_lenL, w_lenS, w_tupL, w_tupT, w_ixT, w_ixL, w_ixS, w_catT, w_catL, w_all, w_any, w_min2, w_divmod, w_listS, w_listL, w_listT, w_isN, w_notN, w_tupE, w_intE, w_consE, w_hdE, w_cellS, w_set, at0, at1, at2, at3, i_tT, i_tI, i_tB, i_tS, i_nT, i_nI, i_nB, i_nS, i_iT, i_iI, i_iB, i_iS, i_bT, i_bI, i_bB, i_bS, i_sT, i_sI, i_sB, i_sS, v_itemsS, w_eqB, isNone, dstart, List.map, List.length, List.replicate, List.cons_append, List.nil_append, List.append_nil, List.getElem?_cons_zero, List.getElem?_cons_succ, List.set_cons_zero, List.set_cons_succ, ix40, ix42, ix43, true_implies, false_implies, and_true, true_and, Bool.not_true, Bool.not_false, decide_eq_true_eq, decide_eq_false_iff_not, List.length_map, Nat.reduceAdd, reduceCtorEq, v_ixH, v_items, v_itemsT, v_itemsL, v_len, v_tuple, v_list, v_listOwn, sset_same, sset_sset, Option.some.injEq, Cell.lst.injEq, Cell.frz.injEq, false_and, exists_false, or_false, false_or, exists_eq_left', ne_eq, not_false_eq_true, isTup, Bool.true_eq_false, Bool.false_eq_true])
local macro_rules | `(tactic| walk_at "wps") => `(tactic| try simp only [u_seq, u_maxD, u_idxD, u_dc, u_get2, u_isET, w_isET2, w_isET3, w_isET4, u_truT, u_iZ3, w_zip3E, u_lcO, u_restE, v_rng1, u_rngV, w_rngE, u_cval, w_isiO, u_par, u_iR3, u_makeSD, u_getXN, rngB_len, u_star, u_rev2L, u_callR, u_binXI, u_callX, u_getX, u_restF, u_binX, u_invX, w_neB, u_methXN, u_makeSN, u_tupR1, u_lc2, u_iZM, w_zipLT, w_zipTL, u_cntL, u_lstR1O, u_fld, w_fld, w_someE, u_setF, u_methX, w_objE, u_makeS, u_sortSet, u_lstR1, u_iZipL, u_iEnL, u_idx, u_popAt, u_cntT, u_idxT, u_callF, w_maxL, w_minL, w_ixDc, w_inDc, w_repL, w_listLs, w_tplT, w_tplP, u_isE, w_isE, u_kitER, u_kitET, u_excE, u_xf, w_xf1, u_slS, u_raise1, u_iEn, w_listStr, w_lenStr, w_catStr, w_ixStr, w_inStr, w_strE, w_strI, w_strS, u_rest, cut_to, cut_from1, Int.zero_add, u_revT, w_repT, u_tupG, u_try, u_gPlain, u_gThen, u_gNil, u_yield, u_gWhile, u_while, u_isX, u_kitR, u_kitT, u_excOk, w_zipE, u_goalX, u_lc, rngD_len, Int.toNat_natCast, u_for, u_iT, u_iL, u_iR1, u_iR2, u_iZ, u_iS, w_lstE, dwipe, u_asg, u_asgS, u_ret, u_retN, u_if, u_next, u_break, u_cont, u_drop, u_raise, u_aug, u_var, u_c, u_op, u_un, u_test, u_and, u_or, u_not, u_yes, u_andV, u_orV, u_notV, u_ifE, u_chain, u_nil, u_cons, u_tup, u_lst, u_own, u_cb, u_call, u_callS, u_name, u_etup, u_enil, u_econs, u_sub, u_app, u_slT, u_slL, u_noPart, u_part, u_revL, ex_some, w_I0, w_I, w_uI, w_int, w_bl, w_isi, w_someb, w_eqI, w_neI, w_eqS, w_neS, w_lenT, w_lenL, w_lenS, w_tupL, w_tupT, w_ixT, w_ixL, w_ixS, w_catT, w_catL, w_all, w_any, w_min2, w_divmod, w_listS, w_listL, w_listT, w_isN, w_notN, w_tupE, w_intE, w_consE, w_hdE, w_cellS, w_set, at0, at1, at2, at3, i_tT, i_tI, i_tB, i_tS, i_nT, i_nI, i_nB, i_nS, i_iT, i_iI, i_iB, i_iS, i_bT, i_bI, i_bB, i_bS, i_sT, i_sI, i_sB, i_sS, v_itemsS, w_eqB, isNone, dstart, List.map, List.length, List.replicate, List.cons_append, List.nil_append, List.append_nil, List.getElem?_cons_zero, List.getElem?_cons_succ, List.set_cons_zero, List.set_cons_succ, ix40, ix42, ix43, true_implies, false_implies, and_true, true_and, Bool.not_true, Bool.not_false, decide_eq_true_eq, decide_eq_false_iff_not, List.length_map, Nat.reduceAdd, reduceCtorEq, v_ixH, v_items, v_itemsT, v_itemsL, v_len, v_tuple, v_list, v_listOwn, sset_same, sset_sset, Option.some.injEq, Cell.lst.injEq, Cell.frz.injEq, false_and, exists_false, or_false, false_or, exists_eq_left', ne_eq, not_false_eq_true, isTup, Bool.true_eq_false, Bool.false_eq_true])
abbrev s_is_number : Stmt := topS 16
abbrev N_is_number : List Str := ["value"]
theorem sc_is_number : FnScope N_is_number ["value"] (defScope s_is_number) := ⟨rfl, rfl, rfl, by decide +kernel, rfl, by decide +kernel, by decide +kernel⟩
abbrev s_is_below : Stmt := topS 17
abbrev N_is_below : List Str := ["value", "limit"]
theorem sc_is_below : FnScope N_is_below ["value", "limit"] (defScope s_is_below) := ⟨rfl, rfl, rfl, by decide +kernel, rfl, by decide +kernel, by decide +kernel⟩
abbrev s_count_choices : Stmt := topS 28
abbrev N_count_choices : List Str := ["widths", "many", "width"]
theorem sc_count_choices : FnScope N_count_choices ["widths"] (defScope s_count_choices) := ⟨rfl, rfl, rfl, by decide +kernel, rfl, by decide +kernel, by decide +kernel⟩
abbrev s_has_outcomes : Stmt := topS 31
abbrev N_has_outcomes : List Str := ["outcomes"]
theorem sc_has_outcomes : FnScope N_has_outcomes ["outcomes"] (defScope s_has_outcomes) := ⟨rfl, rfl, rfl, by decide +kernel, rfl, by decide +kernel, by decide +kernel⟩
abbrev s_width_at : Stmt := topS 41
abbrev N_width_at : List Str := ["widths", "place"]
theorem sc_width_at : FnScope N_width_at ["widths", "place"] (defScope s_width_at) := ⟨rfl, rfl, rfl, by decide +kernel, rfl, by decide +kernel, by decide +kernel⟩
abbrev s_terms_behind : Stmt := topS 42
abbrev N_terms_behind : List Str := ["term"]
theorem sc_terms_behind : FnScope N_terms_behind ["term"] (defScope s_terms_behind) := ⟨rfl, rfl, rfl, by decide +kernel, rfl, by decide +kernel, by decide +kernel⟩
abbrev s_are_widths : Stmt := topS 43
abbrev N_are_widths : List Str := ["widths", "width"]
theorem sc_are_widths : FnScope N_are_widths ["widths"] (defScope s_are_widths) := ⟨rfl, rfl, rfl, by decide +kernel, rfl, by decide +kernel, by decide +kernel⟩
abbrev s_require_form : Stmt := topS 44
abbrev N_require_form : List Str := ["widths", "outcomes"]
theorem sc_require_form : FnScope N_require_form ["widths", "outcomes"] (defScope s_require_form) := ⟨rfl, rfl, rfl, by decide +kernel, rfl, by decide +kernel, by decide +kernel⟩
abbrev s_has_query_form : Stmt := topS 45
abbrev N_has_query_form : List Str := ["term", "widths", "level"]
theorem sc_has_query_form : FnScope N_has_query_form ["term", "widths", "level"] (defScope s_has_query_form) := ⟨rfl, rfl, rfl, by decide +kernel, rfl, by decide +kernel, by decide +kernel⟩
abbrev s_wrong_query : Stmt := topS 46
abbrev N_wrong_query : List Str := ["term", "widths", "outcomes", "level", "index", "below", "path"]
theorem sc_wrong_query : FnScope N_wrong_query ["term", "widths", "outcomes", "level"] (defScope s_wrong_query) := ⟨rfl, rfl, rfl, by decide +kernel, rfl, by decide +kernel, by decide +kernel⟩
abbrev s_places_of : Stmt := topS 47
abbrev N_places_of : List Str := ["term", "below", "place"]
theorem sc_places_of : FnScope N_places_of ["term"] (defScope s_places_of) := ⟨rfl, rfl, rfl, by decide +kernel, rfl, by decide +kernel, by decide +kernel⟩
abbrev s_require_few : Stmt := topS 48
abbrev N_require_few : List Str := ["places", "widths", "place"]
theorem sc_require_few : FnScope N_require_few ["places", "widths"] (defScope s_require_few) := ⟨rfl, rfl, rfl, by decide +kernel, rfl, by decide +kernel, by decide +kernel⟩
abbrev s_fixed_term : Stmt := topS 50
abbrev N_fixed_term : List Str := ["term", "place", "option", "below"]
theorem sc_fixed_term : FnScope N_fixed_term ["term", "place", "option"] (defScope s_fixed_term) := ⟨rfl, rfl, rfl, by decide +kernel, rfl, by decide +kernel, by decide +kernel⟩
abbrev s_Query___init__ : Stmt := clsS (topS 56) 3
abbrev N_Query___init__ : List Str := ["self", "term", "widths", "outcomes", "path"]
theorem sc_Query___init__ : FnScope N_Query___init__ ["self", "term", "widths", "outcomes"] (defScope s_Query___init__) := ⟨rfl, rfl, rfl, by decide +kernel, rfl, by decide +kernel, by decide +kernel⟩
abbrev s_shortest_cycle : Stmt := topS 58
abbrev N_shortest_cycle : List Str := ["cycle", "length"]
theorem sc_shortest_cycle : FnScope N_shortest_cycle ["cycle"] (defScope s_shortest_cycle) := ⟨rfl, rfl, rfl, by decide +kernel, rfl, by decide +kernel, by decide +kernel⟩
abbrev s_turned_cycle : Stmt := topS 59
abbrev N_turned_cycle : List Str := ["cycle", "count", "start"]
theorem sc_turned_cycle : FnScope N_turned_cycle ["cycle", "count"] (defScope s_turned_cycle) := ⟨rfl, rfl, rfl, by decide +kernel, rfl, by decide +kernel, by decide +kernel⟩
abbrev s_count_spare : Stmt := topS 60
abbrev N_count_spare : List Str := ["head", "cycle", "spare"]
theorem sc_count_spare : FnScope N_count_spare ["head", "cycle"] (defScope s_count_spare) := ⟨rfl, rfl, rfl, by decide +kernel, rfl, by decide +kernel, by decide +kernel⟩
abbrev s_Row___init__ : Stmt := clsS (topS 61) 0
abbrev N_Row___init__ : List Str := ["self", "head", "cycle", "entry"]
theorem sc_Row___init__ : FnScope N_Row___init__ ["self", "head", "cycle"] (defScope s_Row___init__) := ⟨rfl, rfl, rfl, by decide +kernel, rfl, by decide +kernel, by decide +kernel⟩
abbrev s_Row_least : Stmt := clsS (topS 61) 4
abbrev N_Row_least : List Str := ["self", "cycle", "spare"]
theorem sc_Row_least : FnScope N_Row_least ["self"] (defScope s_Row_least) := ⟨rfl, rfl, rfl, by decide +kernel, rfl, by decide +kernel, by decide +kernel⟩
abbrev s_settled_part : Stmt := topS 64
abbrev N_settled_part : List Str := ["term", "widths", "place", "options", "parts", "option"]
theorem sc_settled_part : FnScope N_settled_part ["term", "widths"] (defScope s_settled_part) := ⟨rfl, rfl, rfl, by decide +kernel, rfl, by decide +kernel, by decide +kernel⟩
abbrev s_settled_term : Stmt := topS 63
abbrev N_settled_term : List Str := ["query"]
theorem sc_settled_term : FnScope N_settled_term ["query"] (defScope s_settled_term) := ⟨rfl, rfl, rfl, by decide +kernel, rfl, by decide +kernel, by decide +kernel⟩
abbrev s_term_reach : Stmt := topS 68
abbrev N_term_reach : List Str := ["term"]
theorem sc_term_reach : FnScope N_term_reach ["term"] (defScope s_term_reach) := ⟨rfl, rfl, rfl, by decide +kernel, rfl, by decide +kernel, by decide +kernel⟩
abbrev s_query_reach : Stmt := topS 67
abbrev N_query_reach : List Str := ["query"]
theorem sc_query_reach : FnScope N_query_reach ["query"] (defScope s_query_reach) := ⟨rfl, rfl, rfl, by decide +kernel, rfl, by decide +kernel, by decide +kernel⟩
abbrev s_require_outcome : Stmt := topS 71
abbrev N_require_outcome : List Str := ["query", "outcome"]
theorem sc_require_outcome : FnScope N_require_outcome ["query", "outcome"] (defScope s_require_outcome) := ⟨rfl, rfl, rfl, by decide +kernel, rfl, by decide +kernel, by decide +kernel⟩
abbrev s_require_same_widths : Stmt := topS 53
abbrev N_require_same_widths : List Str := ["first", "second"]
theorem sc_require_same_widths : FnScope N_require_same_widths ["first", "second"] (defScope s_require_same_widths) := ⟨rfl, rfl, rfl, by decide +kernel, rfl, by decide +kernel, by decide +kernel⟩
abbrev s_require_same_outcomes : Stmt := topS 32
abbrev N_require_same_outcomes : List Str := ["first", "others", "other"]
theorem sc_require_same_outcomes : FnScope N_require_same_outcomes ["first", "others"] (defScope s_require_same_outcomes) := ⟨rfl, rfl, rfl, by decide +kernel, rfl, by decide +kernel, by decide +kernel⟩
abbrev s_ascending : Stmt := topS 34
abbrev N_ascending : List Str := ["numbers"]
theorem sc_ascending : FnScope N_ascending ["numbers"] (defScope s_ascending) := ⟨rfl, rfl, rfl, by decide +kernel, rfl, by decide +kernel, by decide +kernel⟩
abbrev s_part_behind : Stmt := topS 65
abbrev N_part_behind : List Str := ["term", "place", "option"]
theorem sc_part_behind : FnScope N_part_behind ["term", "place", "option"] (defScope s_part_behind) := ⟨rfl, rfl, rfl, by decide +kernel, rfl, by decide +kernel, by decide +kernel⟩
abbrev s_needed_places : Stmt := topS 66
abbrev N_needed_places : List Str := ["query"]
theorem sc_needed_places : FnScope N_needed_places ["query"] (defScope s_needed_places) := ⟨rfl, rfl, rfl, by decide +kernel, rfl, by decide +kernel, by decide +kernel⟩
abbrev s_path_to : Stmt := topS 69
abbrev N_path_to : List Str := ["term", "outcomes", "option", "below", "path"]
theorem sc_path_to : FnScope N_path_to ["term", "outcomes"] (defScope s_path_to) := ⟨rfl, rfl, rfl, by decide +kernel, rfl, by decide +kernel, by decide +kernel⟩
abbrev s_first_row : Stmt := topS 70
abbrev N_first_row : List Str := ["path", "entries", "length", "place", "option"]
theorem sc_first_row : FnScope N_first_row ["path"] (defScope s_first_row) := ⟨rfl, rfl, rfl, by decide +kernel, rfl, by decide +kernel, by decide +kernel⟩
abbrev s_least_row : Stmt := topS 72
abbrev N_least_row : List Str := ["query", "outcome"]
theorem sc_least_row : FnScope N_least_row ["query", "outcome"] (defScope s_least_row) := ⟨rfl, rfl, rfl, by decide +kernel, rfl, by decide +kernel, by decide +kernel⟩
abbrev s_parting_path : Stmt := topS 74
abbrev N_parting_path : List Str := ["terms", "needed", "widths", "place", "option", "parts", "path", "term"]
theorem sc_parting_path : FnScope N_parting_path ["terms", "needed", "widths"] (defScope s_parting_path) := ⟨rfl, rfl, rfl, by decide +kernel, rfl, by decide +kernel, by decide +kernel⟩
abbrev s_parting_row : Stmt := topS 73
abbrev N_parting_row : List Str := ["first", "second", "terms", "needed", "term", "place"]
theorem sc_parting_row : FnScope N_parting_row ["first", "second"] (defScope s_parting_row) := ⟨rfl, rfl, rfl, by decide +kernel, rfl, by decide +kernel, by decide +kernel⟩
abbrev s__law_start : Stmt := topS 76
abbrev N__law_start : List Str := ["_law_script", "_law_seed", "_law_k"]
theorem sc__law_start : FnScope N__law_start ["_law_script"] (defScope s__law_start) := ⟨rfl, rfl, rfl, by decide +kernel, rfl, by decide +kernel, by decide +kernel⟩
abbrev s__law_pick : Stmt := topS 77
abbrev N__law_pick : List Str := ["_law_state", "_law_limit", "_law_cell", "_law_mixed", "_law_rest"]
theorem sc__law_pick : FnScope N__law_pick ["_law_state", "_law_limit"] (defScope s__law_pick) := ⟨rfl, rfl, rfl, by decide +kernel, rfl, by decide +kernel, by decide +kernel⟩
abbrev s__law_same : Stmt := topS 78
abbrev N__law_same : List Str := ["_law_actual", "_law_due", "_law_p"]
theorem sc__law_same : FnScope N__law_same ["_law_actual", "_law_due"] (defScope s__law_same) := ⟨rfl, rfl, rfl, by decide +kernel, rfl, by decide +kernel, by decide +kernel⟩
abbrev s__law_width : Stmt := topS 79
abbrev N__law_width : List Str := ["_law_widths_here", "_law_place"]
theorem sc__law_width : FnScope N__law_width ["_law_widths_here", "_law_place"] (defScope s__law_width) := ⟨rfl, rfl, rfl, by decide +kernel, rfl, by decide +kernel, by decide +kernel⟩
abbrev s__law_widths : Stmt := topS 80
abbrev N__law_widths : List Str := ["_law_state", "_law_top", "_law_many", "_law_k"]
theorem sc__law_widths : FnScope N__law_widths ["_law_state"] (defScope s__law_widths) := ⟨rfl, rfl, rfl, by decide +kernel, rfl, by decide +kernel, by decide +kernel⟩
abbrev s__law_look_places : Stmt := topS 81
abbrev N__law_look_places : List Str := ["_law_state", "_law_widths_here", "_law_count", "_law_most", "_law_places", "_law_many", "_law_k", "_law_place"]
theorem sc__law_look_places : FnScope N__law_look_places ["_law_state", "_law_widths_here", "_law_count", "_law_most"] (defScope s__law_look_places) := ⟨rfl, rfl, rfl, by decide +kernel, rfl, by decide +kernel, by decide +kernel⟩
abbrev s__law_query_term : Stmt := topS 82
abbrev N__law_query_term : List Str := ["_law_state", "_law_size", "_law_places", "_law_levels", "_law_place", "_law_options", "_law_x"]
theorem sc__law_query_term : FnScope N__law_query_term ["_law_state", "_law_size", "_law_places", "_law_levels"] (defScope s__law_query_term) := ⟨rfl, rfl, rfl, by decide +kernel, rfl, by decide +kernel, by decide +kernel⟩
abbrev s__law_shuffled : Stmt := topS 83
abbrev N__law_shuffled : List Str := ["_law_state", "_law_places", "_law_rest", "_law_k"]
theorem sc__law_shuffled : FnScope N__law_shuffled ["_law_state", "_law_places"] (defScope s__law_shuffled) := ⟨rfl, rfl, rfl, by decide +kernel, rfl, by decide +kernel, by decide +kernel⟩
abbrev s__law_full_query : Stmt := topS 84
abbrev N__law_full_query : List Str := ["_law_state", "_law_size", "_law_order", "_law_marked", "_law_total", "_law_place", "_law_branches", "_law_x", "_law_more"]
theorem sc__law_full_query : FnScope N__law_full_query ["_law_state", "_law_size", "_law_order", "_law_marked", "_law_total"] (defScope s__law_full_query) := ⟨rfl, rfl, rfl, by decide +kernel, rfl, by decide +kernel, by decide +kernel⟩
abbrev s__law_longer : Stmt := topS 85
abbrev N__law_longer : List Str := ["_law_heads_here", "_law_options", "_law_longer_here", "_law_head", "_law_x"]
theorem sc__law_longer : FnScope N__law_longer ["_law_heads_here", "_law_options"] (defScope s__law_longer) := ⟨rfl, rfl, rfl, by decide +kernel, rfl, by decide +kernel, by decide +kernel⟩
abbrev s__law_heads : Stmt := topS 86
abbrev N__law_heads : List Str := ["_law_widths_here", "_law_places", "_law_heads_here", "_law_place"]
theorem sc__law_heads : FnScope N__law_heads ["_law_widths_here", "_law_places"] (defScope s__law_heads) := ⟨rfl, rfl, rfl, by decide +kernel, rfl, by decide +kernel, by decide +kernel⟩
abbrev s__law_tell : Stmt := topS 87
abbrev N__law_tell : List Str := ["_law_term", "_law_places", "_law_head", "_law_k", "_law_entry"]
theorem sc__law_tell : FnScope N__law_tell ["_law_term", "_law_places", "_law_head"] (defScope s__law_tell) := ⟨rfl, rfl, rfl, by decide +kernel, rfl, by decide +kernel, by decide +kernel⟩
abbrev s__law_retold : Stmt := topS 88
abbrev N__law_retold : List Str := ["_law_size", "_law_term", "_law_order", "_law_head", "_law_place", "_law_x"]
theorem sc__law_retold : FnScope N__law_retold ["_law_size", "_law_term", "_law_order", "_law_head"] (defScope s__law_retold) := ⟨rfl, rfl, rfl, by decide +kernel, rfl, by decide +kernel, by decide +kernel⟩
abbrev s__law_changed_tell : Stmt := topS 89
abbrev N__law_changed_tell : List Str := ["_law_state", "_law_term", "_law_outcomes", "_law_x"]
theorem sc__law_changed_tell : FnScope N__law_changed_tell ["_law_state", "_law_term", "_law_outcomes"] (defScope s__law_changed_tell) := ⟨rfl, rfl, rfl, by decide +kernel, rfl, by decide +kernel, by decide +kernel⟩
abbrev s__law_first_term : Stmt := topS 90
abbrev N__law_first_term : List Str := ["_law_state", "_law_size", "_law_places", "_law_marked", "_law_place"]
theorem sc__law_first_term : FnScope N__law_first_term ["_law_state", "_law_size", "_law_places"] (defScope s__law_first_term) := ⟨rfl, rfl, rfl, by decide +kernel, rfl, by decide +kernel, by decide +kernel⟩
abbrev s__law_second_term : Stmt := topS 91
abbrev N__law_second_term : List Str := ["_law_state", "_law_size", "_law_places", "_law_first", "_law_way", "_law_order", "_law_second"]
theorem sc__law_second_term : FnScope N__law_second_term ["_law_state", "_law_size", "_law_places", "_law_first"] (defScope s__law_second_term) := ⟨rfl, rfl, rfl, by decide +kernel, rfl, by decide +kernel, by decide +kernel⟩
abbrev s__law_entries : Stmt := topS 92
abbrev N__law_entries : List Str := ["_law_places", "_law_head", "_law_entries_here", "_law_x"]
theorem sc__law_entries : FnScope N__law_entries ["_law_places", "_law_head"] (defScope s__law_entries) := ⟨rfl, rfl, rfl, by decide +kernel, rfl, by decide +kernel, by decide +kernel⟩
abbrev s__law_is_row : Stmt := topS 93
abbrev N__law_is_row : List Str := ["_law_actual", "_law_due"]
theorem sc__law_is_row : FnScope N__law_is_row ["_law_actual", "_law_due"] (defScope s__law_is_row) := ⟨rfl, rfl, rfl, by decide +kernel, rfl, by decide +kernel, by decide +kernel⟩
abbrev s__law_needed : Stmt := topS 94
abbrev N__law_needed : List Str := ["_law_widths_here", "_law_places", "_law_told", "_law_needed_here", "_law_stride", "_law_place", "_law_width_here", "_law_p"]
theorem sc__law_needed : FnScope N__law_needed ["_law_widths_here", "_law_places", "_law_told"] (defScope s__law_needed) := ⟨rfl, rfl, rfl, by decide +kernel, rfl, by decide +kernel, by decide +kernel⟩
abbrev s__law_needs : Stmt := topS 95
abbrev N__law_needs : List Str := ["_law_query", "_law_needed_here", "_law_reach"]
theorem sc__law_needs : FnScope N__law_needs ["_law_query", "_law_needed_here"] (defScope s__law_needs) := ⟨rfl, rfl, rfl, by decide +kernel, rfl, by decide +kernel, by decide +kernel⟩
abbrev s__law_least_rows : Stmt := topS 96
abbrev N__law_least_rows : List Str := ["_law_query", "_law_outcomes", "_law_places", "_law_heads_here", "_law_told", "_law_r", "_law_due"]
theorem sc__law_least_rows : FnScope N__law_least_rows ["_law_query", "_law_outcomes", "_law_places", "_law_heads_here", "_law_told"] (defScope s__law_least_rows) := ⟨rfl, rfl, rfl, by decide +kernel, rfl, by decide +kernel, by decide +kernel⟩
abbrev s__law_parts : Stmt := topS 97
abbrev N__law_parts : List Str := ["_law_first", "_law_second", "_law_places", "_law_heads_here", "_law_one", "_law_two", "_law_due", "_law_back", "_law_p"]
theorem sc__law_parts : FnScope N__law_parts ["_law_first", "_law_second", "_law_places", "_law_heads_here", "_law_one", "_law_two"] (defScope s__law_parts) := ⟨rfl, rfl, rfl, by decide +kernel, rfl, by decide +kernel, by decide +kernel⟩
abbrev s__law_ask : Stmt := topS 98
abbrev N__law_ask : List Str := ["_law_how", "_law_first", "_law_second", "_law_outcome"]
theorem sc__law_ask : FnScope N__law_ask ["_law_how", "_law_first", "_law_second", "_law_outcome"] (defScope s__law_ask) := ⟨rfl, rfl, rfl, by decide +kernel, rfl, by decide +kernel, by decide +kernel⟩
abbrev s__law_refused : Stmt := topS 99
abbrev N__law_refused : List Str := ["_law_how", "_law_first", "_law_second", "_law_outcome", "e"]
theorem sc__law_refused : FnScope N__law_refused ["_law_how", "_law_first", "_law_second", "_law_outcome"] (defScope s__law_refused) := ⟨rfl, rfl, rfl, by decide +kernel, rfl, by decide +kernel, by decide +kernel⟩
abbrev s__law_refuses : Stmt := topS 100
abbrev N__law_refuses : List Str := ["_law_state", "_law_query", "_law_widths_here", "_law_outcomes", "_law_outcome", "_law_at", "_law_moved", "_law_other", "_law_fewer", "_law_strange"]
theorem sc__law_refuses : FnScope N__law_refuses ["_law_state", "_law_query", "_law_widths_here", "_law_outcomes"] (defScope s__law_refuses) := ⟨rfl, rfl, rfl, by decide +kernel, rfl, by decide +kernel, by decide +kernel⟩
abbrev s__law_far_apart : Stmt := topS 101
abbrev N__law_far_apart : List Str := ["_law_state", "_law_widths_here", "_law_size", "_law_places", "_law_marked", "_law_terms", "_law_lot", "_law_queries", "_law_needed_here", "_law_some", "_law_both", "_law_many", "_law_place", "_law_more", "_law_heads_here", "_law_one", "_law_two", "_law_term", "_law_head"]
theorem sc__law_far_apart : FnScope N__law_far_apart ["_law_state"] (defScope s__law_far_apart) := ⟨rfl, rfl, rfl, by decide +kernel, rfl, by decide +kernel, by decide +kernel⟩
abbrev s_law : Stmt := topS 102
abbrev N_law : List Str := ["_law_script", "_law_state", "_law_widths_here", "_law_outcomes", "_law_size", "_law_places", "_law_first", "_law_second", "_law_queries", "_law_heads_here", "_law_told", "_law_turn", "_law_term", "_law_head"]
theorem sc_law : FnScope N_law ["_law_script"] (defScope s_law) := ⟨rfl, rfl, rfl, by decide +kernel, rfl, by decide +kernel, by decide +kernel⟩
set_option genInjectivity false in
structure Txt (P : Program) (w : World) (K : Fg) (mg : Str → Option Value) where
  f_is_number : Addr
  d_is_number : FuncData
  F_is_number : Fun K "is_number" "is_number" s_is_number f_is_number d_is_number
  g_is_number : mg "is_number" = some (.ref f_is_number)
  b_is_number : Binds K d_is_number ["value"] []
  f_is_below : Addr
  d_is_below : FuncData
  F_is_below : Fun K "is_below" "is_below" s_is_below f_is_below d_is_below
  g_is_below : mg "is_below" = some (.ref f_is_below)
  b_is_below : Binds K d_is_below ["value", "limit"] []
  f_count_choices : Addr
  d_count_choices : FuncData
  F_count_choices : Fun K "count_choices" "count_choices" s_count_choices f_count_choices d_count_choices
  g_count_choices : mg "count_choices" = some (.ref f_count_choices)
  b_count_choices : Binds K d_count_choices ["widths"] []
  f_has_outcomes : Addr
  d_has_outcomes : FuncData
  F_has_outcomes : Fun K "has_outcomes" "has_outcomes" s_has_outcomes f_has_outcomes d_has_outcomes
  g_has_outcomes : mg "has_outcomes" = some (.ref f_has_outcomes)
  b_has_outcomes : Binds K d_has_outcomes ["outcomes"] []
  f_width_at : Addr
  d_width_at : FuncData
  F_width_at : Fun K "width_at" "width_at" s_width_at f_width_at d_width_at
  g_width_at : mg "width_at" = some (.ref f_width_at)
  b_width_at : Binds K d_width_at ["widths", "place"] []
  f_terms_behind : Addr
  d_terms_behind : FuncData
  F_terms_behind : Fun K "terms_behind" "terms_behind" s_terms_behind f_terms_behind d_terms_behind
  g_terms_behind : mg "terms_behind" = some (.ref f_terms_behind)
  b_terms_behind : Binds K d_terms_behind ["term"] []
  f_are_widths : Addr
  d_are_widths : FuncData
  F_are_widths : Fun K "are_widths" "are_widths" s_are_widths f_are_widths d_are_widths
  g_are_widths : mg "are_widths" = some (.ref f_are_widths)
  b_are_widths : Binds K d_are_widths ["widths"] []
  f_require_form : Addr
  d_require_form : FuncData
  F_require_form : Fun K "require_form" "require_form" s_require_form f_require_form d_require_form
  g_require_form : mg "require_form" = some (.ref f_require_form)
  b_require_form : Binds K d_require_form ["widths", "outcomes"] []
  f_has_query_form : Addr
  d_has_query_form : FuncData
  F_has_query_form : Fun K "has_query_form" "has_query_form" s_has_query_form f_has_query_form d_has_query_form
  g_has_query_form : mg "has_query_form" = some (.ref f_has_query_form)
  b_has_query_form : Binds K d_has_query_form ["term", "widths", "level"] []
  f_wrong_query : Addr
  d_wrong_query : FuncData
  F_wrong_query : Fun K "wrong_query" "wrong_query" s_wrong_query f_wrong_query d_wrong_query
  g_wrong_query : mg "wrong_query" = some (.ref f_wrong_query)
  b_wrong_query : Binds K d_wrong_query ["term", "widths", "outcomes", "level"] []
  f_places_of : Addr
  d_places_of : FuncData
  F_places_of : Fun K "places_of" "places_of" s_places_of f_places_of d_places_of
  g_places_of : mg "places_of" = some (.ref f_places_of)
  b_places_of : Binds K d_places_of ["term"] []
  f_require_few : Addr
  d_require_few : FuncData
  F_require_few : Fun K "require_few" "require_few" s_require_few f_require_few d_require_few
  g_require_few : mg "require_few" = some (.ref f_require_few)
  b_require_few : Binds K d_require_few ["places", "widths"] []
  f_fixed_term : Addr
  d_fixed_term : FuncData
  F_fixed_term : Fun K "fixed_term" "fixed_term" s_fixed_term f_fixed_term d_fixed_term
  g_fixed_term : mg "fixed_term" = some (.ref f_fixed_term)
  b_fixed_term : Binds K d_fixed_term ["term", "place", "option"] []
  f_Query___init__ : Addr
  d_Query___init__ : FuncData
  F_Query___init__ : Fun K "__init__" "Query.__init__" s_Query___init__ f_Query___init__ d_Query___init__
  b_Query___init__ : Binds K d_Query___init__ ["self", "term", "widths", "outcomes"] []
  f_shortest_cycle : Addr
  d_shortest_cycle : FuncData
  F_shortest_cycle : Fun K "shortest_cycle" "shortest_cycle" s_shortest_cycle f_shortest_cycle d_shortest_cycle
  g_shortest_cycle : mg "shortest_cycle" = some (.ref f_shortest_cycle)
  b_shortest_cycle : Binds K d_shortest_cycle ["cycle"] []
  f_turned_cycle : Addr
  d_turned_cycle : FuncData
  F_turned_cycle : Fun K "turned_cycle" "turned_cycle" s_turned_cycle f_turned_cycle d_turned_cycle
  g_turned_cycle : mg "turned_cycle" = some (.ref f_turned_cycle)
  b_turned_cycle : Binds K d_turned_cycle ["cycle", "count"] []
  f_count_spare : Addr
  d_count_spare : FuncData
  F_count_spare : Fun K "count_spare" "count_spare" s_count_spare f_count_spare d_count_spare
  g_count_spare : mg "count_spare" = some (.ref f_count_spare)
  b_count_spare : Binds K d_count_spare ["head", "cycle"] []
  a_Row___init__ : Addr
  q_Row___init__ : SqTw K a_Row___init__ (([0] : List Int).map V.int)
  f_Row___init__ : Addr
  d_Row___init__ : FuncData
  F_Row___init__ : FunD K "__init__" "Row.__init__" (defArgs s_Row___init__) (defBody s_Row___init__) (defScope s_Row___init__) [V.ref a_Row___init__] [] f_Row___init__ d_Row___init__
  b_Row___init__ : Binds K d_Row___init__ ["self", "head", "cycle"] []
  bd_Row___init__ : ∃ us, Vals [V.ref a_Row___init__] us ∧ Binds K d_Row___init__ ["self", "head", "cycle"] us
  f_Row_least : Addr
  d_Row_least : FuncData
  F_Row_least : Fun K "least" "Row.least" s_Row_least f_Row_least d_Row_least
  b_Row_least : Binds K d_Row_least ["self"] []
  f_settled_part : Addr
  d_settled_part : FuncData
  F_settled_part : Fun K "settled_part" "settled_part" s_settled_part f_settled_part d_settled_part
  g_settled_part : mg "settled_part" = some (.ref f_settled_part)
  b_settled_part : Binds K d_settled_part ["term", "widths"] []
  f_settled_term : Addr
  d_settled_term : FuncData
  F_settled_term : Fun K "settled_term" "settled_term" s_settled_term f_settled_term d_settled_term
  g_settled_term : mg "settled_term" = some (.ref f_settled_term)
  b_settled_term : Binds K d_settled_term ["query"] []
  f_term_reach : Addr
  d_term_reach : FuncData
  F_term_reach : Fun K "term_reach" "term_reach" s_term_reach f_term_reach d_term_reach
  g_term_reach : mg "term_reach" = some (.ref f_term_reach)
  b_term_reach : Binds K d_term_reach ["term"] []
  f_query_reach : Addr
  d_query_reach : FuncData
  F_query_reach : Fun K "query_reach" "query_reach" s_query_reach f_query_reach d_query_reach
  g_query_reach : mg "query_reach" = some (.ref f_query_reach)
  b_query_reach : Binds K d_query_reach ["query"] []
  f_require_outcome : Addr
  d_require_outcome : FuncData
  F_require_outcome : Fun K "require_outcome" "require_outcome" s_require_outcome f_require_outcome d_require_outcome
  g_require_outcome : mg "require_outcome" = some (.ref f_require_outcome)
  b_require_outcome : Binds K d_require_outcome ["query", "outcome"] []
  f_require_same_widths : Addr
  d_require_same_widths : FuncData
  F_require_same_widths : Fun K "require_same_widths" "require_same_widths" s_require_same_widths f_require_same_widths d_require_same_widths
  g_require_same_widths : mg "require_same_widths" = some (.ref f_require_same_widths)
  b_require_same_widths : Binds K d_require_same_widths ["first", "second"] []
  f_require_same_outcomes : Addr
  d_require_same_outcomes : FuncData
  F_require_same_outcomes : Fun K "require_same_outcomes" "require_same_outcomes" s_require_same_outcomes f_require_same_outcomes d_require_same_outcomes
  g_require_same_outcomes : mg "require_same_outcomes" = some (.ref f_require_same_outcomes)
  b_require_same_outcomes : Binds K d_require_same_outcomes ["first", "others"] []
  f_ascending : Addr
  d_ascending : FuncData
  F_ascending : Fun K "ascending" "ascending" s_ascending f_ascending d_ascending
  g_ascending : mg "ascending" = some (.ref f_ascending)
  b_ascending : Binds K d_ascending ["numbers"] []
  f_part_behind : Addr
  d_part_behind : FuncData
  F_part_behind : Fun K "part_behind" "part_behind" s_part_behind f_part_behind d_part_behind
  g_part_behind : mg "part_behind" = some (.ref f_part_behind)
  b_part_behind : Binds K d_part_behind ["term", "place", "option"] []
  f_needed_places : Addr
  d_needed_places : FuncData
  F_needed_places : Fun K "needed_places" "needed_places" s_needed_places f_needed_places d_needed_places
  g_needed_places : mg "needed_places" = some (.ref f_needed_places)
  b_needed_places : Binds K d_needed_places ["query"] []
  f_path_to : Addr
  d_path_to : FuncData
  F_path_to : Fun K "path_to" "path_to" s_path_to f_path_to d_path_to
  g_path_to : mg "path_to" = some (.ref f_path_to)
  b_path_to : Binds K d_path_to ["term", "outcomes"] []
  f_first_row : Addr
  d_first_row : FuncData
  F_first_row : Fun K "first_row" "first_row" s_first_row f_first_row d_first_row
  g_first_row : mg "first_row" = some (.ref f_first_row)
  b_first_row : Binds K d_first_row ["path"] []
  f_least_row : Addr
  d_least_row : FuncData
  F_least_row : Fun K "least_row" "least_row" s_least_row f_least_row d_least_row
  g_least_row : mg "least_row" = some (.ref f_least_row)
  b_least_row : Binds K d_least_row ["query", "outcome"] []
  f_parting_path : Addr
  d_parting_path : FuncData
  F_parting_path : Fun K "parting_path" "parting_path" s_parting_path f_parting_path d_parting_path
  g_parting_path : mg "parting_path" = some (.ref f_parting_path)
  b_parting_path : Binds K d_parting_path ["terms", "needed", "widths"] []
  f_parting_row : Addr
  d_parting_row : FuncData
  F_parting_row : Fun K "parting_row" "parting_row" s_parting_row f_parting_row d_parting_row
  g_parting_row : mg "parting_row" = some (.ref f_parting_row)
  b_parting_row : Binds K d_parting_row ["first", "second"] []
  f__law_start : Addr
  d__law_start : FuncData
  F__law_start : Fun K "_law_start" "_law_start" s__law_start f__law_start d__law_start
  g__law_start : mg "_law_start" = some (.ref f__law_start)
  b__law_start : Binds K d__law_start ["_law_script"] []
  f__law_pick : Addr
  d__law_pick : FuncData
  F__law_pick : Fun K "_law_pick" "_law_pick" s__law_pick f__law_pick d__law_pick
  g__law_pick : mg "_law_pick" = some (.ref f__law_pick)
  b__law_pick : Binds K d__law_pick ["_law_state", "_law_limit"] []
  f__law_same : Addr
  d__law_same : FuncData
  F__law_same : Fun K "_law_same" "_law_same" s__law_same f__law_same d__law_same
  g__law_same : mg "_law_same" = some (.ref f__law_same)
  b__law_same : Binds K d__law_same ["_law_actual", "_law_due"] []
  f__law_width : Addr
  d__law_width : FuncData
  F__law_width : Fun K "_law_width" "_law_width" s__law_width f__law_width d__law_width
  g__law_width : mg "_law_width" = some (.ref f__law_width)
  b__law_width : Binds K d__law_width ["_law_widths_here", "_law_place"] []
  f__law_widths : Addr
  d__law_widths : FuncData
  F__law_widths : Fun K "_law_widths" "_law_widths" s__law_widths f__law_widths d__law_widths
  g__law_widths : mg "_law_widths" = some (.ref f__law_widths)
  b__law_widths : Binds K d__law_widths ["_law_state"] []
  f__law_look_places : Addr
  d__law_look_places : FuncData
  F__law_look_places : Fun K "_law_look_places" "_law_look_places" s__law_look_places f__law_look_places d__law_look_places
  g__law_look_places : mg "_law_look_places" = some (.ref f__law_look_places)
  b__law_look_places : Binds K d__law_look_places ["_law_state", "_law_widths_here", "_law_count", "_law_most"] []
  f__law_query_term : Addr
  d__law_query_term : FuncData
  F__law_query_term : Fun K "_law_query_term" "_law_query_term" s__law_query_term f__law_query_term d__law_query_term
  g__law_query_term : mg "_law_query_term" = some (.ref f__law_query_term)
  b__law_query_term : Binds K d__law_query_term ["_law_state", "_law_size", "_law_places", "_law_levels"] []
  f__law_shuffled : Addr
  d__law_shuffled : FuncData
  F__law_shuffled : Fun K "_law_shuffled" "_law_shuffled" s__law_shuffled f__law_shuffled d__law_shuffled
  g__law_shuffled : mg "_law_shuffled" = some (.ref f__law_shuffled)
  b__law_shuffled : Binds K d__law_shuffled ["_law_state", "_law_places"] []
  f__law_full_query : Addr
  d__law_full_query : FuncData
  F__law_full_query : Fun K "_law_full_query" "_law_full_query" s__law_full_query f__law_full_query d__law_full_query
  g__law_full_query : mg "_law_full_query" = some (.ref f__law_full_query)
  b__law_full_query : Binds K d__law_full_query ["_law_state", "_law_size", "_law_order", "_law_marked", "_law_total"] []
  f__law_longer : Addr
  d__law_longer : FuncData
  F__law_longer : Fun K "_law_longer" "_law_longer" s__law_longer f__law_longer d__law_longer
  g__law_longer : mg "_law_longer" = some (.ref f__law_longer)
  b__law_longer : Binds K d__law_longer ["_law_heads_here", "_law_options"] []
  f__law_heads : Addr
  d__law_heads : FuncData
  F__law_heads : Fun K "_law_heads" "_law_heads" s__law_heads f__law_heads d__law_heads
  g__law_heads : mg "_law_heads" = some (.ref f__law_heads)
  b__law_heads : Binds K d__law_heads ["_law_widths_here", "_law_places"] []
  f__law_tell : Addr
  d__law_tell : FuncData
  F__law_tell : Fun K "_law_tell" "_law_tell" s__law_tell f__law_tell d__law_tell
  g__law_tell : mg "_law_tell" = some (.ref f__law_tell)
  b__law_tell : Binds K d__law_tell ["_law_term", "_law_places", "_law_head"] []
  f__law_retold : Addr
  d__law_retold : FuncData
  F__law_retold : Fun K "_law_retold" "_law_retold" s__law_retold f__law_retold d__law_retold
  g__law_retold : mg "_law_retold" = some (.ref f__law_retold)
  b__law_retold : Binds K d__law_retold ["_law_size", "_law_term", "_law_order", "_law_head"] []
  f__law_changed_tell : Addr
  d__law_changed_tell : FuncData
  F__law_changed_tell : Fun K "_law_changed_tell" "_law_changed_tell" s__law_changed_tell f__law_changed_tell d__law_changed_tell
  g__law_changed_tell : mg "_law_changed_tell" = some (.ref f__law_changed_tell)
  b__law_changed_tell : Binds K d__law_changed_tell ["_law_state", "_law_term", "_law_outcomes"] []
  f__law_first_term : Addr
  d__law_first_term : FuncData
  F__law_first_term : Fun K "_law_first_term" "_law_first_term" s__law_first_term f__law_first_term d__law_first_term
  g__law_first_term : mg "_law_first_term" = some (.ref f__law_first_term)
  b__law_first_term : Binds K d__law_first_term ["_law_state", "_law_size", "_law_places"] []
  f__law_second_term : Addr
  d__law_second_term : FuncData
  F__law_second_term : Fun K "_law_second_term" "_law_second_term" s__law_second_term f__law_second_term d__law_second_term
  g__law_second_term : mg "_law_second_term" = some (.ref f__law_second_term)
  b__law_second_term : Binds K d__law_second_term ["_law_state", "_law_size", "_law_places", "_law_first"] []
  f__law_entries : Addr
  d__law_entries : FuncData
  F__law_entries : Fun K "_law_entries" "_law_entries" s__law_entries f__law_entries d__law_entries
  g__law_entries : mg "_law_entries" = some (.ref f__law_entries)
  b__law_entries : Binds K d__law_entries ["_law_places", "_law_head"] []
  f__law_is_row : Addr
  d__law_is_row : FuncData
  F__law_is_row : Fun K "_law_is_row" "_law_is_row" s__law_is_row f__law_is_row d__law_is_row
  g__law_is_row : mg "_law_is_row" = some (.ref f__law_is_row)
  b__law_is_row : Binds K d__law_is_row ["_law_actual", "_law_due"] []
  f__law_needed : Addr
  d__law_needed : FuncData
  F__law_needed : Fun K "_law_needed" "_law_needed" s__law_needed f__law_needed d__law_needed
  g__law_needed : mg "_law_needed" = some (.ref f__law_needed)
  b__law_needed : Binds K d__law_needed ["_law_widths_here", "_law_places", "_law_told"] []
  f__law_needs : Addr
  d__law_needs : FuncData
  F__law_needs : Fun K "_law_needs" "_law_needs" s__law_needs f__law_needs d__law_needs
  g__law_needs : mg "_law_needs" = some (.ref f__law_needs)
  b__law_needs : Binds K d__law_needs ["_law_query", "_law_needed_here"] []
  f__law_least_rows : Addr
  d__law_least_rows : FuncData
  F__law_least_rows : Fun K "_law_least_rows" "_law_least_rows" s__law_least_rows f__law_least_rows d__law_least_rows
  g__law_least_rows : mg "_law_least_rows" = some (.ref f__law_least_rows)
  b__law_least_rows : Binds K d__law_least_rows ["_law_query", "_law_outcomes", "_law_places", "_law_heads_here", "_law_told"] []
  f__law_parts : Addr
  d__law_parts : FuncData
  F__law_parts : Fun K "_law_parts" "_law_parts" s__law_parts f__law_parts d__law_parts
  g__law_parts : mg "_law_parts" = some (.ref f__law_parts)
  b__law_parts : Binds K d__law_parts ["_law_first", "_law_second", "_law_places", "_law_heads_here", "_law_one", "_law_two"] []
  f__law_ask : Addr
  d__law_ask : FuncData
  F__law_ask : Fun K "_law_ask" "_law_ask" s__law_ask f__law_ask d__law_ask
  g__law_ask : mg "_law_ask" = some (.ref f__law_ask)
  b__law_ask : Binds K d__law_ask ["_law_how", "_law_first", "_law_second", "_law_outcome"] []
  f__law_refused : Addr
  d__law_refused : FuncData
  F__law_refused : Fun K "_law_refused" "_law_refused" s__law_refused f__law_refused d__law_refused
  g__law_refused : mg "_law_refused" = some (.ref f__law_refused)
  b__law_refused : Binds K d__law_refused ["_law_how", "_law_first", "_law_second", "_law_outcome"] []
  f__law_refuses : Addr
  d__law_refuses : FuncData
  F__law_refuses : Fun K "_law_refuses" "_law_refuses" s__law_refuses f__law_refuses d__law_refuses
  g__law_refuses : mg "_law_refuses" = some (.ref f__law_refuses)
  b__law_refuses : Binds K d__law_refuses ["_law_state", "_law_query", "_law_widths_here", "_law_outcomes"] []
  f__law_far_apart : Addr
  d__law_far_apart : FuncData
  F__law_far_apart : Fun K "_law_far_apart" "_law_far_apart" s__law_far_apart f__law_far_apart d__law_far_apart
  g__law_far_apart : mg "_law_far_apart" = some (.ref f__law_far_apart)
  b__law_far_apart : Binds K d__law_far_apart ["_law_state"] []
  f_law : Addr
  d_law : FuncData
  F_law : Fun K "law" "law" s_law f_law d_law
  g_law : mg "law" = some (.ref f_law)
  b_law : Binds K d_law ["_law_script"] []
  z_isinstance : mg "isinstance" = none
  z_int : mg "int" = none
  z_bool : mg "bool" = none
  z_all : mg "all" = none
  z_str : mg "str" = none
  z_len : mg "len" = none
  z_enumerate : mg "enumerate" = none
  z_tuple : mg "tuple" = none
  z_sorted : mg "sorted" = none
  z_set : mg "set" = none
  z_min : mg "min" = none
  z_range : mg "range" = none
  z_max : mg "max" = none
  z_list : mg "list" = none
  z_any : mg "any" = none
  z_ValueError : mg "ValueError" = none
  g_LETTERS : ∃ t, mg "LETTERS" = some (.str "abcdefghijklmnopqrstuvwxyz" t)
  g_DIGITS : ∃ t, mg "DIGITS" = some (.str "0123456789" t)
  g_LONGEST_WORD : ∃ t, mg "LONGEST_WORD" = some (.int 12 t)
  g_LONGEST_NUMBER : ∃ t, mg "LONGEST_NUMBER" = some (.int 9 t)
  g_NUMBERS_END : ∃ t, mg "NUMBERS_END" = some (.int 1000000000 t)
  g_DEEPEST_TUPLE : ∃ t, mg "DEEPEST_TUPLE" = some (.int 30 t)
  g_MOST_OUTCOMES : ∃ t, mg "MOST_OUTCOMES" = some (.int 4 t)
  g_MOST_WIDTHS : ∃ t, mg "MOST_WIDTHS" = some (.int 6 t)
  g_WIDEST : ∃ t, mg "WIDEST" = some (.int 4 t)
  g_PLACES : ∃ t, mg "PLACES" = some (.int 100 t)
  g_ITEMS_BEFORE : ∃ t, mg "ITEMS_BEFORE" = some (.int 2 t)
  g_TWO_OUTCOMES : ∃ t, mg "TWO_OUTCOMES" = some (.int 2 t)
  c_OutOfRange : Addr
  g_OutOfRange : mg "OutOfRange" = some (.ref c_OutOfRange)
  c_TooLarge : Addr
  g_TooLarge : mg "TooLarge" = some (.ref c_TooLarge)
  c_InvalidQuery : Addr
  g_InvalidQuery : mg "InvalidQuery" = some (.ref c_InvalidQuery)
  c_SizeMismatch : Addr
  g_SizeMismatch : mg "SizeMismatch" = some (.ref c_SizeMismatch)
  c_InvalidTerm : Addr
  g_InvalidTerm : mg "InvalidTerm" = some (.ref c_InvalidTerm)
  c_ChoosersError : Addr
  g_ChoosersError : mg "ChoosersError" = some (.ref c_ChoosersError)
  fi_InvalidQuery : Addr
  di_InvalidQuery : FuncData
  ox_InvalidQuery : OexC K c_InvalidQuery
  ic_InvalidQuery : PySem.W.findIn K (.ref c_InvalidQuery) "__init__" = some (some (.ref fi_InvalidQuery))
  ti_InvalidQuery : PySem.W.typeIn K (.ref fi_InvalidQuery) = some (.type "function")
  no_InvalidQuery : PySem.W.findIn K (.ref c_InvalidQuery) "path" = some none
  xf_InvalidQuery : XfC K c_InvalidQuery
  ec_InvalidQuery : L2.ExcC K c_InvalidQuery
  in_InvalidQuery : ∀ {w : World} {base : Heap} {cx : CXT}, FnOk P w K mg base cx 1 fi_InvalidQuery di_InvalidQuery ["self", "path"] (spInit K c_InvalidQuery "path" (okPath K))
  bi_InvalidQuery : Binds K di_InvalidQuery ["self", "path"] []
  i_InvalidQuery_InvalidTerm : PySem.W.kitOne K (.ref c_InvalidQuery) (.ref c_InvalidTerm) = some true
  i_InvalidQuery_ValueError : PySem.W.kitOne K (.ref c_InvalidQuery) (.type "ValueError") = some true
  i_InvalidQuery_OutOfRange : PySem.W.kitOne K (.ref c_InvalidQuery) (.ref c_OutOfRange) = some false
  i_InvalidQuery_SizeMismatch : PySem.W.kitOne K (.ref c_InvalidQuery) (.ref c_SizeMismatch) = some false
  i_InvalidQuery_TooLarge : PySem.W.kitOne K (.ref c_InvalidQuery) (.ref c_TooLarge) = some false
  m_InvalidQuery_ChoosersError : PySem.W.exmOne K (.ref c_InvalidQuery) (.ref c_ChoosersError) = some true
  x_OutOfRange : PySem.W.excIn K c_OutOfRange [.type "ValueError", .type "Exception", .type "BaseException", .type "object"] "ValueError.__new__" = true
  k_OutOfRange : PySem.W.keepIn K (.ref c_OutOfRange) = true
  e_OutOfRange : PySem.W.subIn K (.ref c_OutOfRange) (.type "BaseException") = some true
  t_OutOfRange : PySem.W.typeIn K (.ref c_OutOfRange) = some (.type "type")
  ec_OutOfRange : L2.ExcC K c_OutOfRange
  i_OutOfRange_InvalidTerm : PySem.W.kitOne K (.ref c_OutOfRange) (.ref c_InvalidTerm) = some false
  i_OutOfRange_ValueError : PySem.W.kitOne K (.ref c_OutOfRange) (.type "ValueError") = some true
  i_OutOfRange_OutOfRange : PySem.W.kitOne K (.ref c_OutOfRange) (.ref c_OutOfRange) = some true
  i_OutOfRange_SizeMismatch : PySem.W.kitOne K (.ref c_OutOfRange) (.ref c_SizeMismatch) = some false
  i_OutOfRange_TooLarge : PySem.W.kitOne K (.ref c_OutOfRange) (.ref c_TooLarge) = some false
  m_OutOfRange_ChoosersError : PySem.W.exmOne K (.ref c_OutOfRange) (.ref c_ChoosersError) = some true
  x_TooLarge : PySem.W.excIn K c_TooLarge [.type "ValueError", .type "Exception", .type "BaseException", .type "object"] "ValueError.__new__" = true
  k_TooLarge : PySem.W.keepIn K (.ref c_TooLarge) = true
  e_TooLarge : PySem.W.subIn K (.ref c_TooLarge) (.type "BaseException") = some true
  t_TooLarge : PySem.W.typeIn K (.ref c_TooLarge) = some (.type "type")
  ec_TooLarge : L2.ExcC K c_TooLarge
  i_TooLarge_InvalidTerm : PySem.W.kitOne K (.ref c_TooLarge) (.ref c_InvalidTerm) = some false
  i_TooLarge_ValueError : PySem.W.kitOne K (.ref c_TooLarge) (.type "ValueError") = some true
  i_TooLarge_OutOfRange : PySem.W.kitOne K (.ref c_TooLarge) (.ref c_OutOfRange) = some false
  i_TooLarge_SizeMismatch : PySem.W.kitOne K (.ref c_TooLarge) (.ref c_SizeMismatch) = some false
  i_TooLarge_TooLarge : PySem.W.kitOne K (.ref c_TooLarge) (.ref c_TooLarge) = some true
  m_TooLarge_ChoosersError : PySem.W.exmOne K (.ref c_TooLarge) (.ref c_ChoosersError) = some true
  x_SizeMismatch : PySem.W.excIn K c_SizeMismatch [.type "ValueError", .type "Exception", .type "BaseException", .type "object"] "ValueError.__new__" = true
  k_SizeMismatch : PySem.W.keepIn K (.ref c_SizeMismatch) = true
  e_SizeMismatch : PySem.W.subIn K (.ref c_SizeMismatch) (.type "BaseException") = some true
  t_SizeMismatch : PySem.W.typeIn K (.ref c_SizeMismatch) = some (.type "type")
  ec_SizeMismatch : L2.ExcC K c_SizeMismatch
  i_SizeMismatch_InvalidTerm : PySem.W.kitOne K (.ref c_SizeMismatch) (.ref c_InvalidTerm) = some false
  i_SizeMismatch_ValueError : PySem.W.kitOne K (.ref c_SizeMismatch) (.type "ValueError") = some true
  i_SizeMismatch_OutOfRange : PySem.W.kitOne K (.ref c_SizeMismatch) (.ref c_OutOfRange) = some false
  i_SizeMismatch_SizeMismatch : PySem.W.kitOne K (.ref c_SizeMismatch) (.ref c_SizeMismatch) = some true
  i_SizeMismatch_TooLarge : PySem.W.kitOne K (.ref c_SizeMismatch) (.ref c_TooLarge) = some false
  m_SizeMismatch_ChoosersError : PySem.W.exmOne K (.ref c_SizeMismatch) (.ref c_ChoosersError) = some true
  c_Query : Addr
  g_Query : mg "Query" = some (.ref c_Query)
  mk_Query : Mk K c_Query f_Query___init__
  cls_Query : Cls K c_Query
  na_Query_term : NoAttr K c_Query "term"
  na_Query_widths : NoAttr K c_Query "widths"
  na_Query_outcomes : NoAttr K c_Query "outcomes"
  mc_Query : Value
  rd_Query : ClX.CRead K c_Query mc_Query
  cv_Query_MOST_LEVELS : ∃ t, ClX.CVal K c_Query mc_Query "MOST_LEVELS" (.int 20) (.int 20 t)
  cv_Query_MOST_LOOKS : ∃ t, ClX.CVal K c_Query mc_Query "MOST_LOOKS" (.int 300) (.int 300 t)
  cv_Query_MOST_CHOICES : ∃ t, ClX.CVal K c_Query mc_Query "MOST_CHOICES" (.int 256) (.int 256 t)
  c_Row : Addr
  g_Row : mg "Row" = some (.ref c_Row)
  mk_Row : Mk K c_Row f_Row___init__
  cls_Row : Cls K c_Row
  ki_Row : IsO K c_Row
  na_Row_head : NoAttr K c_Row "head"
  na_Row_cycle : NoAttr K c_Row "cycle"
  me_Row_least : Meth K c_Row "least" f_Row_least
end LW
set_option Elab.async false
set_option linter.all false
set_option maxRecDepth 100000
namespace HX
open PySem PySem.Spec PyProof.Rows L2 DW
abbrev FnI := Option (Str × Str × Arguments × FuncBody × Scope × Addr × List Str × Addr)
def fnI (K : PySem.W.Frag) (a : Addr) : FnI :=
  match List.lookup a K with
  | some ⟨_, _, .func fd, _⟩ => some (fd.name, fd.qualname, fd.params, fd.body, fd.scope, fd.globals, fd.closure.map (·.1), fd.builtins)
  | _ => none
def vI (x q : Str) (st : Stmt) (cl : List Str) : FnI := some (x, q, defArgs st, .stmts (defBody st), defScope st, mainGlobals, cl, builtinsNs)
theorem fn_at {K : PySem.W.Frag} {ats : List (PySem.W.Frag → Addr)} {vals : List FnI} (h : (ats.map fun f => fnI K (f K)) = vals) (i : Nat) {f : PySem.W.Frag → Addr} {v : FnI} (h1 : ats[i]? = some f := by rfl) (h2 : vals[i]? = some v := by rfl) : fnI K (f K) = v := by
  have : (ats.map fun f => fnI K (f K))[i]? = some (fnI K (f K)) := by rw [List.getElem?_map, h1]; rfl
  rw [h, h2] at this
  exact (Option.some.inj this).symm
/-- a def without a cell -/
def fnB (K : PySem.W.Frag) (a : Addr) (q : Str) (dvs : List V) : Bool :=
  PySem.W.keepIn K (.ref a) &&
    match List.lookup a K with
    | some ⟨_, _, .func fd, _⟩ => PySem.W.codeIn K fd.code q && He.dflB K fd.defaults dvs
    | _ => false
theorem funD_of {K : PySem.W.Frag} {a : Addr} {x q : Str} {st : Stmt} {dvs : List V} (h : fnI K a = vI x q st []) (c : fnB K a q dvs = true) : ∃ fd, FunD K x q (defArgs st) (defBody st) (defScope st) dvs [] a fd := by
  unfold fnI at h
  unfold fnB at c
  obtain ⟨kp, c⟩ := He.ba c
  split at h
  · rename_i oc od fd osl e
    rw [e] at c
    obtain ⟨c1, c2⟩ := He.ba c
    obtain ⟨n1, n2, n3, n4, n5, n6, n7, n8, n9, n10, n11, n12, n13, n14, n15⟩ := fd
    unfold vI at h
    simp only [Option.some.injEq, Prod.mk.injEq, List.map_eq_nil_iff] at h
    obtain ⟨rfl, rfl, rfl, rfl, rfl, rfl, rfl, rfl⟩ := h
    exact ⟨_, ⟨_, _, _, _, _, _, _, _, _, _, rfl, e, c1, He.dflB_ok c2, .inl rfl⟩, kp⟩
  · unfold vI at h; cases h
theorem fun_of {K : PySem.W.Frag} {a : Addr} {x q : Str} {st : Stmt} (h : fnI K a = vI x q st []) (c : fnB K a q [] = true) : ∃ fd, Fun K x q st a fd := by
  unfold fnI at h
  unfold fnB at c
  obtain ⟨kp, c⟩ := He.ba c
  split at h
  · rename_i oc od fd osl e
    rw [e] at c
    obtain ⟨c1, c2⟩ := He.ba c
    obtain ⟨n1, n2, n3, n4, n5, n6, n7, n8, n9, n10, n11, n12, n13, n14, n15⟩ := fd
    unfold vI at h
    simp only [Option.some.injEq, Prod.mk.injEq, List.map_eq_nil_iff] at h
    obtain ⟨rfl, rfl, rfl, rfl, rfl, rfl, rfl, rfl⟩ := h
    have e2 : n8 = Value.none := by
      rcases He.dflB_ok c2 with ⟨_, z⟩ | ⟨z, _⟩
      · exact z
      · exact absurd rfl z
    subst e2
    exact ⟨_, ⟨_, _, _, _, _, _, _, _, _, rfl, e, c1⟩, kp⟩
  · unfold vI at h; cases h
def intB (K : PySem.W.Frag) (x : Str) (i : Int) : Bool := match PySem.W.nsIn K mainGlobals x with
  | some (some (.int j _)) => decide (j = i)
  | _ => false
theorem intB_ok {K : PySem.W.Frag} {x : Str} {i : Int} (h : intB K x i = true) : ∃ t, PySem.W.nsIn K mainGlobals x = some (some (.int i t)) := by
  unfold intB at h
  split at h
  · rename_i j t e; exact ⟨t, by rw [e, of_decide_eq_true h]⟩
  · cases h
def strB (K : PySem.W.Frag) (x z : Str) : Bool := match PySem.W.nsIn K mainGlobals x with
  | some (some (.str y _)) => decide (y = z)
  | _ => false
theorem strB_ok {K : PySem.W.Frag} {x z : Str} (h : strB K x z = true) : ∃ t, PySem.W.nsIn K mainGlobals x = some (some (.str z t)) := by
  unfold strB at h
  split at h
  · rename_i j t e; exact ⟨t, by rw [e, of_decide_eq_true h]⟩
  · cases h
/-- a constant of a class -/
def cvB (K : PySem.W.Frag) (C : Addr) (y : Str) (i : Int) : Bool := match PySem.W.findCls K (.ref C) (.type "type") y with
  | some (.val (.int j _)) => decide (j = i)
  | _ => false
theorem cvB_ok {K : PySem.W.Frag} {C : Addr} {y : Str} {i : Int} (h : cvB K C y i = true) : ∃ t, PySem.W.findCls K (.ref C) (.type "type") y = some (.val (.int i t)) := by
  unfold cvB at h
  split at h
  · rename_i j t e; exact ⟨t, by rw [e, of_decide_eq_true h]⟩
  · cases h
def tupB (K : PySem.W.Frag) (a : Addr) (xs : List V) : Bool := match List.lookup a K with
  | some ⟨c, none, .seq its _, _⟩ => decide (c = .type "tuple") && (decide (its.size ≤ sizeLine) && He.relAll xs its.toList)
  | _ => false
theorem tupB_ok {K : PySem.W.Frag} {a : Addr} {xs : List V} (h : tupB K a xs = true) : SqTw K a xs := by
  unfold tupB at h
  split at h
  · rename_i c its n sl e
    obtain ⟨h1, h⟩ := He.ba h
    obtain ⟨h2, h⟩ := He.ba h
    exact ⟨_, its, n, e, of_decide_eq_true h1, rfl, rfl, of_decide_eq_true h2, He.relAll_ok h⟩
  · cases h
/-- the class of an error of one's own -/
def excB (K : PySem.W.Frag) (C : Addr) : Bool := match List.lookup C K with
  | some ⟨t, _, .cls cd, sl⟩ => decide (t = .type "type") && (cd.hasDict && (!cd.hasDel && (match cd.mro, sl.toList with
    | .ref D :: bm, [_, _, _, _, some v, _] => decide (D = C) && (decide (v = .builtin "ValueError.__new__") && PySem.HandSPX.refsVE bm)
    | _, _ => false)))
  | _ => false
theorem excB_ok {K : PySem.W.Frag} {C : Addr} (h : excB K C = true) : ∃ nm q N bs bm sn sub ab col dd k0 k1 k2 k3 k5,
    List.lookup C K = some (excClassObj nm q C N bs bm true sn sub ab col dd k0 k1 k2 k3 k5 "ValueError.__new__") ∧ PySem.HandSPX.refsVE bm = true := by
  unfold excB at h
  split at h
  · rename_i t dd cd sl e
    obtain ⟨n1, n2, n3, n4, n5, n6, n7, n8, n9, n10, n11⟩ := cd
    rw [Bool.and_eq_true, Bool.and_eq_true, Bool.and_eq_true] at h
    obtain ⟨h1, h2, h3, h4⟩ := h
    have g1 := of_decide_eq_true h1
    have g2 : n6 = true := h2
    have g3 : n11 = false := by simpa using h3
    clear h1 h2 h3
    subst g1
    subst g2
    subst g3
    split at h4
    · rename_i D bm k0 k1 k2 k3 v k5 em es
      rw [Bool.and_eq_true, Bool.and_eq_true] at h4
      obtain ⟨h5, h6, h7⟩ := h4
      have g4 := of_decide_eq_true h5
      have g5 := of_decide_eq_true h6
      subst g4
      subst g5
      have em : n3 = _ := em
      subst em
      have es : sl = #[k0, k1, k2, k3, some (.builtin "ValueError.__new__"), k5] := by
        have := congrArg List.toArray es
        simpa using this
      subst es
      exact ⟨_, _, _, _, _, _, _, _, _, _, _, _, _, _, _, e, h7⟩
    · cases h4
  · cases h
/-- an own __init__ that calls super().__init__ -/
def initB (K : PySem.W.Frag) (f D : Addr) (q file : Str) : Bool := match List.lookup f K with
  | some ⟨_, _, .func fd, _⟩ => (match fd.defaults, fd.code, fd.closure with
    | .none, .ref cda, [(_, cc)] => PySem.W.codeIn K (.ref cda) q && ((match List.lookup cc K with
        | some ⟨_, _, .cell (some v), _⟩ => decide (v = .ref D)
        | _ => false) && (match List.lookup cda K with
        | some ⟨_, _, .fields vs, _⟩ => (match (vs[2]? : Option Value) with
          | some (Value.str y _) => decide (y = file)
          | _ => false)
        | _ => false))
    | _, _, _ => false)
  | _ => false
theorem init_of {K : PySem.W.Frag} {f D : Addr} {q file : Str} {st : Stmt} (h : fnI K f = vI "__init__" q st ["__class__"]) (c : initB K f D q file = true) :
    ∃ oc od osl kV doc pm an cda ct cc, List.lookup f K = some ⟨oc, od, .func (PySem.W.ksFn "__init__" q (defArgs st) (defBody st) (defScope st) .none kV doc pm an (.ref cda) ct cc), osl⟩ ∧ PySem.W.codeIn K (.ref cda) q = true ∧
      (∃ cl cld csl, List.lookup cc K = some ⟨cl, cld, .cell (some (.ref D)), csl⟩) ∧ ∃ ccl cdd vs ccs tf, List.lookup cda K = some ⟨ccl, cdd, .fields vs, ccs⟩ ∧ vs[2]? = some (.str file tf) := by
  unfold fnI at h
  unfold initB at c
  split at h
  · rename_i oc od fd osl e
    rw [e] at c
    obtain ⟨n1, n2, n3, n4, n5, n6, n7, n8, n9, n10, n11, n12, n13, n14, n15⟩ := fd
    simp only at c
    unfold vI at h
    simp only [Option.some.injEq, Prod.mk.injEq] at h
    obtain ⟨rfl, rfl, rfl, rfl, rfl, rfl, h, rfl⟩ := h
    split at c
    · rename_i cda nm cc
      have hn : nm = "__class__" := by simpa using h
      subst hn
      obtain ⟨c1, c⟩ := He.ba c
      obtain ⟨c2, c3⟩ := He.ba c
      refine ⟨_, _, _, _, _, _, _, _, _, _, e, c1, ?_, ?_⟩
      · split at c2
        · rename_i cl cld v csl e4
          exact ⟨_, _, _, by rw [e4, of_decide_eq_true c2]⟩
        · cases c2
      · split at c3
        · rename_i ccl cdd vs ccs e5
          split at c3
          · rename_i y tf e6
            exact ⟨_, _, _, _, tf, e5, by rw [e6, of_decide_eq_true c3]⟩
          · cases c3
        · cases c3
    · cases c
  · unfold vI at h; cases h
theorem walk_of {l : PySem.W.OpenLaw} {n k : Nat} {q : Program} {loose : List Str} {XP : (Str → Option Value) → Heap → Prop} {YP : World → Heap → Prop} {d : DefRec} {CX : World → CXT} {x : Str}
    (hn : l.most = some n) (h1 : n ≤ sizeLine) (h2 : d.params.defaults = []) (h3 : Room k callerA)
    (F : ∀ (w : World) (mg : Str → Option Value) (fa : Addr) (h : Heap), YP w h → h.Ns mainGlobals mg → mg d.name = some (.ref fa) →
      ∃ (K : PySem.W.Frag) (fd : FuncData) (sp : Sp), K.In h ∧ (∀ (s : Shared) (u : Value), BindsTo s fd ⟨[u], []⟩ [(x, u)]) ∧
        (∀ (H : Hp) (a : Addr) (ns : List Int), ns.length ≤ n → Only H → SqL K H a (ns.map V.int) → sp [V.ref a] H (fun v _ => v = .bl true) fun _ _ _ => False) ∧
        ∀ base : Heap, K.In base → base.Ns mainGlobals mg → FnOk l.prog w K mg base (CX w) k fa fd [x] sp)
    (hcx : ∀ (w : World) (H : Hp) (s : Shared) (e : Value) (s' : Shared), CX w [] H s (fun _ _ _ => False) e s' → False) :
    PySem.W.WalkO q loose XP YP l.row.toRowW d [] (fun f vs => PySem.call f vs) := fun w s₀ s₁ mg mb g y =>
  (walk_ofE (l := l) (q := q) (loose := loose) (XP := XP) (YP := fun w' h => w' = w ∧ YP w' h) (CX := CX w) hn h1 h2 h3 (fun w' mg fa h Y G hm => by
    obtain ⟨rfl, Y⟩ := Y
    exact F w' mg fa h Y G hm) (hcx w) : PySem.W.WalkO q loose XP (fun w' h => w' = w ∧ YP w' h) l.row.toRowW d [] (fun f vs => PySem.call f vs)) w s₀ s₁ mg mb g ⟨rfl, y⟩
end HX
set_option Elab.async false
set_option linter.all false
set_option maxRecDepth 100000
namespace HX
open PySem PySem.Spec PyProof.Rows L2 DW
abbrev KyI := Option (List (Option (Str × Int)))
end HX
set_option Elab.async false
set_option linter.all false
set_option maxRecDepth 100000
namespace HX
open PySem PySem.Spec PyProof.Rows L2 DW
end HX
set_option Elab.async false
set_option linter.all false
set_option maxRecDepth 100000
namespace HX
open PySem PySem.Spec PyProof.Rows L2 DW
def obsW (as : List Addr) (ck : PySem.W.Frag → Bool) (ats ds : List (PySem.W.Frag → Addr)) (g : Addr → Option Obj) : Bool × List FnI × List KyI :=
  (fun K => (ck K, ats.map (fun f => fnI K (f K)), ds.map fun f => He.dicW K (f K))) (He.frG g as)
theorem obsW_eq {as : List Addr} {ck : PySem.W.Frag → Bool} {ats ds : List (PySem.W.Frag → Addr)} {g g' : Addr → Option Obj} (h : ∀ a, g a = g' a) : obsW as ck ats ds g = obsW as ck ats ds g' := by rw [funext h]
def hookW (as : List Addr) (ck : PySem.W.Frag → Bool) (ats : List (PySem.W.Frag → Addr)) (vals : List FnI) (ds : List (PySem.W.Frag → Addr)) (kys : List (List Str)) : PySem.W.Hook where
  α := Bool × List FnI × List KyI
  obs := fun s => obsW as ck ats ds s.heap.get?
  val := fun w => (true, vals, kys.map fun k => some (He.keysIn w.params k))
  says := fun w h => ∃ K : PySem.W.Frag, K.In h ∧ ck K = true ∧ (ats.map fun f => fnI K (f K)) = vals ∧ (ds.map fun f => He.dicW K (f K)) = kys.map fun k => some (He.keysIn w.params k)
  of := fun _ s e => ⟨He.frG s.heap.get? as, He.frG_in, congrArg Prod.fst e, congrArg (fun z => z.2.1) e, congrArg (fun z => z.2.2) e⟩
  keeps := fun _ h h' ⟨K, k, r⟩ hm => ⟨K, fun a o e => hm a o (k a o e), r⟩
end HX
set_option Elab.async false
set_option linter.all false
set_option maxRecDepth 100000
namespace HX
open PySem PySem.Spec PyProof.Rows L2 DW
theorem runEq_and {r : PySem.W.OpenRow} {q : Program} {as : List Addr} {c1 c2 : PySem.W.Frag → Bool} {ats : List (PySem.W.Frag → Addr)} {vals : List FnI} {ds : List (PySem.W.Frag → Addr)} {kys : List (List Str)} {M : Nat} {names : List PySem.Str} {w : World}
    (h1 : HandSHeadRun.RunEq r q (hookW as c1 ats vals ds kys) (fun s => obsW as c1 ats ds (HandSHeadRun.getT s)) M names w)
    (h2 : HandSHeadRun.RunEq r q (hookW as c2 [] [] [] []) (fun s => obsW as c2 [] [] (HandSHeadRun.getT s)) M names w) :
    HandSHeadRun.RunEq r q (hookW as (fun K => c1 K && c2 K) ats vals ds kys) (fun s => obsW as (fun K => c1 K && c2 K) ats ds (HandSHeadRun.getT s)) M names w := by
  intro os
  have e1 := h1 os
  have e2 := h2 os
  clear h1 h2
  revert e1 e2
  cases HandSHeadRun.endF (HandSHeadRun.stepQ (HandSHeadRun.denQ HandSHeadRun.tabQ) r.prog w) M r.prog w os with
  | none => intro e1; cases e1
  | some s =>
    intro e1 e2
    have e1 := Option.some.inj e1
    have e2 := Option.some.inj e2
    have a1 := congrArg (fun z => z.1) e1
    have a2 := congrArg (fun z => z.2.1) e1
    have a3 : obsW as c1 ats ds (HandSHeadRun.getT s) = (true, vals, kys.map fun k => some (He.keysIn w.params k)) := congrArg (fun z => z.2.2) e1
    have a4 : obsW as c2 [] [] (HandSHeadRun.getT s) = (true, [], []) := congrArg (fun z => z.2.2) e2
    refine congrArg some (Prod.ext a1 (Prod.ext a2 ?_))
    have b1 : c1 (He.frG (HandSHeadRun.getT s) as) = true := congrArg (fun z => z.1) a3
    have b2 : c2 (He.frG (HandSHeadRun.getT s) as) = true := congrArg (fun z => z.1) a4
    have b3 := congrArg (fun z => z.2) a3
    refine Prod.ext ?_ b3
    show (c1 _ && c2 _) = true
    rw [b1, b2]; rfl
end HX
set_option Elab.async false
set_option linter.all false
set_option maxRecDepth 100000
set_option maxHeartbeats 4000000
namespace LW
open PySem PySem.Spec L2 DW PyProof.Rows NdefX HX
abbrev si_InvalidTerm : Stmt := (C8.clsBody (topS 4)).getD 0 (.Pass ⟨0, 0, 0, 0⟩)
def ad_c_OutOfRange (_ : PySem.W.Frag) : Addr := 98
def ad_c_TooLarge (_ : PySem.W.Frag) : Addr := 122
def ad_c_InvalidQuery (_ : PySem.W.Frag) : Addr := 86
def ad_c_SizeMismatch (_ : PySem.W.Frag) : Addr := 110
def ad_c_InvalidTerm (_ : PySem.W.Frag) : Addr := 74
def ad_c_ChoosersError (_ : PySem.W.Frag) : Addr := 31
def ad_c_Query (_ : PySem.W.Frag) : Addr := 387
def ad_c_Row (_ : PySem.W.Frag) : Addr := 469
def ad_fi_InvalidQuery (_ : PySem.W.Frag) : Addr := 71
def ad_f0 (_ : PySem.W.Frag) : Addr := 131
def ad_f1 (_ : PySem.W.Frag) : Addr := 138
def ad_f2 (_ : PySem.W.Frag) : Addr := 204
def ad_f3 (_ : PySem.W.Frag) : Addr := 211
def ad_f4 (_ : PySem.W.Frag) : Addr := 232
def ad_f5 (_ : PySem.W.Frag) : Addr := 239
def ad_f6 (_ : PySem.W.Frag) : Addr := 244
def ad_f7 (_ : PySem.W.Frag) : Addr := 251
def ad_f8 (_ : PySem.W.Frag) : Addr := 258
def ad_f9 (_ : PySem.W.Frag) : Addr := 265
def ad_f10 (_ : PySem.W.Frag) : Addr := 270
def ad_f11 (_ : PySem.W.Frag) : Addr := 275
def ad_f12 (_ : PySem.W.Frag) : Addr := 287
def ad_f13 (_ : PySem.W.Frag) : Addr := 332
def ad_f14 (_ : PySem.W.Frag) : Addr := 398
def ad_f15 (_ : PySem.W.Frag) : Addr := 405
def ad_f16 (_ : PySem.W.Frag) : Addr := 412
def ad_f17 (_ : PySem.W.Frag) : Addr := 426
def ad_dA17 (_ : PySem.W.Frag) : Addr := 420
def ad_f18 (_ : PySem.W.Frag) : Addr := 452
def ad_f19 (_ : PySem.W.Frag) : Addr := 485
def ad_f20 (_ : PySem.W.Frag) : Addr := 480
def ad_f21 (_ : PySem.W.Frag) : Addr := 513
def ad_f22 (_ : PySem.W.Frag) : Addr := 506
def ad_f23 (_ : PySem.W.Frag) : Addr := 532
def ad_f24 (_ : PySem.W.Frag) : Addr := 304
def ad_f25 (_ : PySem.W.Frag) : Addr := 218
def ad_f26 (_ : PySem.W.Frag) : Addr := 225
def ad_f27 (_ : PySem.W.Frag) : Addr := 492
def ad_f28 (_ : PySem.W.Frag) : Addr := 499
def ad_f29 (_ : PySem.W.Frag) : Addr := 520
def ad_f30 (_ : PySem.W.Frag) : Addr := 525
def ad_f31 (_ : PySem.W.Frag) : Addr := 539
def ad_f32 (_ : PySem.W.Frag) : Addr := 549
def ad_f33 (_ : PySem.W.Frag) : Addr := 544
def ad_f34 (_ : PySem.W.Frag) : Addr := 556
def ad_f35 (_ : PySem.W.Frag) : Addr := 563
def ad_f36 (_ : PySem.W.Frag) : Addr := 568
def ad_f37 (_ : PySem.W.Frag) : Addr := 575
def ad_f38 (_ : PySem.W.Frag) : Addr := 580
def ad_f39 (_ : PySem.W.Frag) : Addr := 587
def ad_f40 (_ : PySem.W.Frag) : Addr := 592
def ad_f41 (_ : PySem.W.Frag) : Addr := 597
def ad_f42 (_ : PySem.W.Frag) : Addr := 604
def ad_f43 (_ : PySem.W.Frag) : Addr := 611
def ad_f44 (_ : PySem.W.Frag) : Addr := 618
def ad_f45 (_ : PySem.W.Frag) : Addr := 625
def ad_f46 (_ : PySem.W.Frag) : Addr := 630
def ad_f47 (_ : PySem.W.Frag) : Addr := 637
def ad_f48 (_ : PySem.W.Frag) : Addr := 642
def ad_f49 (_ : PySem.W.Frag) : Addr := 649
def ad_f50 (_ : PySem.W.Frag) : Addr := 656
def ad_f51 (_ : PySem.W.Frag) : Addr := 663
def ad_f52 (_ : PySem.W.Frag) : Addr := 668
def ad_f53 (_ : PySem.W.Frag) : Addr := 675
def ad_f54 (_ : PySem.W.Frag) : Addr := 682
def ad_f55 (_ : PySem.W.Frag) : Addr := 689
def ad_f56 (_ : PySem.W.Frag) : Addr := 696
def ad_f57 (_ : PySem.W.Frag) : Addr := 703
def ad_f58 (_ : PySem.W.Frag) : Addr := 710
def ad_f59 (_ : PySem.W.Frag) : Addr := 715
def ad_f60 (_ : PySem.W.Frag) : Addr := 720
def fileP : Str := PySem.Challenge.pw_choosersrow_k42_whole_first_rows.main.file
def ck0 (K : PySem.W.Frag) (c_Query c_Row f0 f1 f2 f3 f4 f5 f6 f7 : Addr) : Bool :=
  (He.eqO (PySem.W.nsIn K mainGlobals "Query") (some (some (.ref c_Query)))) && ((He.eqO (PySem.W.nsIn K mainGlobals "Row") (some (some (.ref c_Row)))) && ((He.eqO (PySem.W.nsIn K mainGlobals "is_number") (some (some (.ref f0)))) && ((fnB K f0 "is_number" []) && ((PySem.W.keepIn K (.ref f0)) && ((He.eqO (PySem.W.nsIn K mainGlobals "is_below") (some (some (.ref f1)))) && ((fnB K f1 "is_below" []) && ((PySem.W.keepIn K (.ref f1)) && ((He.eqO (PySem.W.nsIn K mainGlobals "count_choices") (some (some (.ref f2)))) && ((fnB K f2 "count_choices" []) && ((PySem.W.keepIn K (.ref f2)) && ((He.eqO (PySem.W.nsIn K mainGlobals "has_outcomes") (some (some (.ref f3)))) && ((fnB K f3 "has_outcomes" []) && ((PySem.W.keepIn K (.ref f3)) && ((He.eqO (PySem.W.nsIn K mainGlobals "width_at") (some (some (.ref f4)))) && ((fnB K f4 "width_at" []) && ((PySem.W.keepIn K (.ref f4)) && ((He.eqO (PySem.W.nsIn K mainGlobals "terms_behind") (some (some (.ref f5)))) && ((fnB K f5 "terms_behind" []) && ((PySem.W.keepIn K (.ref f5)) && ((He.eqO (PySem.W.nsIn K mainGlobals "are_widths") (some (some (.ref f6)))) && ((fnB K f6 "are_widths" []) && ((PySem.W.keepIn K (.ref f6)) && ((He.eqO (PySem.W.nsIn K mainGlobals "require_form") (some (some (.ref f7)))) && ((fnB K f7 "require_form" [])))))))))))))))))))))))))
def ck1 (K : PySem.W.Frag) (c_Query f7 f8 f9 f10 f11 f12 f13 f14 f15 : Addr) : Bool :=
  (PySem.W.keepIn K (.ref f7)) && ((He.eqO (PySem.W.nsIn K mainGlobals "has_query_form") (some (some (.ref f8)))) && ((fnB K f8 "has_query_form" []) && ((PySem.W.keepIn K (.ref f8)) && ((He.eqO (PySem.W.nsIn K mainGlobals "wrong_query") (some (some (.ref f9)))) && ((fnB K f9 "wrong_query" []) && ((PySem.W.keepIn K (.ref f9)) && ((He.eqO (PySem.W.nsIn K mainGlobals "places_of") (some (some (.ref f10)))) && ((fnB K f10 "places_of" []) && ((PySem.W.keepIn K (.ref f10)) && ((He.eqO (PySem.W.nsIn K mainGlobals "require_few") (some (some (.ref f11)))) && ((fnB K f11 "require_few" []) && ((PySem.W.keepIn K (.ref f11)) && ((He.eqO (PySem.W.nsIn K mainGlobals "fixed_term") (some (some (.ref f12)))) && ((fnB K f12 "fixed_term" []) && ((PySem.W.keepIn K (.ref f12)) && ((He.eqO (PySem.W.findIn K (.ref c_Query) "__init__") (some (some (.ref f13)))) && ((PySem.W.isFn K (.ref f13)) && ((fnB K f13 "Query.__init__" []) && ((PySem.W.keepIn K (.ref f13)) && ((He.eqO (PySem.W.nsIn K mainGlobals "shortest_cycle") (some (some (.ref f14)))) && ((fnB K f14 "shortest_cycle" []) && ((PySem.W.keepIn K (.ref f14)) && ((He.eqO (PySem.W.nsIn K mainGlobals "turned_cycle") (some (some (.ref f15)))) && ((fnB K f15 "turned_cycle" [])))))))))))))))))))))))))
def ck2 (K : PySem.W.Frag) (c_Row f15 f16 f17 dA17 f18 f19 f20 f21 f22 : Addr) : Bool :=
  (PySem.W.keepIn K (.ref f15)) && ((He.eqO (PySem.W.nsIn K mainGlobals "count_spare") (some (some (.ref f16)))) && ((fnB K f16 "count_spare" []) && ((PySem.W.keepIn K (.ref f16)) && ((He.eqO (PySem.W.findIn K (.ref c_Row) "__init__") (some (some (.ref f17)))) && ((PySem.W.isFn K (.ref f17)) && ((fnB K f17 "Row.__init__" [V.ref dA17]) && ((tupB K dA17 (([0] : List Int).map V.int)) && ((PySem.W.keepIn K (.ref f17)) && ((He.eqO (PySem.W.findIn K (.ref c_Row) "least") (some (some (.ref f18)))) && ((PySem.W.isFn K (.ref f18)) && ((fnB K f18 "Row.least" []) && ((PySem.W.keepIn K (.ref f18)) && ((He.eqO (PySem.W.nsIn K mainGlobals "settled_part") (some (some (.ref f19)))) && ((fnB K f19 "settled_part" []) && ((PySem.W.keepIn K (.ref f19)) && ((He.eqO (PySem.W.nsIn K mainGlobals "settled_term") (some (some (.ref f20)))) && ((fnB K f20 "settled_term" []) && ((PySem.W.keepIn K (.ref f20)) && ((He.eqO (PySem.W.nsIn K mainGlobals "term_reach") (some (some (.ref f21)))) && ((fnB K f21 "term_reach" []) && ((PySem.W.keepIn K (.ref f21)) && ((He.eqO (PySem.W.nsIn K mainGlobals "query_reach") (some (some (.ref f22)))) && ((fnB K f22 "query_reach" []) && ((PySem.W.keepIn K (.ref f22))))))))))))))))))))))))))
def ck3 (K : PySem.W.Frag) (f23 f24 f25 f26 f27 f28 f29 f30 f31 : Addr) : Bool :=
  (He.eqO (PySem.W.nsIn K mainGlobals "require_outcome") (some (some (.ref f23)))) && ((fnB K f23 "require_outcome" []) && ((PySem.W.keepIn K (.ref f23)) && ((He.eqO (PySem.W.nsIn K mainGlobals "require_same_widths") (some (some (.ref f24)))) && ((fnB K f24 "require_same_widths" []) && ((PySem.W.keepIn K (.ref f24)) && ((He.eqO (PySem.W.nsIn K mainGlobals "require_same_outcomes") (some (some (.ref f25)))) && ((fnB K f25 "require_same_outcomes" []) && ((PySem.W.keepIn K (.ref f25)) && ((He.eqO (PySem.W.nsIn K mainGlobals "ascending") (some (some (.ref f26)))) && ((fnB K f26 "ascending" []) && ((PySem.W.keepIn K (.ref f26)) && ((He.eqO (PySem.W.nsIn K mainGlobals "part_behind") (some (some (.ref f27)))) && ((fnB K f27 "part_behind" []) && ((PySem.W.keepIn K (.ref f27)) && ((He.eqO (PySem.W.nsIn K mainGlobals "needed_places") (some (some (.ref f28)))) && ((fnB K f28 "needed_places" []) && ((PySem.W.keepIn K (.ref f28)) && ((He.eqO (PySem.W.nsIn K mainGlobals "path_to") (some (some (.ref f29)))) && ((fnB K f29 "path_to" []) && ((PySem.W.keepIn K (.ref f29)) && ((He.eqO (PySem.W.nsIn K mainGlobals "first_row") (some (some (.ref f30)))) && ((fnB K f30 "first_row" []) && ((PySem.W.keepIn K (.ref f30)) && ((He.eqO (PySem.W.nsIn K mainGlobals "least_row") (some (some (.ref f31))))))))))))))))))))))))))))
def ck4 (K : PySem.W.Frag) (f31 f32 f33 f34 f35 f36 f37 f38 f39 : Addr) : Bool :=
  (fnB K f31 "least_row" []) && ((PySem.W.keepIn K (.ref f31)) && ((He.eqO (PySem.W.nsIn K mainGlobals "parting_path") (some (some (.ref f32)))) && ((fnB K f32 "parting_path" []) && ((PySem.W.keepIn K (.ref f32)) && ((He.eqO (PySem.W.nsIn K mainGlobals "parting_row") (some (some (.ref f33)))) && ((fnB K f33 "parting_row" []) && ((PySem.W.keepIn K (.ref f33)) && ((He.eqO (PySem.W.nsIn K mainGlobals "_law_start") (some (some (.ref f34)))) && ((fnB K f34 "_law_start" []) && ((PySem.W.keepIn K (.ref f34)) && ((He.eqO (PySem.W.nsIn K mainGlobals "_law_pick") (some (some (.ref f35)))) && ((fnB K f35 "_law_pick" []) && ((PySem.W.keepIn K (.ref f35)) && ((He.eqO (PySem.W.nsIn K mainGlobals "_law_same") (some (some (.ref f36)))) && ((fnB K f36 "_law_same" []) && ((PySem.W.keepIn K (.ref f36)) && ((He.eqO (PySem.W.nsIn K mainGlobals "_law_width") (some (some (.ref f37)))) && ((fnB K f37 "_law_width" []) && ((PySem.W.keepIn K (.ref f37)) && ((He.eqO (PySem.W.nsIn K mainGlobals "_law_widths") (some (some (.ref f38)))) && ((fnB K f38 "_law_widths" []) && ((PySem.W.keepIn K (.ref f38)) && ((He.eqO (PySem.W.nsIn K mainGlobals "_law_look_places") (some (some (.ref f39)))) && ((fnB K f39 "_law_look_places" [])))))))))))))))))))))))))
def ck5 (K : PySem.W.Frag) (f39 f40 f41 f42 f43 f44 f45 f46 f47 : Addr) : Bool :=
  (PySem.W.keepIn K (.ref f39)) && ((He.eqO (PySem.W.nsIn K mainGlobals "_law_query_term") (some (some (.ref f40)))) && ((fnB K f40 "_law_query_term" []) && ((PySem.W.keepIn K (.ref f40)) && ((He.eqO (PySem.W.nsIn K mainGlobals "_law_shuffled") (some (some (.ref f41)))) && ((fnB K f41 "_law_shuffled" []) && ((PySem.W.keepIn K (.ref f41)) && ((He.eqO (PySem.W.nsIn K mainGlobals "_law_full_query") (some (some (.ref f42)))) && ((fnB K f42 "_law_full_query" []) && ((PySem.W.keepIn K (.ref f42)) && ((He.eqO (PySem.W.nsIn K mainGlobals "_law_longer") (some (some (.ref f43)))) && ((fnB K f43 "_law_longer" []) && ((PySem.W.keepIn K (.ref f43)) && ((He.eqO (PySem.W.nsIn K mainGlobals "_law_heads") (some (some (.ref f44)))) && ((fnB K f44 "_law_heads" []) && ((PySem.W.keepIn K (.ref f44)) && ((He.eqO (PySem.W.nsIn K mainGlobals "_law_tell") (some (some (.ref f45)))) && ((fnB K f45 "_law_tell" []) && ((PySem.W.keepIn K (.ref f45)) && ((He.eqO (PySem.W.nsIn K mainGlobals "_law_retold") (some (some (.ref f46)))) && ((fnB K f46 "_law_retold" []) && ((PySem.W.keepIn K (.ref f46)) && ((He.eqO (PySem.W.nsIn K mainGlobals "_law_changed_tell") (some (some (.ref f47)))) && ((fnB K f47 "_law_changed_tell" []) && ((PySem.W.keepIn K (.ref f47))))))))))))))))))))))))))
def ck6 (K : PySem.W.Frag) (f48 f49 f50 f51 f52 f53 f54 f55 f56 : Addr) : Bool :=
  (He.eqO (PySem.W.nsIn K mainGlobals "_law_first_term") (some (some (.ref f48)))) && ((fnB K f48 "_law_first_term" []) && ((PySem.W.keepIn K (.ref f48)) && ((He.eqO (PySem.W.nsIn K mainGlobals "_law_second_term") (some (some (.ref f49)))) && ((fnB K f49 "_law_second_term" []) && ((PySem.W.keepIn K (.ref f49)) && ((He.eqO (PySem.W.nsIn K mainGlobals "_law_entries") (some (some (.ref f50)))) && ((fnB K f50 "_law_entries" []) && ((PySem.W.keepIn K (.ref f50)) && ((He.eqO (PySem.W.nsIn K mainGlobals "_law_is_row") (some (some (.ref f51)))) && ((fnB K f51 "_law_is_row" []) && ((PySem.W.keepIn K (.ref f51)) && ((He.eqO (PySem.W.nsIn K mainGlobals "_law_needed") (some (some (.ref f52)))) && ((fnB K f52 "_law_needed" []) && ((PySem.W.keepIn K (.ref f52)) && ((He.eqO (PySem.W.nsIn K mainGlobals "_law_needs") (some (some (.ref f53)))) && ((fnB K f53 "_law_needs" []) && ((PySem.W.keepIn K (.ref f53)) && ((He.eqO (PySem.W.nsIn K mainGlobals "_law_least_rows") (some (some (.ref f54)))) && ((fnB K f54 "_law_least_rows" []) && ((PySem.W.keepIn K (.ref f54)) && ((He.eqO (PySem.W.nsIn K mainGlobals "_law_parts") (some (some (.ref f55)))) && ((fnB K f55 "_law_parts" []) && ((PySem.W.keepIn K (.ref f55)) && ((He.eqO (PySem.W.nsIn K mainGlobals "_law_ask") (some (some (.ref f56))))))))))))))))))))))))))))
def ck7 (K : PySem.W.Frag) (f56 f57 f58 f59 f60 : Addr) : Bool :=
  (fnB K f56 "_law_ask" []) && ((PySem.W.keepIn K (.ref f56)) && ((He.eqO (PySem.W.nsIn K mainGlobals "_law_refused") (some (some (.ref f57)))) && ((fnB K f57 "_law_refused" []) && ((PySem.W.keepIn K (.ref f57)) && ((He.eqO (PySem.W.nsIn K mainGlobals "_law_refuses") (some (some (.ref f58)))) && ((fnB K f58 "_law_refuses" []) && ((PySem.W.keepIn K (.ref f58)) && ((He.eqO (PySem.W.nsIn K mainGlobals "_law_far_apart") (some (some (.ref f59)))) && ((fnB K f59 "_law_far_apart" []) && ((PySem.W.keepIn K (.ref f59)) && ((He.eqO (PySem.W.nsIn K mainGlobals "law") (some (some (.ref f60)))) && ((fnB K f60 "law" []) && ((PySem.W.keepIn K (.ref f60)) && ((He.eqO (PySem.W.nsIn K mainGlobals "isinstance") (some none)) && ((He.eqO (PySem.W.nsIn K mainGlobals "int") (some none)) && ((He.eqO (PySem.W.nsIn K mainGlobals "bool") (some none)) && ((He.eqO (PySem.W.nsIn K mainGlobals "all") (some none)) && ((He.eqO (PySem.W.nsIn K mainGlobals "str") (some none)) && ((He.eqO (PySem.W.nsIn K mainGlobals "len") (some none)) && ((He.eqO (PySem.W.nsIn K mainGlobals "enumerate") (some none)) && ((He.eqO (PySem.W.nsIn K mainGlobals "tuple") (some none)) && ((He.eqO (PySem.W.nsIn K mainGlobals "sorted") (some none)) && ((He.eqO (PySem.W.nsIn K mainGlobals "set") (some none)) && ((He.eqO (PySem.W.nsIn K mainGlobals "min") (some none))))))))))))))))))))))))))
def ck8 (K : PySem.W.Frag) (c_OutOfRange c_TooLarge c_InvalidQuery c_SizeMismatch c_InvalidTerm c_ChoosersError : Addr) : Bool :=
  (He.eqO (PySem.W.nsIn K mainGlobals "range") (some none)) && ((He.eqO (PySem.W.nsIn K mainGlobals "max") (some none)) && ((He.eqO (PySem.W.nsIn K mainGlobals "list") (some none)) && ((He.eqO (PySem.W.nsIn K mainGlobals "any") (some none)) && ((He.eqO (PySem.W.nsIn K mainGlobals "ValueError") (some none)) && ((strB K "LETTERS" "abcdefghijklmnopqrstuvwxyz") && ((strB K "DIGITS" "0123456789") && ((intB K "LONGEST_WORD" 12) && ((intB K "LONGEST_NUMBER" 9) && ((intB K "NUMBERS_END" 1000000000) && ((intB K "DEEPEST_TUPLE" 30) && ((intB K "MOST_OUTCOMES" 4) && ((intB K "MOST_WIDTHS" 6) && ((intB K "WIDEST" 4) && ((intB K "PLACES" 100) && ((intB K "ITEMS_BEFORE" 2) && ((intB K "TWO_OUTCOMES" 2) && ((He.eqO (PySem.W.nsIn K mainGlobals "OutOfRange") (some (some (.ref c_OutOfRange)))) && ((He.eqO (PySem.W.nsIn K mainGlobals "TooLarge") (some (some (.ref c_TooLarge)))) && ((He.eqO (PySem.W.nsIn K mainGlobals "InvalidQuery") (some (some (.ref c_InvalidQuery)))) && ((He.eqO (PySem.W.nsIn K mainGlobals "SizeMismatch") (some (some (.ref c_SizeMismatch)))) && ((He.eqO (PySem.W.nsIn K mainGlobals "InvalidTerm") (some (some (.ref c_InvalidTerm)))) && ((He.eqO (PySem.W.nsIn K mainGlobals "ChoosersError") (some (some (.ref c_ChoosersError)))) && ((PySem.W.excIn K c_OutOfRange [.type "ValueError", .type "Exception", .type "BaseException", .type "object"] "ValueError.__new__") && ((PySem.W.excIn K c_TooLarge [.type "ValueError", .type "Exception", .type "BaseException", .type "object"] "ValueError.__new__")))))))))))))))))))))))))
def ck9 (K : PySem.W.Frag) (c_OutOfRange c_TooLarge c_SizeMismatch c_InvalidTerm c_ChoosersError : Addr) : Bool :=
  (PySem.W.excIn K c_SizeMismatch [.type "ValueError", .type "Exception", .type "BaseException", .type "object"] "ValueError.__new__") && ((He.eqO (PySem.W.nsIn K mainGlobals "super") (some none)) && ((He.eqO (PySem.W.nsIn K cStatics "thirdparty.any") (some none)) && ((PySem.W.keepIn K (.ref c_OutOfRange)) && ((decide (PySem.W.subIn K (.ref c_OutOfRange) (.type "BaseException") = some true)) && ((decide (PySem.W.typeIn K (.ref c_OutOfRange) = some (.type "type"))) && ((He.eqO (PySem.W.findIn K (.ref c_OutOfRange) "__getattribute__") (some (some (.builtin "BaseException.__getattribute__")))) && ((He.eqO (PySem.W.findIn K (.ref c_OutOfRange) "__getattr__") (some none)) && ((PySem.W.hasDictIn K c_OutOfRange) && ((He.eqO (PySem.W.findIn K (.ref c_OutOfRange) "__class__") (some (some (.builtin "object.__class__")))) && ((decide (PySem.W.mroIn K c_OutOfRange (.type "object") = some true)) && ((decide (PySem.W.subIn K (.ref c_OutOfRange) (.ref c_OutOfRange) = some true)) && ((decide (PySem.W.subIn K (.ref c_OutOfRange) (.ref c_InvalidTerm) = some false)) && ((decide (PySem.W.subIn K (.ref c_OutOfRange) (.type "ValueError") = some true)) && ((decide (PySem.W.subIn K (.ref c_OutOfRange) (.ref c_SizeMismatch) = some false)) && ((decide (PySem.W.subIn K (.ref c_OutOfRange) (.ref c_TooLarge) = some false)) && ((decide (PySem.W.subIn K (.ref c_OutOfRange) (.ref c_ChoosersError) = some true)) && ((PySem.W.keepIn K (.ref c_TooLarge)) && ((decide (PySem.W.subIn K (.ref c_TooLarge) (.type "BaseException") = some true)) && ((decide (PySem.W.typeIn K (.ref c_TooLarge) = some (.type "type"))) && ((He.eqO (PySem.W.findIn K (.ref c_TooLarge) "__getattribute__") (some (some (.builtin "BaseException.__getattribute__")))) && ((He.eqO (PySem.W.findIn K (.ref c_TooLarge) "__getattr__") (some none)) && ((PySem.W.hasDictIn K c_TooLarge) && ((He.eqO (PySem.W.findIn K (.ref c_TooLarge) "__class__") (some (some (.builtin "object.__class__")))) && ((decide (PySem.W.mroIn K c_TooLarge (.type "object") = some true))))))))))))))))))))))))))
def ck10 (K : PySem.W.Frag) (c_OutOfRange c_TooLarge c_InvalidQuery c_SizeMismatch c_InvalidTerm c_ChoosersError : Addr) : Bool :=
  (decide (PySem.W.subIn K (.ref c_TooLarge) (.ref c_TooLarge) = some true)) && ((decide (PySem.W.subIn K (.ref c_TooLarge) (.ref c_InvalidTerm) = some false)) && ((decide (PySem.W.subIn K (.ref c_TooLarge) (.type "ValueError") = some true)) && ((decide (PySem.W.subIn K (.ref c_TooLarge) (.ref c_OutOfRange) = some false)) && ((decide (PySem.W.subIn K (.ref c_TooLarge) (.ref c_SizeMismatch) = some false)) && ((decide (PySem.W.subIn K (.ref c_TooLarge) (.ref c_ChoosersError) = some true)) && ((PySem.W.keepIn K (.ref c_InvalidQuery)) && ((decide (PySem.W.subIn K (.ref c_InvalidQuery) (.type "BaseException") = some true)) && ((decide (PySem.W.typeIn K (.ref c_InvalidQuery) = some (.type "type"))) && ((He.eqO (PySem.W.findIn K (.ref c_InvalidQuery) "__getattribute__") (some (some (.builtin "BaseException.__getattribute__")))) && ((He.eqO (PySem.W.findIn K (.ref c_InvalidQuery) "__getattr__") (some none)) && ((PySem.W.hasDictIn K c_InvalidQuery) && ((He.eqO (PySem.W.findIn K (.ref c_InvalidQuery) "__class__") (some (some (.builtin "object.__class__")))) && ((decide (PySem.W.mroIn K c_InvalidQuery (.type "object") = some true)) && ((decide (PySem.W.subIn K (.ref c_InvalidQuery) (.ref c_InvalidQuery) = some true)) && ((decide (PySem.W.subIn K (.ref c_InvalidQuery) (.ref c_InvalidTerm) = some true)) && ((decide (PySem.W.subIn K (.ref c_InvalidQuery) (.type "ValueError") = some true)) && ((decide (PySem.W.subIn K (.ref c_InvalidQuery) (.ref c_OutOfRange) = some false)) && ((decide (PySem.W.subIn K (.ref c_InvalidQuery) (.ref c_SizeMismatch) = some false)) && ((decide (PySem.W.subIn K (.ref c_InvalidQuery) (.ref c_TooLarge) = some false)) && ((decide (PySem.W.subIn K (.ref c_InvalidQuery) (.ref c_ChoosersError) = some true)) && ((PySem.W.keepIn K (.ref c_SizeMismatch)) && ((decide (PySem.W.subIn K (.ref c_SizeMismatch) (.type "BaseException") = some true)) && ((decide (PySem.W.typeIn K (.ref c_SizeMismatch) = some (.type "type"))) && ((He.eqO (PySem.W.findIn K (.ref c_SizeMismatch) "__getattribute__") (some (some (.builtin "BaseException.__getattribute__"))))))))))))))))))))))))))))
def ck11 (K : PySem.W.Frag) (c_OutOfRange c_TooLarge c_InvalidQuery c_SizeMismatch c_InvalidTerm c_ChoosersError fi_InvalidQuery : Addr) : Bool :=
  (He.eqO (PySem.W.findIn K (.ref c_SizeMismatch) "__getattr__") (some none)) && ((PySem.W.hasDictIn K c_SizeMismatch) && ((He.eqO (PySem.W.findIn K (.ref c_SizeMismatch) "__class__") (some (some (.builtin "object.__class__")))) && ((decide (PySem.W.mroIn K c_SizeMismatch (.type "object") = some true)) && ((decide (PySem.W.subIn K (.ref c_SizeMismatch) (.ref c_SizeMismatch) = some true)) && ((decide (PySem.W.subIn K (.ref c_SizeMismatch) (.ref c_InvalidTerm) = some false)) && ((decide (PySem.W.subIn K (.ref c_SizeMismatch) (.type "ValueError") = some true)) && ((decide (PySem.W.subIn K (.ref c_SizeMismatch) (.ref c_OutOfRange) = some false)) && ((decide (PySem.W.subIn K (.ref c_SizeMismatch) (.ref c_TooLarge) = some false)) && ((decide (PySem.W.subIn K (.ref c_SizeMismatch) (.ref c_ChoosersError) = some true)) && ((He.eqO (PySem.W.findIn K (.ref c_InvalidQuery) "__init__") (some (some (.ref fi_InvalidQuery)))) && ((initB K fi_InvalidQuery c_InvalidTerm "InvalidTerm.__init__" fileP) && ((decide (PySem.W.typeIn K (.ref fi_InvalidQuery) = some (.type "function"))) && ((He.eqO (PySem.W.findIn K (.ref c_InvalidQuery) "path") (some none)) && ((PySem.W.isClsIn K c_InvalidTerm) && ((decide (PySem.W.mroIn K c_InvalidQuery (.ref c_InvalidTerm) = some true)) && ((decide (PySem.W.subIn K (.ref c_InvalidQuery) (.type "ValueError") = some true)) && ((He.eqO (PySem.W.ks_superIn K c_InvalidQuery c_InvalidTerm "__init__") (some (some (.builtin "ValueError.__init__")))) && ((excB K c_InvalidQuery) && ((He.eqO (PySem.W.findIn K (.ref c_InvalidQuery) "__setattr__") (some (some (.builtin "object.__setattr__")))) && ((PySem.W.isClsIn K c_OutOfRange) && ((PySem.W.isClsIn K c_TooLarge) && ((PySem.W.isClsIn K c_InvalidQuery) && ((PySem.W.isClsIn K c_SizeMismatch) && ((PySem.W.isClsIn K c_InvalidTerm)))))))))))))))))))))))))
def ck12 (K : PySem.W.Frag) (c_InvalidTerm c_ChoosersError c_Query c_Row : Addr) : Bool :=
  (decide (PySem.W.typeIn K (.ref c_InvalidTerm) = some (.type "type"))) && ((PySem.W.isClsIn K c_ChoosersError) && ((decide (PySem.W.typeIn K (.ref c_ChoosersError) = some (.type "type"))) && ((decide (PySem.W.subIn K (.ref c_ChoosersError) (.type "BaseException") = some true)) && ((PySem.W.hasDictIn K c_ChoosersError) && ((He.eqO (PySem.W.specialIn K (.builtin "object.__class__") "__get__") (some (some (.builtin "getset_descriptor.__get__")))) && ((decide (PySem.W.takesIn K (.builtin "object.__class__") = some true)) && ((PySem.W.plainGet K c_Query Str.empty) && ((PySem.W.hasDictIn K c_Query) && ((PySem.W.plainOver K c_Query) && ((He.eqO (PySem.W.findIn K (.ref c_Query) "__setattr__") (some (some (.builtin "object.__setattr__")))) && ((PySem.W.makesIn K c_Query) && ((PySem.W.keepIn K (.ref c_Query)) && ((He.eqO (PySem.W.findIn K (.ref c_Query) "term") (some none)) && ((He.eqO (PySem.W.findIn K (.ref c_Query) "widths") (some none)) && ((He.eqO (PySem.W.findIn K (.ref c_Query) "outcomes") (some none)) && ((PySem.W.readsIn K c_Query (.type "type")) && ((He.eqO (PySem.W.specialIn K (.ref c_Query) "__getattribute__") (some (some (.builtin "type.__getattribute__")))) && ((cvB K c_Query "MOST_LEVELS" 20) && ((cvB K c_Query "MOST_LOOKS" 300) && ((cvB K c_Query "MOST_CHOICES" 256) && ((PySem.W.plainGet K c_Row Str.empty) && ((PySem.W.hasDictIn K c_Row) && ((PySem.W.plainOver K c_Row) && ((He.eqO (PySem.W.findIn K (.ref c_Row) "__setattr__") (some (some (.builtin "object.__setattr__"))))))))))))))))))))))))))))
def ck13 (K : PySem.W.Frag) (c_Row : Addr) : Bool :=
  (PySem.W.makesIn K c_Row) && ((PySem.W.keepIn K (.ref c_Row)) && ((He.eqO (PySem.W.findIn K (.ref c_Row) "__class__") (some (some (.builtin "object.__class__")))) && ((decide (PySem.W.mroIn K c_Row (.type "object") = some true)) && ((decide (PySem.W.subIn K (.ref c_Row) (.ref c_Row) = some true)) && ((PySem.W.isClsIn K c_Row) && ((decide (PySem.W.typeIn K (.ref c_Row) = some (.type "type"))) && ((He.eqO (PySem.W.findIn K (.ref c_Row) "head") (some none)) && ((He.eqO (PySem.W.findIn K (.ref c_Row) "cycle") (some none))))))))))
def atsA : List (PySem.W.Frag → Addr) := [ad_f0, ad_f1, ad_f2, ad_f3, ad_f4, ad_f5, ad_f6, ad_f7, ad_f8, ad_f9, ad_f10, ad_f11, ad_f12, ad_f13, ad_f14, ad_f15, ad_f16, ad_f17, ad_f18, ad_f19, ad_f20, ad_f21, ad_f22, ad_f23, ad_f24, ad_f25, ad_f26, ad_f27, ad_f28, ad_f29, ad_f30, ad_f31, ad_f32, ad_f33, ad_f34, ad_f35, ad_f36, ad_f37, ad_f38, ad_f39, ad_f40, ad_f41, ad_f42, ad_f43, ad_f44, ad_f45, ad_f46, ad_f47, ad_f48, ad_f49, ad_f50, ad_f51, ad_f52, ad_f53, ad_f54, ad_f55, ad_f56, ad_f57, ad_f58, ad_f59, ad_f60, ad_fi_InvalidQuery]
def valsA : List FnI := [vI "is_number" "is_number" s_is_number [],
  vI "is_below" "is_below" s_is_below [],
  vI "count_choices" "count_choices" s_count_choices [],
  vI "has_outcomes" "has_outcomes" s_has_outcomes [],
  vI "width_at" "width_at" s_width_at [],
  vI "terms_behind" "terms_behind" s_terms_behind [],
  vI "are_widths" "are_widths" s_are_widths [],
  vI "require_form" "require_form" s_require_form [],
  vI "has_query_form" "has_query_form" s_has_query_form [],
  vI "wrong_query" "wrong_query" s_wrong_query [],
  vI "places_of" "places_of" s_places_of [],
  vI "require_few" "require_few" s_require_few [],
  vI "fixed_term" "fixed_term" s_fixed_term [],
  vI "__init__" "Query.__init__" s_Query___init__ [],
  vI "shortest_cycle" "shortest_cycle" s_shortest_cycle [],
  vI "turned_cycle" "turned_cycle" s_turned_cycle [],
  vI "count_spare" "count_spare" s_count_spare [],
  vI "__init__" "Row.__init__" s_Row___init__ [],
  vI "least" "Row.least" s_Row_least [],
  vI "settled_part" "settled_part" s_settled_part [],
  vI "settled_term" "settled_term" s_settled_term [],
  vI "term_reach" "term_reach" s_term_reach [],
  vI "query_reach" "query_reach" s_query_reach [],
  vI "require_outcome" "require_outcome" s_require_outcome [],
  vI "require_same_widths" "require_same_widths" s_require_same_widths [],
  vI "require_same_outcomes" "require_same_outcomes" s_require_same_outcomes [],
  vI "ascending" "ascending" s_ascending [],
  vI "part_behind" "part_behind" s_part_behind [],
  vI "needed_places" "needed_places" s_needed_places [],
  vI "path_to" "path_to" s_path_to [],
  vI "first_row" "first_row" s_first_row [],
  vI "least_row" "least_row" s_least_row [],
  vI "parting_path" "parting_path" s_parting_path [],
  vI "parting_row" "parting_row" s_parting_row [],
  vI "_law_start" "_law_start" s__law_start [],
  vI "_law_pick" "_law_pick" s__law_pick [],
  vI "_law_same" "_law_same" s__law_same [],
  vI "_law_width" "_law_width" s__law_width [],
  vI "_law_widths" "_law_widths" s__law_widths [],
  vI "_law_look_places" "_law_look_places" s__law_look_places [],
  vI "_law_query_term" "_law_query_term" s__law_query_term [],
  vI "_law_shuffled" "_law_shuffled" s__law_shuffled [],
  vI "_law_full_query" "_law_full_query" s__law_full_query [],
  vI "_law_longer" "_law_longer" s__law_longer [],
  vI "_law_heads" "_law_heads" s__law_heads [],
  vI "_law_tell" "_law_tell" s__law_tell [],
  vI "_law_retold" "_law_retold" s__law_retold [],
  vI "_law_changed_tell" "_law_changed_tell" s__law_changed_tell [],
  vI "_law_first_term" "_law_first_term" s__law_first_term [],
  vI "_law_second_term" "_law_second_term" s__law_second_term [],
  vI "_law_entries" "_law_entries" s__law_entries [],
  vI "_law_is_row" "_law_is_row" s__law_is_row [],
  vI "_law_needed" "_law_needed" s__law_needed [],
  vI "_law_needs" "_law_needs" s__law_needs [],
  vI "_law_least_rows" "_law_least_rows" s__law_least_rows [],
  vI "_law_parts" "_law_parts" s__law_parts [],
  vI "_law_ask" "_law_ask" s__law_ask [],
  vI "_law_refused" "_law_refused" s__law_refused [],
  vI "_law_refuses" "_law_refuses" s__law_refuses [],
  vI "_law_far_apart" "_law_far_apart" s__law_far_apart [],
  vI "law" "law" s_law [],
  vI "__init__" "InvalidTerm.__init__" si_InvalidTerm ["__class__"]]
def ckA (K : PySem.W.Frag) : Bool := ck0 K (ad_c_Query K) (ad_c_Row K) (ad_f0 K) (ad_f1 K) (ad_f2 K) (ad_f3 K) (ad_f4 K) (ad_f5 K) (ad_f6 K) (ad_f7 K) && (ck1 K (ad_c_Query K) (ad_f7 K) (ad_f8 K) (ad_f9 K) (ad_f10 K) (ad_f11 K) (ad_f12 K) (ad_f13 K) (ad_f14 K) (ad_f15 K) && (ck2 K (ad_c_Row K) (ad_f15 K) (ad_f16 K) (ad_f17 K) (ad_dA17 K) (ad_f18 K) (ad_f19 K) (ad_f20 K) (ad_f21 K) (ad_f22 K) && (ck3 K (ad_f23 K) (ad_f24 K) (ad_f25 K) (ad_f26 K) (ad_f27 K) (ad_f28 K) (ad_f29 K) (ad_f30 K) (ad_f31 K) && (ck4 K (ad_f31 K) (ad_f32 K) (ad_f33 K) (ad_f34 K) (ad_f35 K) (ad_f36 K) (ad_f37 K) (ad_f38 K) (ad_f39 K) && (ck5 K (ad_f39 K) (ad_f40 K) (ad_f41 K) (ad_f42 K) (ad_f43 K) (ad_f44 K) (ad_f45 K) (ad_f46 K) (ad_f47 K) && (ck6 K (ad_f48 K) (ad_f49 K) (ad_f50 K) (ad_f51 K) (ad_f52 K) (ad_f53 K) (ad_f54 K) (ad_f55 K) (ad_f56 K) && (ck7 K (ad_f56 K) (ad_f57 K) (ad_f58 K) (ad_f59 K) (ad_f60 K) && (ck8 K (ad_c_OutOfRange K) (ad_c_TooLarge K) (ad_c_InvalidQuery K) (ad_c_SizeMismatch K) (ad_c_InvalidTerm K) (ad_c_ChoosersError K) && (ck9 K (ad_c_OutOfRange K) (ad_c_TooLarge K) (ad_c_SizeMismatch K) (ad_c_InvalidTerm K) (ad_c_ChoosersError K) && (ck10 K (ad_c_OutOfRange K) (ad_c_TooLarge K) (ad_c_InvalidQuery K) (ad_c_SizeMismatch K) (ad_c_InvalidTerm K) (ad_c_ChoosersError K) && (ck11 K (ad_c_OutOfRange K) (ad_c_TooLarge K) (ad_c_InvalidQuery K) (ad_c_SizeMismatch K) (ad_c_InvalidTerm K) (ad_c_ChoosersError K) (ad_fi_InvalidQuery K) && (ck12 K (ad_c_InvalidTerm K) (ad_c_ChoosersError K) (ad_c_Query K) (ad_c_Row K) && (ck13 K (ad_c_Row K))))))))))))))
def names0 : List PySem.Str := ["_wall", "__name__", "ChoosersError", "InvalidText", "InvalidTerm", "InvalidQuery", "OutOfRange", "SizeMismatch", "TooLarge", "LETTERS", "DIGITS", "LONGEST_WORD", "LONGEST_NUMBER", "NUMBERS_END", "DEEPEST_TUPLE"]
def names1 : List PySem.Str := ["is_number", "is_below", "is_word", "write_term", "wrong_part", "text_of", "read_term", "read_part", "run_end", "read_tuple", "read_headed", "count_choices", "MOST_OUTCOMES", "has_outcomes", "require_same_outcomes"]
def names2 : List PySem.Str := ["ascending", "MOST_WIDTHS", "WIDEST", "PLACES", "ITEMS_BEFORE", "TWO_OUTCOMES", "width_at", "terms_behind", "are_widths", "require_form", "has_query_form", "wrong_query", "places_of", "require_few", "followed"]
def names3 : List PySem.Str := ["fixed_term", "term_with_tells", "term_with_outcomes", "require_same_widths", "require_two_outcomes", "require_combined", "Query", "shortest_cycle", "turned_cycle", "count_spare", "Row", "settled_term", "settled_part", "part_behind", "needed_places"]
def names4 : List PySem.Str := ["query_reach", "term_reach", "path_to", "first_row", "require_outcome", "least_row", "parting_row", "parting_path", "_law_start", "_law_pick", "_law_same", "_law_width", "_law_widths", "_law_look_places", "_law_query_term"]
def names5 : List PySem.Str := ["_law_shuffled", "_law_full_query", "_law_longer", "_law_heads", "_law_tell", "_law_retold", "_law_changed_tell", "_law_first_term", "_law_second_term", "_law_entries", "_law_is_row", "_law_needed", "_law_needs", "_law_least_rows", "_law_parts"]
def names6 : List PySem.Str := ["_law_ask", "_law_refused", "_law_refuses", "_law_far_apart"]
def namesA : List PySem.Str := names0 ++ names1 ++ names2 ++ names3 ++ names4 ++ names5 ++ names6
abbrev RR : PySem.W.OpenRow := PySem.W.OpenLaw.row PySem.Challenge.rw_choosersrow_k42_whole_first_rows
def dsA : List (PySem.W.Frag → Addr) := []
def kysA : List (List Str) := []
def asA : List Addr := [3, 2, 98, 97, 31, 122, 121, 86, 85, 74, 110, 109, 73, 30, 387, 386, 469, 468, 71, 70, 59, 131, 130, 138, 137, 204, 203, 211, 210, 232, 231, 239, 238, 244, 243, 251, 250, 258, 257, 265, 264, 270, 269, 275, 274, 287, 286, 332, 331, 398, 397, 405, 404, 412, 411, 426, 425, 421, 420, 452, 451, 485, 484, 480, 479, 513, 512, 506, 505, 532, 531, 304, 303, 218, 217, 225, 224, 492, 491, 499, 498, 520, 519, 525, 524, 539, 538, 549, 548, 544, 543, 556, 555, 563, 562, 568, 567, 575, 574, 580, 579, 587, 586, 592, 591, 597, 596, 604, 603, 611, 610, 618, 617, 625, 624, 630, 629, 637, 636, 642, 641, 649, 648, 656, 655, 663, 662, 668, 667, 675, 674, 682, 681, 689, 688, 696, 695, 703, 702, 710, 709, 715, 714, 720, 719]
abbrev hkA : PySem.W.Hook := HX.hookW asA ckA atsA valsA dsA kysA
def obA (s : PySem.W.SharedT) : Bool × List FnI × List KyI := obsW asA ckA atsA dsA (HandSHeadRun.getT s)
theorem obA_eq (s : PySem.W.SharedT) : obA s = hkA.obs s.abs := obsW_eq (HandSHeadRun.getT_eq s)
def ckP (K : PySem.W.Frag) : Bool := ck10 K (ad_c_OutOfRange K) (ad_c_TooLarge K) (ad_c_InvalidQuery K) (ad_c_SizeMismatch K) (ad_c_InvalidTerm K) (ad_c_ChoosersError K) && (ck11 K (ad_c_OutOfRange K) (ad_c_TooLarge K) (ad_c_InvalidQuery K) (ad_c_SizeMismatch K) (ad_c_InvalidTerm K) (ad_c_ChoosersError K) (ad_fi_InvalidQuery K))
def ckQ (K : PySem.W.Frag) : Bool := ck12 K (ad_c_InvalidTerm K) (ad_c_ChoosersError K) (ad_c_Query K) (ad_c_Row K) && (ck13 K (ad_c_Row K) && (ck0 K (ad_c_Query K) (ad_c_Row K) (ad_f0 K) (ad_f1 K) (ad_f2 K) (ad_f3 K) (ad_f4 K) (ad_f5 K) (ad_f6 K) (ad_f7 K) && (ck1 K (ad_c_Query K) (ad_f7 K) (ad_f8 K) (ad_f9 K) (ad_f10 K) (ad_f11 K) (ad_f12 K) (ad_f13 K) (ad_f14 K) (ad_f15 K) && (ck2 K (ad_c_Row K) (ad_f15 K) (ad_f16 K) (ad_f17 K) (ad_dA17 K) (ad_f18 K) (ad_f19 K) (ad_f20 K) (ad_f21 K) (ad_f22 K)))))
def ckR (K : PySem.W.Frag) : Bool := ck3 K (ad_f23 K) (ad_f24 K) (ad_f25 K) (ad_f26 K) (ad_f27 K) (ad_f28 K) (ad_f29 K) (ad_f30 K) (ad_f31 K) && (ck4 K (ad_f31 K) (ad_f32 K) (ad_f33 K) (ad_f34 K) (ad_f35 K) (ad_f36 K) (ad_f37 K) (ad_f38 K) (ad_f39 K) && (ck5 K (ad_f39 K) (ad_f40 K) (ad_f41 K) (ad_f42 K) (ad_f43 K) (ad_f44 K) (ad_f45 K) (ad_f46 K) (ad_f47 K)))
def ckS (K : PySem.W.Frag) : Bool := ck6 K (ad_f48 K) (ad_f49 K) (ad_f50 K) (ad_f51 K) (ad_f52 K) (ad_f53 K) (ad_f54 K) (ad_f55 K) (ad_f56 K) && (ck7 K (ad_f56 K) (ad_f57 K) (ad_f58 K) (ad_f59 K) (ad_f60 K) && (ck8 K (ad_c_OutOfRange K) (ad_c_TooLarge K) (ad_c_InvalidQuery K) (ad_c_SizeMismatch K) (ad_c_InvalidTerm K) (ad_c_ChoosersError K) && (ck9 K (ad_c_OutOfRange K) (ad_c_TooLarge K) (ad_c_SizeMismatch K) (ad_c_InvalidTerm K) (ad_c_ChoosersError K))))
theorem ckE : (fun K => (fun K => (fun K => ckP K && ckQ K) K && ckR K) K && ckS K) = ckA := by
  funext K
  unfold ckP ckQ ckR ckS ckA
  simp only [Bool.and_assoc]
  ac_rfl
set_option maxHeartbeats 0 in
theorem run0P (w : World) : HandSHeadRun.RunEq RR (PySem.W.view RR.prog [102]) (HX.hookW asA ckP atsA valsA dsA kysA) (fun s => obsW asA ckP atsA dsA (HandSHeadRun.getT s)) 20000 namesA (w.withFollow "special-get-raises" false) := by
  intro os
  kernel_rfl
set_option maxHeartbeats 0 in
theorem run0Q (w : World) : HandSHeadRun.RunEq RR (PySem.W.view RR.prog [102]) (HX.hookW asA ckQ [] [] [] []) (fun s => obsW asA ckQ [] [] (HandSHeadRun.getT s)) 20000 namesA (w.withFollow "special-get-raises" false) := by
  intro os
  kernel_rfl
set_option maxHeartbeats 0 in
theorem run0R (w : World) : HandSHeadRun.RunEq RR (PySem.W.view RR.prog [102]) (HX.hookW asA ckR [] [] [] []) (fun s => obsW asA ckR [] [] (HandSHeadRun.getT s)) 20000 namesA (w.withFollow "special-get-raises" false) := by
  intro os
  kernel_rfl
set_option maxHeartbeats 0 in
theorem run0S (w : World) : HandSHeadRun.RunEq RR (PySem.W.view RR.prog [102]) (HX.hookW asA ckS [] [] [] []) (fun s => obsW asA ckS [] [] (HandSHeadRun.getT s)) 20000 namesA (w.withFollow "special-get-raises" false) := by
  intro os
  kernel_rfl
theorem run0 (w : World) : HandSHeadRun.RunEq RR (PySem.W.view RR.prog [102]) hkA obA 20000 namesA (w.withFollow "special-get-raises" false) := by
  have h := HX.runEq_and (HX.runEq_and (HX.runEq_and (run0P w) (run0Q w)) (run0R w)) (run0S w)
  rw [ckE] at h
  exact h
set_option maxHeartbeats 0 in
theorem run1P (w : World) : HandSHeadRun.RunEq RR (PySem.W.view RR.prog [102]) (HX.hookW asA ckP atsA valsA dsA kysA) (fun s => obsW asA ckP atsA dsA (HandSHeadRun.getT s)) 20000 namesA (w.withFollow "special-get-raises" true) := by
  intro os
  kernel_rfl
set_option maxHeartbeats 0 in
theorem run1Q (w : World) : HandSHeadRun.RunEq RR (PySem.W.view RR.prog [102]) (HX.hookW asA ckQ [] [] [] []) (fun s => obsW asA ckQ [] [] (HandSHeadRun.getT s)) 20000 namesA (w.withFollow "special-get-raises" true) := by
  intro os
  kernel_rfl
set_option maxHeartbeats 0 in
theorem run1R (w : World) : HandSHeadRun.RunEq RR (PySem.W.view RR.prog [102]) (HX.hookW asA ckR [] [] [] []) (fun s => obsW asA ckR [] [] (HandSHeadRun.getT s)) 20000 namesA (w.withFollow "special-get-raises" true) := by
  intro os
  kernel_rfl
set_option maxHeartbeats 0 in
theorem run1S (w : World) : HandSHeadRun.RunEq RR (PySem.W.view RR.prog [102]) (HX.hookW asA ckS [] [] [] []) (fun s => obsW asA ckS [] [] (HandSHeadRun.getT s)) 20000 namesA (w.withFollow "special-get-raises" true) := by
  intro os
  kernel_rfl
theorem run1 (w : World) : HandSHeadRun.RunEq RR (PySem.W.view RR.prog [102]) hkA obA 20000 namesA (w.withFollow "special-get-raises" true) := by
  have h := HX.runEq_and (HX.runEq_and (HX.runEq_and (run1P w) (run1Q w)) (run1R w)) (run1S w)
  rw [ckE] at h
  exact h
theorem runA (w : World) : HandSHeadRun.RunEq RR (PySem.W.view RR.prog [102]) hkA obA 20000 namesA w := by
  have hs := PySem.World.withFollow_self w "special-get-raises"
  rw [← hs]
  cases w.params.followText "special-get-raises"
  · exact run0 w
  · exact run1 w
end LW
set_option Elab.async false
set_option linter.all false
set_option maxRecDepth 100000
set_option maxHeartbeats 4000000
namespace LW
open PySem PySem.Spec L2 DW PyProof.Rows
local macro_rules | `(tactic| walk_at "wp") => `(tactic| try simp only [u_maxD, u_idxD, u_dc, u_get2, u_isET, w_isET2, w_isET3, w_isET4, u_truT, u_iZ3, w_zip3E, u_lcO, u_restE, v_rng1, u_rngV, w_rngE, u_cval, w_isiO, u_par, u_iR3, u_makeSD, u_getXN, rngB_len, u_star, u_rev2L, u_callR, u_binXI, u_callX, u_getX, u_restF, u_binX, u_invX, w_neB, u_methXN, u_makeSN, u_tupR1, u_lc2, u_iZM, w_zipLT, w_zipTL, u_cntL, u_lstR1O, u_fld, w_fld, w_someE, u_setF, u_methX, w_objE, u_makeS, u_sortSet, u_lstR1, u_iZipL, u_iEnL, u_idx, u_popAt, u_cntT, u_idxT, u_callF, w_maxL, w_minL, w_ixDc, w_inDc, w_repL, w_listLs, w_tplT, w_tplP, u_isE, w_isE, u_kitER, u_kitET, u_excE, u_xf, w_xf1, u_slS, u_raise1, u_iEn, w_listStr, w_lenStr, w_catStr, w_ixStr, w_inStr, w_strE, w_strI, w_strS, u_rest, cut_to, cut_from1, Int.zero_add, u_revT, w_repT, u_tupG, u_try, u_gPlain, u_gThen, u_gNil, u_yield, u_gWhile, u_while, u_isX, u_kitR, u_kitT, u_excOk, w_zipE, u_goalX, u_lc, rngD_len, Int.toNat_natCast, u_for, u_iT, u_iL, u_iR1, u_iR2, u_iZ, u_iS, w_lstE, dwipe, u_asg, u_asgS, u_ret, u_retN, u_if, u_next, u_break, u_cont, u_drop, u_raise, u_aug, u_var, u_c, u_op, u_un, u_test, u_and, u_or, u_not, u_yes, u_andV, u_orV, u_notV, u_ifE, u_chain, u_nil, u_cons, u_tup, u_lst, u_own, u_cb, u_call, u_callS, u_name, u_etup, u_enil, u_econs, u_sub, u_app, u_slT, u_slL, u_noPart, u_part, u_revL, ex_some, w_I0, w_I, w_uI, w_int, w_bl, w_isi, w_someb, w_eqI, w_neI, w_eqS, w_neS, w_lenT, w_lenL, w_lenS, w_tupL, w_tupT, w_ixT, w_ixL, w_ixS, w_catT, w_catL, w_all, w_any, w_min2, w_divmod, w_listS, w_listL, w_listT, w_isN, w_notN, w_tupE, w_intE, w_consE, w_hdE, w_cellS, w_set, at0, at1, at2, at3, i_tT, i_tI, i_tB, i_tS, i_nT, i_nI, i_nB, i_nS, i_iT, i_iI, i_iB, i_iS, i_bT, i_bI, i_bB, i_bS, i_sT, i_sI, i_sB, i_sS, v_itemsS, w_eqB, isNone, dstart, List.map, List.length, List.replicate, List.cons_append, List.nil_append, List.append_nil, List.getElem?_cons_zero, List.getElem?_cons_succ, List.set_cons_zero, List.set_cons_succ, ix40, ix42, ix43, true_implies, false_implies, and_true, true_and, Bool.not_true, Bool.not_false, decide_eq_true_eq, decide_eq_false_iff_not, List.length_map, Nat.reduceAdd, reduceCtorEq, v_ixH, v_items, v_itemsT, v_itemsL, v_len, v_tuple, v_list, v_listOwn, sset_same, sset_sset, Option.some.injEq, Cell.lst.injEq, Cell.frz.injEq, false_and, exists_false, or_false, false_or, exists_eq_left', ne_eq, not_false_eq_true, isTup, Bool.true_eq_false, Bool.false_eq_true])
local macro_rules | `(tactic| walk_at "wps") => `(tactic| try simp only [u_seq, u_maxD, u_idxD, u_dc, u_get2, u_isET, w_isET2, w_isET3, w_isET4, u_truT, u_iZ3, w_zip3E, u_lcO, u_restE, v_rng1, u_rngV, w_rngE, u_cval, w_isiO, u_par, u_iR3, u_makeSD, u_getXN, rngB_len, u_star, u_rev2L, u_callR, u_binXI, u_callX, u_getX, u_restF, u_binX, u_invX, w_neB, u_methXN, u_makeSN, u_tupR1, u_lc2, u_iZM, w_zipLT, w_zipTL, u_cntL, u_lstR1O, u_fld, w_fld, w_someE, u_setF, u_methX, w_objE, u_makeS, u_sortSet, u_lstR1, u_iZipL, u_iEnL, u_idx, u_popAt, u_cntT, u_idxT, u_callF, w_maxL, w_minL, w_ixDc, w_inDc, w_repL, w_listLs, w_tplT, w_tplP, u_isE, w_isE, u_kitER, u_kitET, u_excE, u_xf, w_xf1, u_slS, u_raise1, u_iEn, w_listStr, w_lenStr, w_catStr, w_ixStr, w_inStr, w_strE, w_strI, w_strS, u_rest, cut_to, cut_from1, Int.zero_add, u_revT, w_repT, u_tupG, u_try, u_gPlain, u_gThen, u_gNil, u_yield, u_gWhile, u_while, u_isX, u_kitR, u_kitT, u_excOk, w_zipE, u_goalX, u_lc, rngD_len, Int.toNat_natCast, u_for, u_iT, u_iL, u_iR1, u_iR2, u_iZ, u_iS, w_lstE, dwipe, u_asg, u_asgS, u_ret, u_retN, u_if, u_next, u_break, u_cont, u_drop, u_raise, u_aug, u_var, u_c, u_op, u_un, u_test, u_and, u_or, u_not, u_yes, u_andV, u_orV, u_notV, u_ifE, u_chain, u_nil, u_cons, u_tup, u_lst, u_own, u_cb, u_call, u_callS, u_name, u_etup, u_enil, u_econs, u_sub, u_app, u_slT, u_slL, u_noPart, u_part, u_revL, ex_some, w_I0, w_I, w_uI, w_int, w_bl, w_isi, w_someb, w_eqI, w_neI, w_eqS, w_neS, w_lenT, w_lenL, w_lenS, w_tupL, w_tupT, w_ixT, w_ixL, w_ixS, w_catT, w_catL, w_all, w_any, w_min2, w_divmod, w_listS, w_listL, w_listT, w_isN, w_notN, w_tupE, w_intE, w_consE, w_hdE, w_cellS, w_set, at0, at1, at2, at3, i_tT, i_tI, i_tB, i_tS, i_nT, i_nI, i_nB, i_nS, i_iT, i_iI, i_iB, i_iS, i_bT, i_bI, i_bB, i_bS, i_sT, i_sI, i_sB, i_sS, v_itemsS, w_eqB, isNone, dstart, List.map, List.length, List.replicate, List.cons_append, List.nil_append, List.append_nil, List.getElem?_cons_zero, List.getElem?_cons_succ, List.set_cons_zero, List.set_cons_succ, ix40, ix42, ix43, true_implies, false_implies, and_true, true_and, Bool.not_true, Bool.not_false, decide_eq_true_eq, decide_eq_false_iff_not, List.length_map, Nat.reduceAdd, reduceCtorEq, v_ixH, v_items, v_itemsT, v_itemsL, v_len, v_tuple, v_list, v_listOwn, sset_same, sset_sset, Option.some.injEq, Cell.lst.injEq, Cell.frz.injEq, false_and, exists_false, or_false, false_or, exists_eq_left', ne_eq, not_false_eq_true, isTup, Bool.true_eq_false, Bool.false_eq_true])
section
variable {P : Program} {w : World} {K : Fg} {mg : Str → Option Value} {base : Heap}
def c_is_number : Con := fun ds μ Φ _ => ∃ i, ds = [.int i] ∧ Φ (.bl true) μ
theorem len_is_number {ds μ Φ Ψ} (h : c_is_number ds μ Φ Ψ) : ds.length = 1 := by obtain ⟨i, rfl, _⟩ := h; rfl
theorem w_is_number {i μ Φ Ψ} : c_is_number [.int i] μ Φ Ψ = Φ (.bl true) μ := propext ⟨fun ⟨j, e, q⟩ => q, fun q => ⟨i, rfl, q⟩⟩
theorem ok_is_number {cx : CXT} (T : Txt P w K mg) : FnOk P w K mg base cx 1 T.f_is_number T.d_is_number ["value"] (spOf K c_is_number) := by
  refine def_okC T.F_is_number sc_is_number _ (fun ds μ Φ Ψ h => len_is_number h) (fun cdv A outer s H E B hW hr =>
    ⟨_, (pss_one (ps_ret (pe_and (pe_callB call_isi (by rfl) T.z_isinstance (by decide +kernel) (pa_cons (pv 0) (pa_cons (pe_bltn (v := .ty "int") rfl T.z_int (by decide +kernel) rfl) pa_nil))) (pe_one (pe_not (pe_callB call_isi (by rfl) T.z_isinstance (by decide +kernel) (pa_cons (pv 0) (pa_cons (pe_bltn (v := .ty "bool") rfl T.z_bool (by decide +kernel) rfl) pa_nil)))))))),
      (sRet (sAndV (sCB (rcIsi (T := "int")) (sCons sVar (sCons sHd sNil))) (sNotV (sCB (rcIsi (T := "bool")) (sCons sVar (sCons sHd sNil))))))⟩) (fun ds μ Φ Ψ h => ?hv)
  case hv =>
    obtain ⟨i, rfl, h⟩ := h
    walk_at "wps"
    exact ret_same h
def c_is_below : Con := fun ds μ Φ _ => ∃ i m, ds = [.int i, .int m] ∧ Φ (.bl (decide (0 ≤ i ∧ i < m))) μ
theorem len_is_below {ds μ Φ Ψ} (h : c_is_below ds μ Φ Ψ) : ds.length = 2 := by obtain ⟨i, m, rfl, _⟩ := h; rfl
theorem w_is_below {i m μ Φ Ψ} : c_is_below [.int i, .int m] μ Φ Ψ = Φ (.bl (decide (0 ≤ i ∧ i < m))) μ := propext ⟨fun ⟨a, b, e, q⟩ => by cases e; exact q, fun q => ⟨i, m, rfl, q⟩⟩
theorem ok_is_below (T : Txt P w K mg) : FnOk P w K mg base (L2N.CX P w) 2 T.f_is_below T.d_is_below ["value", "limit"] (spOf K c_is_below) := by
  refine def_okC T.F_is_below sc_is_below _ (fun ds μ Φ Ψ h => len_is_below h) (fun cdv A outer s H E B hW hr =>
    have tk : L2N.Takes (cxOf (L2N.CX P w) P w K mg base N_is_below "is_below" (defScope s_is_below) T.f_is_below cdv A outer s H E) (fun cls d _ H => E cls d H) := L2N.takes_of rfl rfl rfl rfl
    ⟨_, (pss_one (ps_ret (pe_and (pe_call (ok_is_number T) hr rfl T.g_is_number T.F_is_number.kp T.b_is_number .nil passN (pa_cons (pv 0) pa_nil)) (pe_one (pe_chain op_le op_lt pe_int (pv 0) (pv 1)))))),
      (sRet (sAndV (sCall (sCons sVar sNil)) (sChain roBl0 roBl0 sInt sVar sVar)))⟩) (fun ds μ Φ Ψ h => ?hv)
  case hv =>
    obtain ⟨i, m, rfl, h⟩ := h
    walk_at "wps"
    simp only [w_is_number]
    walk_at "wps"
    refine ⟨fun h1 => ret_same ?_, fun h1 => ret_same ?_⟩
    · simpa [h1] using h
    · simpa [h1] using h
def c_count_choices_L : Con := fun ds μ Φ _ => ∃ ws : List Int, ds = [.lst (ws.map .int)] ∧ (∀ i z, ws[i]? = some z → CMulX (prodI (ws.take i)) z) ∧ Φ (.int (prodI ws)) μ
theorem len_count_choices_L {ds μ Φ Ψ} (h : c_count_choices_L ds μ Φ Ψ) : ds.length = 1 := by obtain ⟨i, rfl, _⟩ := h; rfl
theorem ok_count_choices_L {cx : CXT} (T : Txt P w K mg) : FnOk P w K mg base cx 1 T.f_count_choices T.d_count_choices ["widths"] (spOf K c_count_choices_L) := by
  refine def_okC T.F_count_choices sc_count_choices _ (fun ds μ Φ Ψ h => len_count_choices_L h) (fun cdv A outer s H E B hW hr =>
    ⟨_, (pss_cons (ps_set (i := 1) sc_count_choices.nd rfl (Or.inl rfl) pe_int)
      (pss_cons (ps_for (passes_of rfl) rfl (pi_list (pv 0)) (pg_name (i := 2) sc_count_choices.nd rfl (Or.inl rfl)) (pss_one (ps_set (i := 1) sc_count_choices.nd rfl (Or.inl rfl) (pe_op op_mulX (pv 1) (pv 2)))))
      (pss_one (ps_ret (pv 1))))),
      (sSeq (sAsg sInt sName)
      (sSeq (sFor (siL sVar) (fun _ _ _ => sName) (fun _ _ _ => (sAsg (sOp roInt sVar sVar) sName)))
      (sRet sVar)))⟩) (fun ds μ Φ Ψ h => ?hv)
  case hv =>
    obtain ⟨ws, rfl, hc, h⟩ := h
    walk_at "wps"
    refine ⟨fun i δ' μ' => μ' = μ ∧ ∃ x, δ' = [some (.lst (ws.map .int)), some (.int (prodI (ws.take i))), x], ⟨rfl, none, rfl⟩, ?_, ?_⟩
    · rintro i d δ' μ' hi ⟨rfl, x, rfl⟩
      obtain ⟨z, hz, rfl⟩ := mapI_get hi
      walk_at "wps"
      exact ⟨hc i z hz, _, by rw [prod_snoc hz]⟩
    · rintro δ' μ' ⟨rfl, x, rfl⟩
      rw [List.take_length]
      walk_at "wps"
      exact ret_same h
def c_has_outcomes : Con := fun ds μ Φ _ => ∃ i : Int, ds = [.int i] ∧ Φ (.bl (decide (1 ≤ i ∧ i ≤ 4))) μ
theorem len_has_outcomes {ds μ Φ Ψ} (h : c_has_outcomes ds μ Φ Ψ) : ds.length = 1 := by obtain ⟨i, rfl, _⟩ := h; rfl
theorem w_has_outcomes {i μ Φ Ψ} : c_has_outcomes [.int i] μ Φ Ψ = Φ (.bl (decide (1 ≤ i ∧ i ≤ 4))) μ := propext ⟨fun ⟨a, e, q⟩ => by cases e; exact q, fun q => ⟨i, rfl, q⟩⟩
theorem ok_has_outcomes {cx : CXT} (T : Txt P w K mg) : FnOk P w K mg base cx 1 T.f_has_outcomes T.d_has_outcomes ["outcomes"] (spOf K c_has_outcomes) := by
  refine def_okC T.F_has_outcomes sc_has_outcomes _ (fun ds μ Φ Ψ h => len_has_outcomes h) (fun cdv A outer s H E B hW hr =>
    ⟨_, (pss_one (ps_ret (pe_chain op_le op_le pe_int (pv 0) (pe_glob (v := .int 4) rfl T.g_MOST_OUTCOMES.choose_spec ⟨_, rfl⟩)))),
      (sRet (sChain roBl0 roBl0 sInt sVar sInt))⟩) (fun ds μ Φ Ψ h => ?hv)
  case hv =>
    obtain ⟨i, rfl, h⟩ := h
    walk_at "wps"
    refine ⟨fun h1 => ret_same ?_, fun h1 => ret_same ?_⟩
    · simpa [h1] using h
    · simpa [h1] using h
def c_width_at : Con := fun ds μ Φ _ => ∃ (ws : List Int) (p : Nat), ds = [.tup (ws.map .int), .int (p : Int)] ∧ WsOk ws ∧ Φ (.int (wd ws p : Int)) μ
theorem len_width_at {ds μ Φ Ψ} (h : c_width_at ds μ Φ Ψ) : ds.length = 2 := by obtain ⟨i, _, rfl, _⟩ := h; rfl
theorem ok_width_at {cx : CXT} (T : Txt P w K mg) : FnOk P w K mg base cx 1 T.f_width_at T.d_width_at ["widths", "place"] (spOf K c_width_at) := by
  refine def_okC T.F_width_at sc_width_at _ (fun ds μ Φ Ψ h => len_width_at h) (fun cdv A outer s H E B hW hr =>
    ⟨_, (pss_one (ps_ret (pe_ix ix_tup (pv 0) (pe_op op_mod (pv 1) (pe_callB call_len_seq (by rfl) T.z_len PySem.boot_len (pa_cons (pv 0) pa_nil))) (fun _ _ => rfl)))),
      (sRet (sOp roIxT sVar (sOp roInt sVar (sCB rcLen (sCons sVar sNil)))))⟩) (fun ds μ Φ Ψ h => ?hv)
  case hv =>
    obtain ⟨ws, p, rfl, hw, h⟩ := h
    have h0 := hw.l0
    obtain ⟨x, hx, e, x1, x2⟩ := hw.at_ p
    walk_at "wps"
    have em : (p : Int) % (ws.length : Int) = ((p % ws.length : Nat) : Int) := rfl
    rw [em]
    refine ⟨by omega, _, atI_nat (v := .int x) (by rw [List.getElem?_map, hx]; rfl), ret_same ?_⟩
    rw [e]; exact h
def c_terms_behind : Con := fun ds μ Φ _ => ∃ xs : List D, ds = [.tup xs] ∧ Φ (.tup (xs.drop 2)) μ
theorem len_terms_behind {ds μ Φ Ψ} (h : c_terms_behind ds μ Φ Ψ) : ds.length = 1 := by obtain ⟨i, rfl, _⟩ := h; rfl
theorem ok_terms_behind {cx : CXT} (T : Txt P w K mg) : FnOk P w K mg base cx 1 T.f_terms_behind T.d_terms_behind ["term"] (spOf K c_terms_behind) := by
  refine def_okC T.F_terms_behind sc_terms_behind _ (fun ds μ Φ Ψ h => len_terms_behind h) (fun cdv A outer s H E B hW hr =>
    ⟨_, (pss_one (ps_ret (pe_slice sl_tupN (pv 0) (po_some (pe_glob (v := .int 2) rfl T.g_ITEMS_BEFORE.choose_spec ⟨_, rfl⟩)) po_none))),
      (sRet (sSlT sVar (sPart sInt) sNoPart))⟩) (fun ds μ Φ Ψ h => ?hv)
  case hv =>
    obtain ⟨xs, rfl, h⟩ := h
    walk_at "wps"
    rw [show (2 : Int) = ((2 : Nat) : Int) from rfl, cut_from]
    exact ret_same h
def c_are_widths : Con := fun ds μ Φ _ => ∃ ws : List Int, ds = [.tup (ws.map .int)] ∧ WsOk ws ∧ Φ (.bl true) μ
theorem len_are_widths {ds μ Φ Ψ} (h : c_are_widths ds μ Φ Ψ) : ds.length = 1 := by obtain ⟨i, rfl, _⟩ := h; rfl
theorem ok_are_widths (T : Txt P w K mg) : FnOk P w K mg base (L2N.CX P w) 2 T.f_are_widths T.d_are_widths ["widths"] (spOf K c_are_widths) := by
  refine def_okC T.F_are_widths sc_are_widths _ (fun ds μ Φ Ψ h => len_are_widths h) (fun cdv A outer s H E B hW hr =>
    have tk : L2N.Takes (cxOf (L2N.CX P w) P w K mg base N_are_widths "are_widths" (defScope s_are_widths) T.f_are_widths cdv A outer s H E) (fun cls d _ H => E cls d H) := L2N.takes_of rfl rfl rfl rfl
    ⟨_, (pss_cons (ps_if (PW.pt (pw_or (pt_not (pt_val (pe_callB call_isi (by rfl) T.z_isinstance (by decide +kernel) (pa_cons (pv 0) (pa_cons (pe_bltn (v := .ty "tuple") rfl T.z_tuple (by decide +kernel) rfl) pa_nil))))) (pw_or1 (pt_not (pt_chain op_le op_le pe_int (pe_callB call_len_seq (by rfl) T.z_len PySem.boot_len (pa_cons (pv 0) pa_nil)) (pe_glob (v := .int 6) rfl T.g_MOST_WIDTHS.choose_spec ⟨_, rfl⟩)))))) (pss_one (ps_ret pe_bl)) pss_nil)
      (pss_one (ps_ret (pe_callB (cr_all rfl) (by rfl) T.z_all (by decide +kernel) (pa_cons (pe_lc (own := [("width", 1)]) rfl sc_are_widths.nd (pi_tup (pv 0)) (blkOk_by (N := N_are_widths) (sc := defScope s_are_widths) (by decide +kernel)) (fun _ _ _ _ _ => (pg_name (i := 1) sc_are_widths.nd rfl (Or.inl rfl))) (fun _ _ _ _ _ => pts_nil) (fun _ _ _ _ _ => (pe_and (pe_call (ok_is_number T) hr rfl T.g_is_number T.F_is_number.kp T.b_is_number .nil passN (pa_cons (pv 1) pa_nil)) (pe_one (pe_chain op_le op_le pe_int (pv 1) (pe_glob (v := .int 4) rfl T.g_WIDEST.choose_spec ⟨_, rfl⟩)))))) pa_nil))))),
      (sSeq (sIfS (sOr (sNot (sB (sCB (rcIsi (T := "tuple")) (sCons sVar (sCons sHd sNil))))) (sNot (sTest (sChain roBl0 roBl0 sInt (sCB rcLen (sCons sVar sNil)) sInt)))) (sRet sBl) sNext)
      (sRet (sCB rcAll (sCons (sLc (siT sVar) (gwName List.mem_cons_self) (fun _ _ _ => sName) (fun _ _ _ => sYes) (fun _ _ _ => (sAndV (sCall (sCons sVar sNil)) (sChain roBl0 roBl0 sInt sVar sInt)))) sNil))))⟩) (fun ds μ Φ Ψ h => ?hv)
  case hv =>
    obtain ⟨ws, rfl, hw, h⟩ := h
    have h0 := hw.l0
    have h1 := hw.l1
    walk_at "wps"
    refine ⟨fun _ => ⟨fun q => ?_, fun _ => ?_⟩, fun q => absurd q (by omega)⟩
    · rw [decide_eq_true (by omega)] at q; cases q
    · refine lcZ (fun x => .bl (decide (1 ≤ x ∧ x ≤ 4))) (by omega) (fun x μ2 X hx hsub hk => ?_) ?_
      · have := hw.w x hx
        walk_at "wps"
        simp only [w_is_number]
        walk_at "wps"
        refine ⟨fun c1 => ?_, fun c1 => absurd this.1 c1⟩
        simpa [c1] using hk
      · have e : ws.map (fun x => D.bl (decide (1 ≤ x ∧ x ≤ 4))) = (ws.map fun x => decide (1 ≤ x ∧ x ≤ 4)).map D.bl := by rw [List.map_map]; rfl
        rw [e, w_all]
        refine ret_same ?_
        have e2 : (ws.map fun x => decide (1 ≤ x ∧ x ≤ 4)).all id = true := by
          rw [List.all_map, List.all_eq_true]
          exact fun x hx => decide_eq_true (hw.w x hx)
        rw [e2]; exact h
def c_require_form : Con := fun ds μ Φ _ => ∃ (ws : List Int) (oc : Nat), ds = [.tup (ws.map .int), .int (oc : Int)] ∧ WsOk ws ∧ 1 ≤ oc ∧ oc ≤ 4 ∧ Φ .non μ
theorem len_require_form {ds μ Φ Ψ} (h : c_require_form ds μ Φ Ψ) : ds.length = 2 := by obtain ⟨i, _, rfl, _⟩ := h; rfl
theorem ok_require_form (T : Txt P w K mg) : FnOk P w K mg base (L2N.CX P w) 3 T.f_require_form T.d_require_form ["widths", "outcomes"] (spOf K c_require_form) := by
  refine def_okC T.F_require_form sc_require_form _ (fun ds μ Φ Ψ h => len_require_form h) (fun cdv A outer s H E B hW hr =>
    have tk : L2N.Takes (cxOf (L2N.CX P w) P w K mg base N_require_form "require_form" (defScope s_require_form) T.f_require_form cdv A outer s H E) (fun cls d _ H => E cls d H) := L2N.takes_of rfl rfl rfl rfl
    ⟨_, (pss_one (ps_if (PW.pt (pw_or (pt_not (pt_val (pe_call (ok_has_outcomes T) (hr.mono (by decide)) rfl T.g_has_outcomes T.F_has_outcomes.kp T.b_has_outcomes .nil passN (pa_cons (pv 1) pa_nil)))) (pw_or1 (pt_not (pt_val (pe_call (ok_are_widths T) hr rfl T.g_are_widths T.F_are_widths.kp T.b_are_widths .nil passN (pa_cons (pv 0) pa_nil))))))) (pss_one (L2N.ps_raise rfl tk (L2N.pmk_own PySem.F.excBase_ValueError T.x_OutOfRange T.g_OutOfRange T.k_OutOfRange (raises_own T.e_OutOfRange T.t_OutOfRange) rfl))) pss_nil)),
      (sIfS (sOr (sNot (sB (sCall (sCons sVar sNil)))) (sNot (sB (sCall (sCons sVar sNil))))) (sRaise0W (W := fun cls d _ H => E cls d H) (C := T.c_OutOfRange) (by exact hW)) sNext)⟩) (fun ds μ Φ Ψ h => ?hv)
  case hv =>
    obtain ⟨ws, oc, rfl, hw, o1, o2, h⟩ := h
    walk_at "wps"
    simp only [w_has_outcomes]
    walk_at "wps"
    rw [decide_eq_true (show 1 ≤ (oc : Int) ∧ (oc : Int) ≤ 4 by omega)]
    walk_at "wps"
    refine ⟨ws, rfl, hw, ?_⟩
    walk_at "wps"
    exact ret_same h
def c_has_query_form : Con := fun ds μ Φ _ => ∃ (ws : List Int) (oc lv : Nat) (t : QT), ds = [qD t, .tup (ws.map .int), .int (lv : Int)] ∧ WsOk ws ∧ QOk ws oc t ∧ lv + qDep t ≤ 20 ∧ Φ (.bl true) μ
theorem len_has_query_form {ds μ Φ Ψ} (h : c_has_query_form ds μ Φ Ψ) : ds.length = 3 := by obtain ⟨i, _, _, _, rfl, _⟩ := h; rfl
theorem ok_has_query_form (T : Txt P w K mg) : FnOk P w K mg base (L2N.CX P w) 3 T.f_has_query_form T.d_has_query_form ["term", "widths", "level"] (spOf K c_has_query_form) := by
  refine def_okC T.F_has_query_form sc_has_query_form _ (fun ds μ Φ Ψ h => len_has_query_form h) (fun cdv A outer s H E B hW hr =>
    have tk : L2N.Takes (cxOf (L2N.CX P w) P w K mg base N_has_query_form "has_query_form" (defScope s_has_query_form) T.f_has_query_form cdv A outer s H E) (fun cls d _ H => E cls d H) := L2N.takes_of rfl rfl rfl rfl
    ⟨_, (pss_cons (ps_if (PW.pt (pw_or (pt_not (pt_val (pe_callB call_isi (by rfl) T.z_isinstance (by decide +kernel) (pa_cons (pv 0) (pa_cons (pe_bltn (v := .ty "tuple") rfl T.z_tuple (by decide +kernel) rfl) pa_nil))))) (pw_or1 (pt_cmpR op_eq (pe_callB call_len_seq (by rfl) T.z_len PySem.boot_len (pa_cons (pv 0) pa_nil)) pe_int (nomark _))))) (pss_one (ps_ret pe_bl)) pss_nil)
      (pss_cons (ps_if (pt_cmpR op_eq (pe_ix ix_tup (pv 0) pe_int (fun _ _ => rfl)) pe_str (nomark _)) (pss_one (ps_ret (pe_cmpR op_eq (pe_callB call_len_seq (by rfl) T.z_len PySem.boot_len (pa_cons (pv 0) pa_nil)) pe_int (nomark _)))) pss_nil)
      (pss_cons (ps_if (PW.pt (pw_or (pt_cmpR op_ne (pe_ix ix_tup (pv 0) pe_int (fun _ _ => rfl)) pe_str (nomark _)) (pw_or (pt_cmpR op_le (pe_callB call_len_seq (by rfl) T.z_len PySem.boot_len (pa_cons (pv 0) pa_nil)) (pe_glob (v := .int 2) rfl T.g_ITEMS_BEFORE.choose_spec ⟨_, rfl⟩) (nomark _)) (pw_or1 (pt_cmpR op_ge (pv 2) (ClX.pe_cval (pe_glob (v := .ref T.c_Query) rfl T.g_Query rfl)) (nomark _)))))) (pss_one (ps_ret pe_bl)) pss_nil)
      (pss_one (ps_ret (pe_or (pe_not (pe_call (ok_is_below T) hr rfl T.g_is_below T.F_is_below.kp T.b_is_below .nil passN (pa_cons (pe_ix ix_tup (pv 0) pe_int (fun _ _ => rfl)) (pa_cons (pe_glob (v := .int 100) rfl T.g_PLACES.choose_spec ⟨_, rfl⟩) pa_nil)))) (pe_one (pe_cmpR op_eq (pe_callB call_len_seq (by rfl) T.z_len PySem.boot_len (pa_cons (pe_call (ok_terms_behind T) (hr.mono (by decide)) rfl T.g_terms_behind T.F_terms_behind.kp T.b_terms_behind .nil passN (pa_cons (pv 0) pa_nil)) pa_nil)) (pe_call (ok_width_at T) (hr.mono (by decide)) rfl T.g_width_at T.F_width_at.kp T.b_width_at .nil passN (pa_cons (pv 1) (pa_cons (pe_ix ix_tup (pv 0) pe_int (fun _ _ => rfl)) pa_nil))) (nomark _))))))))),
      (sSeq (sIfS (sOr (sNot (sB (sCB (rcIsi (T := "tuple")) (sCons sVar (sCons sHd sNil))))) (sTest (sOp roEq (sCB rcLen (sCons sVar sNil)) sInt))) (sRet sBl) sNext)
      (sSeq (sIfS (sTest (sOp roEq (sOp roIxT sVar sInt) sStr)) (sRet (sOp roEq (sCB rcLen (sCons sVar sNil)) sInt)) sNext)
      (sSeq (sIfS (sOr (sTest (sOp roNe (sOp roIxT sVar sInt) sStr)) (sOr (sTest (sOp roBl0 (sCB rcLen (sCons sVar sNil)) sInt)) (sTest (sOp roBl0 sVar (sCVal (n := 20) T.rd_Query T.cv_Query_MOST_LEVELS sHd))))) (sRet sBl) sNext)
      (sRet (sOrV (sNotV (sCall (sCons (sOp roIxT sVar sInt) (sCons sInt sNil)))) (sOp roEq (sCB rcLen (sCons (sCall (sCons sVar sNil)) sNil)) (sCall (sCons sVar (sCons (sOp roIxT sVar sInt) sNil)))))))))⟩) (fun ds μ Φ Ψ h => ?hv)
  case hv =>
    obtain ⟨ws, oc, lv, t, rfl, hw, ht, hl, h⟩ := h
    cases t with
    | tell o =>
      rw [qD]
      refine seq_cut fun M hM => ?_
      walk_at "wp"
      refine ⟨fun q => absurd q (by omega), fun _ => ?_⟩
      rw [hM]; clear hM M
      refine seq_cut fun M hM => ?_
      walk_at "wp"
      exact ⟨ret_same h, fun z => absurd trivial z⟩
    | look p ts =>
      obtain ⟨hp, hlen, hts⟩ := ht
      have hw1 := hw.wd1 p
      have e1 : (qDs ts).length = ts.length := qDs_len ts
      rw [qDep] at hl
      rw [qD]
      refine seq_cut fun M hM => ?_
      walk_at "wp"
      refine ⟨fun q => absurd q (by omega), fun _ => ?_⟩
      rw [hM]; clear hM M
      refine seq_cut fun M hM => ?_
      walk_at "wp"
      refine ⟨fun q => absurd q (by decide), fun _ => ?_⟩
      rw [hM]; clear hM M
      refine seq_cut fun M hM => ?_
      walk_at "wp"
      refine ⟨fun q => ?_, fun _ => ⟨fun q => absurd q (by omega), fun _ => ⟨fun q => absurd q (by omega), fun _ => ?_⟩⟩⟩
      · exact absurd q (by decide)
      rw [hM]; clear hM M
      walk_at "wps"
      simp only [w_is_below]
      walk_at "wps"
      rw [decide_eq_true (show 0 ≤ (p : Int) ∧ (p : Int) < 100 by omega)]
      walk_at "wps"
      refine ⟨_, rfl, _, .tup _, ws, p, rfl, hw, ?_⟩
      walk_at "wps"
      rw [List.drop_succ_cons, List.drop_succ_cons, List.drop_zero, e1, hlen, decide_eq_true rfl]
      exact ret_same h
end
section
variable {P : Program} {w : World} {K : Fg} {mg : Str → Option Value} {base : Heap}
def c_wrong_query (n : Nat) : Con := fun ds μ Φ _ => ∃ (ws : List Int) (oc lv : Nat) (t : QT), ds = [qD t, .tup (ws.map .int), .int (oc : Int), .int (lv : Int)] ∧ WsOk ws ∧ QOk ws oc t ∧ lv + qDep t ≤ 20 ∧ qDep t < n ∧ Φ .non μ
theorem len_wrong_query {n ds μ Φ Ψ} (h : c_wrong_query n ds μ Φ Ψ) : ds.length = 4 := by obtain ⟨i, _, _, _, rfl, _⟩ := h; rfl
theorem step_wrong_query (T : Txt P w K mg) {k : Nat} (hk : 4 ≤ k) (n : Nat) (ih_wrong_query : FnOk P w K mg base (L2N.CX P w) k T.f_wrong_query T.d_wrong_query ["term", "widths", "outcomes", "level"] (spOf K (c_wrong_query n))) : FnOk P w K mg base (L2N.CX P w) (k + 1) T.f_wrong_query T.d_wrong_query ["term", "widths", "outcomes", "level"] (spOf K (c_wrong_query (n + 1))) := by
  refine def_okC T.F_wrong_query sc_wrong_query _ (fun ds μ Φ Ψ h => len_wrong_query h) (fun cdv A outer s H E B hW hr =>
    have tk : L2N.Takes (cxOf (L2N.CX P w) P w K mg base N_wrong_query "wrong_query" (defScope s_wrong_query) T.f_wrong_query cdv A outer s H E) (fun cls d _ H => E cls d H) := L2N.takes_of rfl rfl rfl rfl
    ⟨_, (pss_cons (ps_if (pt_not (pt_val (pe_call (ok_has_query_form T) (hr.mono (by omega)) rfl T.g_has_query_form T.F_has_query_form.kp T.b_has_query_form .nil passN (pa_cons (pv 0) (pa_cons (pv 1) (pa_cons (pv 3) pa_nil)))))) (pss_one (ps_ret (pe_tupN pa_nil))) pss_nil)
      (pss_cons (ps_if (pt_cmpR op_eq (pe_ix ix_tup (pv 0) pe_int (fun _ _ => rfl)) pe_str (nomark _)) (pss_one (ps_ret (pe_ifExp (pt_val (pe_call (ok_is_below T) (hr.mono (by omega)) rfl T.g_is_below T.F_is_below.kp T.b_is_below .nil passN (pa_cons (pe_ix ix_tup (pv 0) pe_int (fun _ _ => rfl)) (pa_cons (pv 2) pa_nil)))) pe_non (pe_tupN (pa_cons pe_int pa_nil))))) pss_nil)
      (pss_cons (ps_if (pt_not (pt_val (pe_call (ok_is_below T) (hr.mono (by omega)) rfl T.g_is_below T.F_is_below.kp T.b_is_below .nil passN (pa_cons (pe_ix ix_tup (pv 0) pe_int (fun _ _ => rfl)) (pa_cons (pe_glob (v := .int 100) rfl T.g_PLACES.choose_spec ⟨_, rfl⟩) pa_nil))))) (pss_one (ps_ret (pe_tupN (pa_cons pe_int pa_nil)))) pss_nil)
      (pss_cons (ps_for (passes_of rfl) rfl (pi_enumTg (n := 2) (by rfl) T.z_enumerate (pe_glob (v := .int 2) rfl T.g_ITEMS_BEFORE.choose_spec ⟨_, rfl⟩) (pa_cons (pe_call (ok_terms_behind T) (hr.mono (by omega)) rfl T.g_terms_behind T.F_terms_behind.kp T.b_terms_behind .nil passN (pa_cons (pv 0) pa_nil)) pa_nil) (by decide) (by decide)) (pg_tup (n := 2) rfl (pgs_cons (pg_name (i := 4) sc_wrong_query.nd rfl (Or.inl rfl)) (pgs_cons (pg_name (i := 5) sc_wrong_query.nd rfl (Or.inl rfl)) pgs_nil))) (pss_cons (ps_set (i := 6) sc_wrong_query.nd rfl (Or.inl rfl) (pe_call ih_wrong_query hr rfl T.g_wrong_query T.F_wrong_query.kp T.b_wrong_query .nil passN (pa_cons (pv 5) (pa_cons (pv 1) (pa_cons (pv 2) (pa_cons (pe_op op_add (pv 3) pe_int) pa_nil))))))
      (pss_one (ps_if (pt_cmpR op_notN (pv 6) pe_non (nomark _)) (pss_one (ps_ret (pe_op op_catN (pe_tupN (pa_cons (pv 4) pa_nil)) (pv 6)))) pss_nil))))
      (pss_one (ps_ret pe_non)))))),
      (sSeq (sIfS (sNot (sB (sCall (sCons sVar (sCons sVar (sCons sVar sNil)))))) (sRet (sTup sNil)) sNext)
      (sSeq (sIfS (sTest (sOp roEq (sOp roIxT sVar sInt) sStr)) (sRet (sIf (sB (sCall (sCons (sOp roIxT sVar sInt) (sCons sVar sNil)))) sNon (sTup (sCons sInt sNil)))) sNext)
      (sSeq (sIfS (sNot (sB (sCall (sCons (sOp roIxT sVar sInt) (sCons sInt sNil))))) (sRet (sTup (sCons sInt sNil))) sNext)
      (sSeq (sFor (siEnumT (sCall (sCons sVar sNil))) (fun _ _ _ => (sgTup (sgCons sName (sgCons sName sgNil)))) (fun _ _ _ => (sSeq (sAsg (sCall (sCons sVar (sCons sVar (sCons sVar (sCons (sOp roInt0 sVar sInt) sNil))))) sName)
      (sIfS (sTest (sOp roNotN sVar sNon)) (sRet (sOp roCatT (sTup (sCons sVar sNil)) sVar)) sNext))))
      (sRet sNon)))))⟩) (fun ds μ Φ Ψ h => ?hv)
  case hv =>
    obtain ⟨ws, oc, lv, t, rfl, hw, ht, hl, hn, h⟩ := h
    refine seq_cut fun M hM => ?_
    walk_at "wp"
    refine ⟨ws, oc, lv, t, rfl, hw, ht, hl, ?_⟩
    walk_at "wp"
    rw [hM]; clear hM M
    cases t with
    | tell o =>
      rw [qD]
      refine seq_cut fun M hM => ?_
      walk_at "wp"
      have ho : o < oc := ht
      refine ⟨?_, fun z => absurd trivial z⟩
      simp only [w_is_below]
      walk_at "wp"
      refine ⟨fun _ => ret_same h, fun z => absurd (show 0 ≤ (o : Int) ∧ (o : Int) < (oc : Int) by omega) z⟩
    | look p ts =>
      obtain ⟨hp, hlen, hts⟩ := ht
      rw [qoks_iff] at hts
      rw [qDep] at hl hn
      rw [qD]
      refine seq_cut fun M hM => ?_
      walk_at "wp"
      refine ⟨fun q => absurd q (by decide), fun _ => ?_⟩
      rw [hM]; clear hM M
      refine seq_cut fun M hM => ?_
      walk_at "wp"
      simp only [w_is_below]
      walk_at "wp"
      rw [decide_eq_true (show 0 ≤ (p : Int) ∧ (p : Int) < 100 by omega)]
      walk_at "wp"
      rw [hM]; clear hM M
      refine seq_cut fun M hM => ?_
      walk_at "wp"
      refine ⟨_, rfl, _, rfl, ?_⟩
      rw [List.drop_succ_cons, List.drop_succ_cons, List.drop_zero]
      have e1 : (qDs ts).length = ts.length := qDs_len ts
      refine ⟨fun _ δ' μ' => μ' = μ ∧ ∃ x y z, δ' = [some (.tup (.str "look" :: .int (p : Int) :: qDs ts)), some (.tup (ws.map .int)), some (.int (oc : Int)), some (.int (lv : Int)), x, y, z], ⟨rfl, none, none, none, rfl⟩, ?_, ?_⟩
      · rintro i d δ' μ' hi ⟨rfl, x, y, z, rfl⟩
        have hil : i < ts.length := by have := (List.getElem?_eq_some_iff.mp hi).1; rw [List.length_map, List.length_range, e1] at this; exact this
        rw [List.getElem?_map, List.getElem?_range (by rw [e1]; exact hil)] at hi
        cases hi
        have hd := qdeps_le (List.getElem_mem hil)
        refine ⟨_, rfl, rfl, _, _, rfl, _, _, rfl, rfl, ?_⟩
        rw [qDs_at hil]
        walk_at "wps"
        refine ⟨ws, oc, lv + 1, ts[i], rfl, hw, hts _ (List.getElem_mem hil), by omega, by omega, ?_⟩
        walk_at "wps"
        exact ⟨_, _, _, rfl⟩
      · rintro δ' μ' ⟨rfl, x, y, z, rfl⟩
        rw [hM]
        walk_at "wp"
        exact ret_same h
def c_places_of (n : Nat) : Con := fun ds μ Φ _ => ∃ (ws : List Int) (oc : Nat) (t : QT), ds = [qD t] ∧ QOk ws oc t ∧ qDep t < n ∧ (qPl t).length ≤ 1000 ∧ Φ (.lst (nI (qPl t))) μ
theorem len_places_of {n ds μ Φ Ψ} (h : c_places_of n ds μ Φ Ψ) : ds.length = 1 := by obtain ⟨i, _, _, rfl, _⟩ := h; rfl
theorem step_places_of (T : Txt P w K mg) {k : Nat} (hk : 4 ≤ k) (n : Nat) (ih_places_of : FnOk P w K mg base (L2N.CX P w) k T.f_places_of T.d_places_of ["term"] (spOf K (c_places_of n))) : FnOk P w K mg base (L2N.CX P w) (k + 1) T.f_places_of T.d_places_of ["term"] (spOf K (c_places_of (n + 1))) := by
  refine def_okC T.F_places_of sc_places_of _ (fun ds μ Φ Ψ h => len_places_of h) (fun cdv A outer s H E B hW hr =>
    have tk : L2N.Takes (cxOf (L2N.CX P w) P w K mg base N_places_of "places_of" (defScope s_places_of) T.f_places_of cdv A outer s H E) (fun cls d _ H => E cls d H) := L2N.takes_of rfl rfl rfl rfl
    ⟨_, (pss_cons (ps_if (pt_cmpR op_eq (pe_ix ix_tup (pv 0) pe_int (fun _ _ => rfl)) pe_str (nomark _)) (pss_one (ps_ret (pe_lst pa_nil))) pss_nil)
      (pss_one (ps_ret (pe_op op_cat (pe_lst (pa_cons (pe_ix ix_tup (pv 0) pe_int (fun _ _ => rfl)) pa_nil)) (pe_lc2 (own := [("below", 1), ("place", 2)]) (vs1 := [2]) rfl sc_places_of.nd (pi_tup (pe_call (ok_terms_behind T) (hr.mono (by omega)) rfl T.g_terms_behind T.F_terms_behind.kp T.b_terms_behind .nil passN (pa_cons (pv 0) pa_nil))) (blkOk_by (N := N_places_of) (sc := defScope s_places_of) (by decide +kernel)) (by decide) (fun _ _ _ _ _ => (pg_name (i := 1) sc_places_of.nd rfl (Or.inl rfl))) (fun _ _ _ _ _ => pts_nil) (fun _ _ _ _ _ => (pi_list (pe_call ih_places_of hr (by rfl) T.g_places_of T.F_places_of.kp T.b_places_of .nil passN (pa_cons (pv 1) pa_nil)))) (fun _ _ _ _ _ => (pg_name (i := 2) sc_places_of.nd rfl (Or.inl rfl))) (fun _ _ _ _ _ => pts_nil) (fun _ _ _ _ _ => (pv 2))))))),
      (sSeq (sIfS (sTest (sOp roEq (sOp roIxT sVar sInt) sStr)) (sRet (sLst sNil)) sNext)
      (sRet (sOp roCatL (sLst (sCons (sOp roIxT sVar sInt) sNil)) (sLc2 (siT (sCall (sCons sVar sNil))) (gwName List.mem_cons_self) (gwName List.mem_cons_self) (fun _ _ _ => sName) (fun _ _ _ => sYes) (fun _ _ _ => (siL (sCall (sCons sVar sNil)))) (fun _ _ _ => sName) (fun _ _ _ => sYes) (fun _ _ _ => sVar)))))⟩) (fun ds μ Φ Ψ h => ?hv)
  case hv =>
    obtain ⟨ws, oc, t, rfl, ht, hn, hb, h⟩ := h
    cases t with
    | tell o =>
      rw [qD]
      walk_at "wps"
      exact ⟨⟨by omega, ret_same h⟩, fun z => absurd trivial z⟩
    | look p ts =>
      obtain ⟨hp, hlen, hts⟩ := ht
      rw [qoks_iff] at hts
      rw [qDep] at hn
      rw [qPl, List.length_cons] at hb
      rw [qD]
      walk_at "wps"
      refine ⟨fun q => absurd q (by decide), fun _ => ⟨by omega, _, rfl, _, rfl, ?_⟩⟩
      rw [List.drop_succ_cons, List.drop_succ_cons, List.drop_zero]
      have hcol : ∀ i, i < ts.length → (qPl (ts.getD i (.tell 0))).length ≤ (qPl.qPls ts).length := fun i hi => by
        rw [List.getD_eq_getElem?_getD, List.getElem?_eq_getElem hi]
        exact qpls_len (List.getElem_mem hi)
      have e1 : (qDs ts).length = ts.length := qDs_len ts
      refine lcG2_pure (fun i => nI (qPl (ts.getD i (.tell 0)))) (fun i j => .int (((qPl (ts.getD i (.tell 0))).getD j 0 : Nat) : Int)) (fun i hi => ?_) (fun i => ?_) (fun i d μ2 X hi hsub hx => ?_) (fun i d j d1 μ2 X hi hj hsub hx => ?_) ?_
      · rw [e1] at hi
        rw [nI_flat ts i hi, nI_len]
        have := qpls_take ts i
        omega
      · rw [nI_len]
        by_cases hi : i < ts.length
        · have := hcol i hi
          omega
        · rw [List.getD_eq_getElem?_getD, List.getElem?_eq_none (by omega)]
          show ([] : List Nat).length ≤ 50000
          decide
      · obtain ⟨hil, rfl⟩ := qDs_get hi
        have hd := qdeps_le (List.getElem_mem hil)
        have hl := qpls_len (List.getElem_mem hil)
        walk_at "wps"
        refine ⟨ws, oc, ts[i], rfl, hts _ (List.getElem_mem hil), by omega, by omega, ?_⟩
        rw [List.getD_eq_getElem?_getD, List.getElem?_eq_getElem hil] at hx
        exact ⟨_, rfl, hx⟩
      · obtain ⟨hjl, rfl⟩ := nI_get hj
        walk_at "wps"
        rw [List.getD_eq_getElem?_getD, List.getElem?_eq_getElem hjl] at hx
        exact hx
      · rw [e1, nI_flat ts _ (Nat.le_refl _), List.take_length]
        walk_at "wps"
        rw [nI_len]
        exact ⟨by omega, ret_same (by rw [qPl] at h; exact h)⟩
end
section
variable {P : Program} {w : World} {K : Fg} {mg : Str → Option Value} {base : Heap}
theorem fn_never {P : Program} {w : World} {K : Fg} {mg : Str → Option Value} {base : Heap} {CX : CXT} {k : Nat} {f : Addr} {fd : FuncData} {ps : List Str} {c : Con} (h : ∀ ds μ Φ Ψ, ¬ c ds μ Φ Ψ) : FnOk P w K mg base CX k f fd ps (spOf K c) :=
  ⟨fun vs H Q E q => by obtain ⟨μ, ds, Φ, Ψ, _, _, hc, _⟩ := q; exact absurd hc (h _ _ _ _), fun A outer s H args us vs Q E _ _ _ _ q => by obtain ⟨μ, ds, Φ, Ψ, _, _, hc, _⟩ := q; exact absurd hc (h _ _ _ _)⟩
section
variable {P : Program} {w : World} {K : Fg} {mg : Str → Option Value} {base : Heap}
theorem okN_wrong_query (T : Txt P w K mg) : ∀ n, FnOk P w K mg base (L2N.CX P w) (4 + n) T.f_wrong_query T.d_wrong_query ["term", "widths", "outcomes", "level"] (spOf K (c_wrong_query n))
  | 0 => fn_never fun ds μ Φ Ψ h => by obtain ⟨_, _, _, _, _, _, _, _, h, _⟩ := h; omega
  | n + 1 => step_wrong_query T (k := 4 + n) (by omega) n (okN_wrong_query T n)
theorem ok_wrong_query (T : Txt P w K mg) : FnOk P w K mg base (L2N.CX P w) 30 T.f_wrong_query T.d_wrong_query ["term", "widths", "outcomes", "level"] (spOf K (c_wrong_query 21)) := (okN_wrong_query T 21).mono (by decide)
theorem okN_places_of (T : Txt P w K mg) : ∀ n, FnOk P w K mg base (L2N.CX P w) (4 + n) T.f_places_of T.d_places_of ["term"] (spOf K (c_places_of n))
  | 0 => fn_never fun ds μ Φ Ψ h => by obtain ⟨_, _, _, _, _, h, _⟩ := h; omega
  | n + 1 => step_places_of T (k := 4 + n) (by omega) n (okN_places_of T n)
theorem ok_places_of (T : Txt P w K mg) : FnOk P w K mg base (L2N.CX P w) 30 T.f_places_of T.d_places_of ["term"] (spOf K (c_places_of 21)) := (okN_places_of T 21).mono (by decide)
end
def c_require_few : Con := fun ds μ Φ _ => ∃ (ws : List Int) (l ps : List Nat), ds = [.lst (nI l), .tup (ws.map .int)] ∧ WsOk ws ∧ l.length ≤ 300 ∧ ps.Pairwise (· < ·) ∧ ps.length ≤ 8 ∧ wpr ws ps ≤ 256 ∧ (∀ q ∈ l, q ∈ ps) ∧ Φ .non μ
theorem len_require_few {ds μ Φ Ψ} (h : c_require_few ds μ Φ Ψ) : ds.length = 2 := by obtain ⟨i, _, _, rfl, _⟩ := h; rfl
theorem ok_require_few (T : Txt P w K mg) : FnOk P w K mg base (L2N.CX P w) 3 T.f_require_few T.d_require_few ["places", "widths"] (spOf K c_require_few) := by
  refine def_okC T.F_require_few sc_require_few _ (fun ds μ Φ Ψ h => len_require_few h) (fun cdv A outer s H E B hW hr =>
    have tk : L2N.Takes (cxOf (L2N.CX P w) P w K mg base N_require_few "require_few" (defScope s_require_few) T.f_require_few cdv A outer s H E) (fun cls d _ H => E cls d H) := L2N.takes_of rfl rfl rfl rfl
    ⟨_, (pss_cons (ps_if (pt_cmpR op_gt (pe_callB call_len_seq (by rfl) T.z_len PySem.boot_len (pa_cons (pv 0) pa_nil)) (ClX.pe_cval (pe_glob (v := .ref T.c_Query) rfl T.g_Query rfl)) (nomark _)) (pss_one (L2N.ps_raise rfl tk (L2N.pmk_own PySem.F.excBase_ValueError T.x_TooLarge T.g_TooLarge T.k_TooLarge (raises_own T.e_TooLarge T.t_TooLarge) rfl))) pss_nil)
      (pss_one (ps_if (pt_cmpR op_gt (pe_call (ok_count_choices_L T) (hr.mono (by decide)) rfl T.g_count_choices T.F_count_choices.kp T.b_count_choices .nil passN (pa_cons (pe_lc (own := [("place", 2)]) rfl sc_require_few.nd (pi_list (pe_sortSet rfl T.z_sorted rfl T.z_set (pv 0))) (blkOk_by (N := N_require_few) (sc := defScope s_require_few) (by decide +kernel)) (fun _ _ _ _ _ => (pg_name (i := 2) sc_require_few.nd rfl (Or.inl rfl))) (fun _ _ _ _ _ => pts_nil) (fun _ _ _ _ _ => (pe_call (ok_width_at T) (hr.mono (by decide)) rfl T.g_width_at T.F_width_at.kp T.b_width_at .nil passN (pa_cons (pv 1) (pa_cons (pv 2) pa_nil))))) pa_nil)) (ClX.pe_cval (pe_glob (v := .ref T.c_Query) rfl T.g_Query rfl)) (nomark _)) (pss_one (L2N.ps_raise rfl tk (L2N.pmk_own PySem.F.excBase_ValueError T.x_TooLarge T.g_TooLarge T.k_TooLarge (raises_own T.e_TooLarge T.t_TooLarge) rfl))) pss_nil))),
      (sSeq (sIfS (sTest (sOp roBl0 (sCB rcLen (sCons sVar sNil)) (sCVal (n := 300) T.rd_Query T.cv_Query_MOST_LOOKS sHd))) (sRaise0W (W := fun cls d _ H => E cls d H) (C := T.c_TooLarge) (by exact hW)) sNext)
      (sIfS (sTest (sOp roBl0 (sCall (sCons (sLc (siL (sSortSet sVar)) (gwName List.mem_cons_self) (fun _ _ _ => sName) (fun _ _ _ => sYes) (fun _ _ _ => (sCall (sCons sVar (sCons sVar sNil))))) sNil)) (sCVal (n := 256) T.rd_Query T.cv_Query_MOST_CHOICES sHd))) (sRaise0W (W := fun cls d _ H => E cls d H) (C := T.c_TooLarge) (by exact hW)) sNext))⟩) (fun ds μ Φ Ψ h => ?hv)
  case hv =>
    obtain ⟨ws, l, ps, rfl, hw, hl, hp, hp8, hp2, hm, h⟩ := h
    refine seq_cut fun M hM => ?_
    walk_at "wp"
    rw [nI_len]
    refine ⟨fun z => absurd z (by omega), fun _ => ?_⟩
    rw [hM]; clear hM M
    walk_at "wp"
    refine ⟨l.map fun (n : Nat) => (n : Int), by rw [nI_ints]; exact .lst _, ⟨by rw [List.length_map]; omega, ps.map fun (n : Nat) => (n : Int), by rw [List.length_map]; omega, fun z hz => ?_⟩, fun ns hs hn => ?_⟩
    · obtain ⟨q, hq, rfl⟩ := List.mem_map.mp hz
      exact List.mem_map.mpr ⟨q, hm q hq, rfl⟩
    obtain ⟨ms, rfl⟩ : ∃ ms : List Nat, ns = ms.map fun (n : Nat) => (n : Int) := ⟨ns.map Int.toNat, by
      rw [List.map_map]
      refine (List.map_id _).symm.trans (List.map_congr_left fun k hk => ?_)
      obtain ⟨q, _, rfl⟩ := List.mem_map.mp ((hn k).mp hk)
      rfl⟩
    have hms : ms.Pairwise (· < ·) := (List.pairwise_map.mp hs).imp fun {a b} q => by omega
    have hsub : ∀ q ∈ ms, q ∈ ps := fun q hq => by
      obtain ⟨q2, hq2, e⟩ := List.mem_map.mp ((hn (q : Int)).mp (List.mem_map.mpr ⟨q, hq, rfl⟩))
      obtain rfl : q2 = q := Int.ofNat.inj e
      exact hm _ hq2
    obtain ⟨w1, w2⟩ := wpr_mono hw hms hp hsub
    refine lcZ (fun x => .int (wd ws x.toNat : Int)) (by rw [List.length_map]; omega) (fun x μ2 X hx hsub hk => ?_) ?_
    · obtain ⟨q, hq, rfl⟩ := List.mem_map.mp hx
      walk_at "wps"
      exact ⟨ws, q, rfl, hw, hk⟩
    · rw [show (ms.map fun (n : Nat) => (n : Int)).map (fun x => D.int (wd ws x.toNat : Int)) = (ms.map fun (p : Nat) => (wd ws p : Int)).map D.int from by rw [List.map_map, List.map_map]; rfl]
      refine ⟨_, rfl, fun i z hz => ?_, ?_⟩
      · rw [List.getElem?_map] at hz
        obtain ⟨q, _, rfl⟩ := Option.map_eq_some_iff.mp hz
        rw [← List.map_take, prod_wpr]
        have h1 := (wpr_mono hw (hms.sublist (List.take_sublist i ms)) hp fun q hq => hsub q (List.mem_of_mem_take hq)).1
        have h2 := hw.wd1 q
        exact mulx 10 3 (by omega) (by omega) (by decide)
      · rw [prod_wpr]
        walk_at "wp"
        refine ⟨fun z => absurd z (by omega), fun _ => ⟨_, Sub.refl, h⟩⟩
def c_fixed_term (n : Nat) : Con := fun ds μ Φ _ => ∃ (ws : List Int) (oc m o : Nat) (t : QT), ds = [qD t, .int (m : Int), .int (o : Int)] ∧ QOk ws oc t ∧ WsOk ws ∧ o < wd ws m ∧ qDep t < n ∧ Φ (qD (qFx m o t)) μ
theorem len_fixed_term {n ds μ Φ Ψ} (h : c_fixed_term n ds μ Φ Ψ) : ds.length = 3 := by obtain ⟨i, _, _, _, _, rfl, _⟩ := h; rfl
theorem step_fixed_term (T : Txt P w K mg) {k : Nat} (hk : 4 ≤ k) (n : Nat) (ih_fixed_term : FnOk P w K mg base (L2N.CX P w) k T.f_fixed_term T.d_fixed_term ["term", "place", "option"] (spOf K (c_fixed_term n))) : FnOk P w K mg base (L2N.CX P w) (k + 1) T.f_fixed_term T.d_fixed_term ["term", "place", "option"] (spOf K (c_fixed_term (n + 1))) := by
  refine def_okC T.F_fixed_term sc_fixed_term _ (fun ds μ Φ Ψ h => len_fixed_term h) (fun cdv A outer s H E B hW hr =>
    have tk : L2N.Takes (cxOf (L2N.CX P w) P w K mg base N_fixed_term "fixed_term" (defScope s_fixed_term) T.f_fixed_term cdv A outer s H E) (fun cls d _ H => E cls d H) := L2N.takes_of rfl rfl rfl rfl
    ⟨_, (pss_cons (ps_if (pt_cmpR op_eq (pe_ix ix_tup (pv 0) pe_int (fun _ _ => rfl)) pe_str (nomark _)) (pss_one (ps_ret (pv 0))) pss_nil)
      (pss_cons (ps_if (pt_cmpR op_eq (pe_ix ix_tup (pv 0) pe_int (fun _ _ => rfl)) (pv 1) (nomark _)) (pss_one (ps_ret (pe_call ih_fixed_term hr rfl T.g_fixed_term T.F_fixed_term.kp T.b_fixed_term .nil passN (pa_cons (pe_ix ix_tup (pv 0) (pe_op op_add (pe_glob (v := .int 2) rfl T.g_ITEMS_BEFORE.choose_spec ⟨_, rfl⟩) (pv 2)) (fun _ _ => rfl)) (pa_cons (pv 1) (pa_cons (pv 2) pa_nil)))))) pss_nil)
      (pss_one (ps_ret (pe_op op_catN (pe_slice sl_tupN (pv 0) po_none (po_some (pe_glob (v := .int 2) rfl T.g_ITEMS_BEFORE.choose_spec ⟨_, rfl⟩))) (pe_callTy call_tupleN (by rfl) T.z_tuple (by decide +kernel) (pa_cons (pe_lc (own := [("below", 3)]) rfl sc_fixed_term.nd (pi_tup (pe_call (ok_terms_behind T) (hr.mono (by omega)) rfl T.g_terms_behind T.F_terms_behind.kp T.b_terms_behind .nil passN (pa_cons (pv 0) pa_nil))) (blkOk_by (N := N_fixed_term) (sc := defScope s_fixed_term) (by decide +kernel)) (fun _ _ _ _ _ => (pg_name (i := 3) sc_fixed_term.nd rfl (Or.inl rfl))) (fun _ _ _ _ _ => pts_nil) (fun _ _ _ _ _ => (pe_call ih_fixed_term hr rfl T.g_fixed_term T.F_fixed_term.kp T.b_fixed_term .nil passN (pa_cons (pv 3) (pa_cons (pv 1) (pa_cons (pv 2) pa_nil)))))) pa_nil))))))),
      (sSeq (sIfS (sTest (sOp roEq (sOp roIxT sVar sInt) sStr)) (sRet sVar) sNext)
      (sSeq (sIfS (sTest (sOp roEq (sOp roIxT sVar sInt) sVar)) (sRet (sCall (sCons (sOp roIxT sVar (sOp roInt0 sInt sVar)) (sCons sVar (sCons sVar sNil))))) sNext)
      (sRet (sOp roCatT (sSlT sVar sNoPart (sPart sInt)) (sCB rcTuple (sCons (sLc (siT (sCall (sCons sVar sNil))) (gwName List.mem_cons_self) (fun _ _ _ => sName) (fun _ _ _ => sYes) (fun _ _ _ => (sCall (sCons sVar (sCons sVar (sCons sVar sNil)))))) sNil))))))⟩) (fun ds μ Φ Ψ h => ?hv)
  case hv =>
    obtain ⟨ws, oc, m, o, t, rfl, ht, hw, ho, hn, h⟩ := h
    cases t with
    | tell x =>
      rw [qD]
      refine seq_cut fun M hM => ?_
      walk_at "wp"
      exact ⟨ret_same h, fun z => absurd trivial z⟩
    | look p ts =>
      obtain ⟨hp, hlen, hts⟩ := ht
      rw [qoks_iff] at hts
      rw [qDep] at hn
      have hw1 := hw.wd1 p
      have e1 : (qDs ts).length = ts.length := qDs_len ts
      rw [qD]
      refine seq_cut fun M hM => ?_
      walk_at "wp"
      refine ⟨fun q => absurd q (by decide), fun _ => ?_⟩
      rw [hM]; clear hM M
      refine seq_cut fun M hM => ?_
      walk_at "wp"
      refine ⟨fun q => ?_, fun q => ?_⟩
      · obtain rfl : p = m := Int.ofNat.inj q
        have hlt : o < ts.length := by omega
        have ei : (2 : Int) + (o : Int) = ((o + 1 + 1 : Nat) : Int) := by omega
        have hd := qdeps_le (List.getElem_mem hlt)
        rw [qFx_at (List.getElem?_eq_getElem hlt)] at h
        refine ⟨qD ts[o], ?_, ws, oc, p, o, ts[o], rfl, hts _ (List.getElem_mem hlt), hw, ho, by omega, ret_same h⟩
        rw [ei]
        exact atI_nat (by rw [List.getElem?_cons_succ, List.getElem?_cons_succ, qDs_map, List.getElem?_map, List.getElem?_eq_getElem hlt]; rfl)
      · have hne : p ≠ m := fun z => q (by rw [z])
        rw [qFx_ne hne] at h
        rw [hM]; clear hM M
        walk_at "wps"
        refine ⟨_, rfl, _, rfl, ?_⟩
        rw [List.drop_succ_cons, List.drop_succ_cons, List.drop_zero]
        refine lcG_mapN (fun i => qD (qFx m o (ts.getD i (.tell 0)))) (by rw [e1]; omega) (fun i d μ2 X hi hsub hx => ?_) ?_
        · obtain ⟨hil, rfl⟩ := qDs_get hi
          have hd := qdeps_le (List.getElem_mem hil)
          rw [List.getD_eq_getElem?_getD, List.getElem?_eq_getElem hil] at hx
          walk_at "wps"
          exact ⟨ws, oc, m, o, ts[i], rfl, hts _ (List.getElem_mem hil), hw, ho, by omega, hx⟩
        · have ec : DW.cutD (D.str "look" :: D.int (p : Int) :: qDs ts) none (some 2) = [D.str "look", D.int (p : Int)] := by rw [show (2 : Int) = ((2 : Nat) : Int) from rfl, cut_to]; rfl
          rw [e1, ec, rangeQ (fun t => qD (qFx m o t)) ts]
          refine ⟨_, .lst _, by rw [List.length_map]; show 2 + _ ≤ _; omega, ret_same ?_⟩
          rw [qD, qDs_map, List.map_map] at h
          exact h
def c_Query___init__ (C : Addr) : Con := fun ds μ Φ _ => ∃ (x : Addr) (ws : List Int) (oc : Nat) (ps : List Nat) (t : QT), ds = [.hd (.ref x), qD t, .tup (ws.map .int), .int (oc : Int)] ∧ μ x = some (.ins C [] []) ∧ QFit ws oc ps t ∧ Φ .non (sset μ x (.ins C NS_Query [qD t, .tup (ws.map .int), .int (oc : Int)]))
theorem len_Query___init__ {C ds μ Φ Ψ} (h : c_Query___init__ C ds μ Φ Ψ) : ds.length = 4 := by obtain ⟨_, _, _, _, _, rfl, _⟩ := h; rfl
theorem ok_Query___init__ (T : Txt P w K mg) : FnOk P w K mg base (L2N.CX P w) 32 T.f_Query___init__ T.d_Query___init__ ["self", "term", "widths", "outcomes"] (spOf K (c_Query___init__ T.c_Query)) := by
  refine def_okC T.F_Query___init__ sc_Query___init__ _ (fun ds μ Φ Ψ h => len_Query___init__ h) (fun cdv A outer s H E B hW hr =>
    have tk : L2N.Takes (cxOf (L2N.CX P w) P w K mg base N_Query___init__ "Query.__init__" (defScope s_Query___init__) T.f_Query___init__ cdv A outer s H E) (fun cls d _ H => E cls d H) := L2N.takes_of rfl rfl rfl rfl
    ⟨_, (pss_cons (ps_expr (pe_callS (ok_require_form T) (hr.mono (by decide)) rfl T.g_require_form T.F_require_form.kp T.b_require_form (fun σ => L2N.passAt tk σ) (pa_cons (pv 2) (pa_cons (pv 3) pa_nil))))
      (pss_cons (ps_set (i := 4) sc_Query___init__.nd rfl (Or.inl rfl) (pe_call (ok_wrong_query T) (hr.mono (by decide)) rfl T.g_wrong_query T.F_wrong_query.kp T.b_wrong_query .nil passN (pa_cons (pv 1) (pa_cons (pv 2) (pa_cons (pv 3) (pa_cons pe_int pa_nil))))))
      (pss_cons (ps_if (pt_cmpR op_notN (pv 4) pe_non (nomark _)) (pss_one (L2N.ps_raise rfl tk (pmk_sup T.ox_InvalidQuery T.ic_InvalidQuery T.ti_InvalidQuery T.no_InvalidQuery T.in_InvalidQuery (hr.mono (by decide)) T.bi_InvalidQuery passN rfl T.g_InvalidQuery (pa_cons (pv 4) pa_nil)))) pss_nil)
      (pss_cons (ps_expr (pe_callS (ok_require_few T) (hr.mono (by decide)) rfl T.g_require_few T.F_require_few.kp T.b_require_few (fun σ => L2N.passAt tk σ) (pa_cons (pe_call (ok_places_of T) (hr.mono (by decide)) rfl T.g_places_of T.F_places_of.kp T.b_places_of .nil passN (pa_cons (pv 1) pa_nil)) (pa_cons (pv 2) pa_nil))))
      (pss_cons (ps_fld (pv 0) (pv 1) rfl)
      (pss_cons (ps_fld (pv 0) (pv 2) rfl)
      (pss_one (ps_fld (pv 0) (pv 3) rfl)))))))),
      (sSeq (sDrop (sCallSW (W := fun cls d _ H => E cls d H) (by exact hW) (sCons sVar (sCons sVar sNil))))
      (sSeq (sAsg (sCall (sCons sVar (sCons sVar (sCons sVar (sCons sInt sNil))))) sName)
      (sSeq (sIfS (sTest (sOp roNotN sVar sNon)) (sRaise1 (W := fun cls d _ H => E cls d H) (C := T.c_InvalidQuery) (fld := "path") (by exact hW) okdPath_ok sVar) sNext)
      (sSeq (sDrop (sCallSW (W := fun cls d _ H => E cls d H) (by exact hW) (sCons (sCall (sCons sVar sNil)) (sCons sVar sNil))))
      (sSeq (sSetF T.cls_Query T.na_Query_term sVar sVar)
      (sSeq (sSetF T.cls_Query T.na_Query_widths sVar sVar)
      (sSetF T.cls_Query T.na_Query_outcomes sVar sVar)))))))⟩) (fun ds μ Φ Ψ h => ?hv)
  case hv =>
    obtain ⟨x, ws, oc, ps, t, rfl, hx, hq, h⟩ := h
    refine seq_cut fun M hM => ?_
    walk_at "wp"
    refine ⟨ws, oc, rfl, hq.w, hq.o1, hq.o4, ?_⟩
    rw [hM]; clear hM M
    refine seq_cut fun M hM => ?_
    walk_at "wp"
    refine ⟨ws, oc, 0, t, rfl, hq.w, hq.ok, by have := hq.dep; omega, by have := hq.dep; omega, ?_⟩
    walk_at "wp"
    rw [hM]; clear hM M
    refine seq_cut fun M hM => ?_
    walk_at "wp"
    rw [hM]; clear hM M
    refine seq_cut fun M hM => ?_
    walk_at "wp"
    refine ⟨ws, oc, t, rfl, hq.ok, by have := hq.dep; omega, by have := hq.looks; omega, ws, qPl t, ps, rfl, hq.w, hq.looks, hq.sorted, hq.most, hq.few, hq.pl, ?_⟩
    rw [hM]; clear hM M
    walk_at "wps"
    refine ⟨_, _, _, rfl, hx, by decide, by decide, _, _, _, rfl, sset_same, by decide, by decide, _, _, _, rfl, sset_same, by decide, by decide, ?_⟩
    walk_at "wps"
    exact ret_same h
def c_shortest_cycle : Con := fun ds μ Φ _ => ∃ (c : List Int) (d : Nat), ds = [.tup (c.map .int)] ∧ c ≠ [] ∧ c.length ≤ 1000 ∧ MinPer c d ∧ Φ (.tup ((c.take d).map .int)) μ
theorem len_shortest_cycle {ds μ Φ Ψ} (h : c_shortest_cycle ds μ Φ Ψ) : ds.length = 1 := by obtain ⟨_, _, rfl, _⟩ := h; rfl
theorem ok_shortest_cycle (T : Txt P w K mg) : FnOk P w K mg base (L2N.CX P w) 1 T.f_shortest_cycle T.d_shortest_cycle ["cycle"] (spOf K c_shortest_cycle) := by
  refine def_okC T.F_shortest_cycle sc_shortest_cycle _ (fun ds μ Φ Ψ h => len_shortest_cycle h) (fun cdv A outer s H E B hW hr =>
    have tk : L2N.Takes (cxOf (L2N.CX P w) P w K mg base N_shortest_cycle "shortest_cycle" (defScope s_shortest_cycle) T.f_shortest_cycle cdv A outer s H E) (fun cls d _ H => E cls d H) := L2N.takes_of rfl rfl rfl rfl
    ⟨_, (pss_cons (ps_set (i := 1) sc_shortest_cycle.nd rfl (Or.inl rfl) pe_int)
      (pss_cons (ps_while (passes_of rfl) (pt_cmpR (op_neD hr.units) (pe_op op_repA (pe_slice sl_tupN (pv 0) po_none (po_some (pv 1))) (pe_op op_fdivW (pe_callB call_len_seq (by rfl) T.z_len PySem.boot_len (pa_cons (pv 0) pa_nil)) (pv 1))) (pv 0) (nomark _)) (pss_one (ps_aug (i := 1) sc_shortest_cycle.nd rfl (Or.inl rfl) pe_int ip_add)))
      (pss_one (ps_ret (pe_slice sl_tupN (pv 0) po_none (po_some (pv 1))))))),
      (sSeq (sAsg sInt sName)
      (sSeq (sWhile (sTest (sOp roNeD (sOp roRepT (sSlT sVar sNoPart (sPart sVar)) (sOp roInt (sCB rcLen (sCons sVar sNil)) sVar)) sVar)) (sAug roIp sInt))
      (sRet (sSlT sVar sNoPart (sPart sVar)))))⟩) (fun ds μ Φ Ψ h => ?hv)
  case hv =>
    obtain ⟨c, d, rfl, hc, hl, hd, h⟩ := h
    refine seq_cut fun M hM => ?_
    walk_at "wp"
    rw [hM]; clear hM M
    refine seq_cut fun M hM => ?_
    walk_at "wp"
    have d1 := hd.d1
    have dn := hd.le hc
    refine ⟨fun m δ' μ' => ∃ L : Nat, μ' = μ ∧ 1 ≤ L ∧ L ≤ d ∧ m = d - L ∧ δ' = [some (.tup (c.map .int)), some (.int L)], ⟨_, 1, rfl, Nat.le_refl _, d1, rfl, rfl⟩, ?_⟩
    rintro m δ' μ' ⟨L, rfl, L1, Ld, rfl, rfl⟩
    walk_at "wp"
    have eq : ((c.length : Int) / (L : Int)) = ((c.length / L : Nat) : Int) := rfl
    have hq : c.length / L ≤ 1000 := Nat.le_trans (Nat.div_le_self _ _) hl
    have hq2 : (((c.length / L : Nat) : Int)) ≤ 1000 := Int.ofNat_le.mpr hq
    have hq3 : (-1000000 : Int) ≤ ((c.length / L : Nat) : Int) := Int.le_trans (by decide) (Int.natCast_nonneg _)
    refine ⟨wide_div (b := 11) (by omega) (by rw [Int.natAbs_natCast]; exact Nat.lt_of_le_of_lt (show L ≤ 1000 by omega) (by decide)) (by decide) (by decide), by rw [eq]; exact hq2, by rw [eq]; exact hq3, by rw [List.length_take]; omega, ?_⟩
    rw [eq, Int.toNat_natCast, show (List.replicate (c.length / L) ((c.map D.int).take L)).flatten = ((List.replicate (c.length / L) (c.take L)).flatten).map D.int by rw [List.map_flatten, List.map_replicate, List.map_take]]
    refine ⟨side_ints _, side_ints _, _, rfl, fun q => ?_, fun q => ?_⟩
    · rw [eqD_ints, Bool.not_eq_true', decide_eq_false_iff_not, rep_per L1 (by omega)] at q
      have hne : L ≠ d := fun e => q ⟨by rw [e]; exact hd.dvd (per_len c), by rw [e]; exact hd.per⟩
      exact ⟨_, by omega, L + 1, rfl, by omega, by omega, rfl, rfl⟩
    · rw [eqD_ints, Bool.not_eq_false', decide_eq_true_eq, rep_per L1 (by omega)] at q
      have hLd : L = d := Classical.byContradiction fun z => hd.min L L1 (by omega) q.2
      subst hLd
      rw [hM]; clear hM M
      walk_at "wps"
      rw [← List.map_take]
      exact ret_same h
def c_turned_cycle : Con := fun ds μ Φ _ => ∃ (c : List Int) (k : Int), ds = [.tup (c.map .int), .int k] ∧ c ≠ [] ∧ c.length ≤ 1000 ∧ Φ (.tup ((rot c (k % (c.length : Int)).toNat).map .int)) μ
theorem len_turned_cycle {ds μ Φ Ψ} (h : c_turned_cycle ds μ Φ Ψ) : ds.length = 2 := by obtain ⟨_, _, rfl, _⟩ := h; rfl
theorem ok_turned_cycle (T : Txt P w K mg) : FnOk P w K mg base (L2N.CX P w) 1 T.f_turned_cycle T.d_turned_cycle ["cycle", "count"] (spOf K c_turned_cycle) := by
  refine def_okC T.F_turned_cycle sc_turned_cycle _ (fun ds μ Φ Ψ h => len_turned_cycle h) (fun cdv A outer s H E B hW hr =>
    have tk : L2N.Takes (cxOf (L2N.CX P w) P w K mg base N_turned_cycle "turned_cycle" (defScope s_turned_cycle) T.f_turned_cycle cdv A outer s H E) (fun cls d _ H => E cls d H) := L2N.takes_of rfl rfl rfl rfl
    ⟨_, (pss_cons (ps_set (i := 2) sc_turned_cycle.nd rfl (Or.inl rfl) (pe_op op_mod (pv 1) (pe_callB call_len_seq (by rfl) T.z_len PySem.boot_len (pa_cons (pv 0) pa_nil))))
      (pss_one (ps_ret (pe_op op_catN (pe_slice sl_tupN (pv 0) (po_some (pv 2)) po_none) (pe_slice sl_tupN (pv 0) po_none (po_some (pv 2))))))),
      (sSeq (sAsg (sOp roInt sVar (sCB rcLen (sCons sVar sNil))) sName)
      (sRet (sOp roCatT (sSlT sVar (sPart sVar) sNoPart) (sSlT sVar sNoPart (sPart sVar)))))⟩) (fun ds μ Φ Ψ h => ?hv)
  case hv =>
    obtain ⟨c, k, rfl, hc, hl, h⟩ := h
    refine seq_cut fun M hM => ?_
    walk_at "wp"
    have hn : 0 < c.length := List.length_pos_iff.mpr hc
    have h0 := Int.emod_nonneg k (show (c.length : Int) ≠ 0 by omega)
    have h1 := Int.emod_lt_of_pos k (show (0 : Int) < c.length by omega)
    refine ⟨by omega, ?_⟩
    obtain ⟨s, hs⟩ : ∃ s : Nat, k % (c.length : Int) = (s : Int) := ⟨_, (Int.toNat_of_nonneg h0).symm⟩
    rw [hs, Int.toNat_natCast] at h
    rw [hs]
    rw [hM]; clear hM M
    walk_at "wps"
    have ec : DW.cutD (c.map D.int) (some (s : Int)) none ++ (c.map D.int).take s = (rot c s).map D.int := by
      unfold rot
      rw [cut_from, List.map_append, List.map_drop, List.map_take]
    have hrl : (DW.cutD (c.map D.int) (some (s : Int)) none).length + ((c.map D.int).take s).length ≤ 100000 := by
      rw [cut_from, List.length_drop, List.length_take, List.length_map]; omega
    refine ⟨hrl, ?_⟩
    rw [ec]
    exact ret_same h
theorem at_neg {l : List Int} {s : Nat} (h : s < l.length) : atI (l.map D.int) (-1 - (s : Int)) = some (.int (l.getD (l.length - 1 - s) 0)) := by
  have e : ixN l.length (-1 - (s : Int)) = some (l.length - 1 - s) := by
    unfold ixN
    rw [if_neg (by omega), if_pos (by omega)]
    congr 1
    omega
  unfold atI
  rw [List.length_map, e, Option.bind_some, List.getElem?_map, List.getElem?_eq_getElem (by omega), List.getD_eq_getElem?_getD, List.getElem?_eq_getElem (by omega)]
  rfl
def c_count_spare : Con := fun ds μ Φ _ => ∃ (h c : List Int) (d sp : Nat), ds = [.tup (h.map .int), .tup ((c.take d).map .int)] ∧ c ≠ [] ∧ c.length ≤ 1000 ∧ h.length ≤ 1000 ∧ MinPer c d ∧ ∀ sp, Spare h c d sp → Φ (.int sp) μ
theorem len_count_spare {ds μ Φ Ψ} (h : c_count_spare ds μ Φ Ψ) : ds.length = 2 := by obtain ⟨_, _, _, _, rfl, _⟩ := h; rfl
theorem ok_count_spare (T : Txt P w K mg) : FnOk P w K mg base (L2N.CX P w) 1 T.f_count_spare T.d_count_spare ["head", "cycle"] (spOf K c_count_spare) := by
  refine def_okC T.F_count_spare sc_count_spare _ (fun ds μ Φ Ψ h => len_count_spare h) (fun cdv A outer s H E B hW hr =>
    have tk : L2N.Takes (cxOf (L2N.CX P w) P w K mg base N_count_spare "count_spare" (defScope s_count_spare) T.f_count_spare cdv A outer s H E) (fun cls d _ H => E cls d H) := L2N.takes_of rfl rfl rfl rfl
    ⟨_, (pss_cons (ps_set (i := 2) sc_count_spare.nd rfl (Or.inl rfl) pe_int)
      (pss_cons (ps_while (passes_of rfl) (PW.pt (pw_and (pt_cmpR op_lt (pv 2) (pe_callB call_len_seq (by rfl) T.z_len PySem.boot_len (pa_cons (pv 0) pa_nil)) (nomark _)) (pw_and1 (pt_cmpR op_eq (pe_ix ix_tup (pv 0) (pe_op op_sub (pe_un un_neg pe_int) (pv 2)) (fun _ _ => rfl)) (pe_ix ix_tup (pv 1) (pe_op op_sub (pe_un un_neg pe_int) (pe_op op_mod (pv 2) (pe_callB call_len_seq (by rfl) T.z_len PySem.boot_len (pa_cons (pv 1) pa_nil)))) (fun _ _ => rfl)) (nomark _))))) (pss_one (ps_aug (i := 2) sc_count_spare.nd rfl (Or.inl rfl) pe_int ip_add)))
      (pss_one (ps_ret (pv 2))))),
      (sSeq (sAsg sInt sName)
      (sSeq (sWhile (sAnd (sTest (sOp roBl0 sVar (sCB rcLen (sCons sVar sNil)))) (sTest (sOp roEq (sOp roIxT sVar (sOp roInt0 (sUn ruInt sInt) sVar)) (sOp roIxT sVar (sOp roInt0 (sUn ruInt sInt) (sOp roInt sVar (sCB rcLen (sCons sVar sNil)))))))) (sAug roIp sInt))
      (sRet sVar)))⟩) (fun ds μ Φ Ψ h => ?hv)
  case hv =>
    obtain ⟨hd, c, d, sp, rfl, hc, hl, hl2, hm, h⟩ := h
    refine seq_cut fun M hM => ?_
    walk_at "wp"
    rw [hM]; clear hM M
    refine seq_cut fun M hM => ?_
    walk_at "wp"
    have d1 := hm.d1
    have dn := hm.le hc
    have hdl : (c.take d).length = d := by rw [List.length_take]; omega
    refine ⟨fun m δ' μ' => ∃ s : Nat, μ' = μ ∧ s ≤ hd.length ∧ (∀ j, j < s → hd.getD (hd.length - 1 - j) 0 = cyc c (d - 1 - j % d)) ∧ m = hd.length - s ∧ δ' = [some (.tup (hd.map .int)), some (.tup ((c.take d).map .int)), some (.int s)], ⟨_, 0, rfl, Nat.zero_le _, nofun, rfl, rfl⟩, ?_⟩
    rintro m δ' μ' ⟨s, rfl, hs, hy, rfl, rfl⟩
    walk_at "wp"
    refine ⟨fun q => ?_, fun q => ?_⟩
    · have hsl : s < hd.length := by omega
      have hmd := Nat.mod_lt s d1
      refine ⟨_, at_neg hsl, by rw [hdl]; omega, _, by rw [hdl]; exact at_neg (s := s % d) (by rw [hdl]; exact hmd), ?_⟩
      have ev : (c.take d).getD ((c.take d).length - 1 - s % d) 0 = cyc c (d - 1 - s % d) := by
        rw [hdl, List.getD_eq_getElem?_getD, List.getElem?_take, if_pos (by omega), self_at (by omega)]; rfl
      rw [ev]
      walk_at "wp"
      refine ⟨fun q => ⟨hd.length - (s + 1), by omega, s + 1, by omega, fun j hj => ?_, rfl, rfl⟩, fun q => ?_⟩
      · rcases Nat.lt_or_ge j s with hj2 | hj2
        · exact hy j hj2
        · obtain rfl : j = s := by omega
          exact q
      · rw [hM]; clear hM M
        walk_at "wps"
        exact ret_same (h s ⟨hs, hy, fun _ => q⟩)
    · rw [hM]; clear hM M
      walk_at "wps"
      exact ret_same (h s ⟨hs, hy, fun z => absurd z (by omega)⟩)
def c_Row___init__ (C O : Addr) : Con := fun ds μ Φ Ψ => ∃ (x : Addr) (h c : List Int), ds = [.hd (.ref x), .tup (h.map .int), .tup (c.map .int)] ∧ h.length ≤ 1000 ∧ c.length ≤ 1000 ∧ μ x = some (.ins C [] []) ∧ (¬ (c ≠ [] ∧ ∀ y ∈ h ++ c, 0 ≤ y) → Ψ (.mk O none) μ) ∧ (RwOk ⟨h, c⟩ → Φ .non (sset μ x (.ins C NSA [.tup (h.map .int), .tup (c.map .int)])))
theorem len_Row___init__ {C O ds μ Φ Ψ} (h : c_Row___init__ C O ds μ Φ Ψ) : ds.length = 3 := by obtain ⟨_, _, _, rfl, _⟩ := h; rfl
theorem ok_Row___init__ (T : Txt P w K mg) : FnOk P w K mg base (L2N.CX P w) 2 T.f_Row___init__ T.d_Row___init__ ["self", "head", "cycle"] (spOf K (c_Row___init__ T.c_Row T.c_OutOfRange)) := by
  refine def_okD T.F_Row___init__ sc_Row___init__ _ (fun ds μ Φ Ψ h => len_Row___init__ h) (fun cdv A outer s H E B hW hr =>
    have tk : L2N.Takes (cxOf (L2N.CX P w) P w K mg base N_Row___init__ "Row.__init__" (defScope s_Row___init__) T.f_Row___init__ cdv A outer s H E) (fun cls d _ H => E cls d H) := L2N.takes_of rfl rfl rfl rfl
    ⟨_, (pss_cons (ps_if (PW.pt (pw_or (pt_cmpR op_eq (pe_callB call_len_seq (by rfl) T.z_len PySem.boot_len (pa_cons (pv 2) pa_nil)) pe_int (nomark _)) (pw_or1 (pt_not (pt_val (pe_callB (cr_all rfl) (by rfl) T.z_all (by decide +kernel) (pa_cons (pe_lc (own := [("entry", 3)]) rfl sc_Row___init__.nd (pi_tup (pe_op op_catN (pv 1) (pv 2))) (blkOk_by (N := N_Row___init__) (sc := defScope s_Row___init__) (by decide +kernel)) (fun _ _ _ _ _ => (pg_name (i := 3) sc_Row___init__.nd rfl (Or.inl rfl))) (fun _ _ _ _ _ => pts_nil) (fun _ _ _ _ _ => (pe_cmpR op_ge (pv 3) pe_int (nomark _)))) pa_nil))))))) (pss_one (L2N.ps_raise rfl tk (L2N.pmk_own PySem.F.excBase_ValueError T.x_OutOfRange T.g_OutOfRange T.k_OutOfRange (raises_own T.e_OutOfRange T.t_OutOfRange) rfl))) pss_nil)
      (pss_cons (ps_fld (pv 0) (pv 1) rfl)
      (pss_one (ps_fld (pv 0) (pv 2) rfl)))),
      (sSeq (sIfS (sOr (sTest (sOp roEq (sCB rcLen (sCons sVar sNil)) sInt)) (sNot (sB (sCB rcAll (sCons (sLc (siT (sOp roCatT sVar sVar)) (gwName List.mem_cons_self) (fun _ _ _ => sName) (fun _ _ _ => sYes) (fun _ _ _ => (sOp roBl0 sVar sInt))) sNil))))) (sRaise0W (W := fun cls d _ H => E cls d H) (C := T.c_OutOfRange) (by exact hW)) sNext)
      (sSeq (sSetF T.cls_Row T.na_Row_head sVar sVar)
      (sSetF T.cls_Row T.na_Row_cycle sVar sVar)))⟩) (fun ds μ Φ Ψ h => ?hv)
  case hv =>
    obtain ⟨x, hh, c, rfl, hl, cl, hx, h1, h2⟩ := h
    refine seq_cut fun M hM => ?_
    walk_at "wp"
    have eall : ((hh ++ c).map fun y => D.bl (decide (0 ≤ y))) = ((hh ++ c).map fun y => decide (0 ≤ y)).map .bl := by rw [List.map_map]; rfl
    refine ⟨fun q => ⟨_, Sub.refl, h1 fun z => z.1 (List.eq_nil_of_length_eq_zero (by omega))⟩, fun q => ⟨by omega, ?_⟩⟩
    rw [← List.map_append]
    refine lcZ (fun y => .bl (decide (0 ≤ y))) (by rw [List.length_append]; omega) (fun z μ2 X hz hsub hx => ?_) ?_
    · walk_at "wp"
      exact hx
    rw [eall]
    refine w_allB rfl ⟨_, rfl, fun q2 => ⟨_, Sub.refl, h1 fun z => ?_⟩, fun q2 => ?_⟩
    · have : (((hh ++ c).map fun y => decide (0 ≤ y)).all id) = true := by
        rw [List.all_map, List.all_eq_true]
        exact fun y hy => decide_eq_true (z.2 y hy)
      rw [this] at q2; cases q2
    · have hall : ∀ y ∈ hh ++ c, 0 ≤ y := by
        have : (((hh ++ c).map fun y => decide (0 ≤ y)).all id) = true := by
          cases e : (((hh ++ c).map fun y => decide (0 ≤ y)).all id) with
          | true => rfl
          | false => rw [e] at q2; cases q2
        rw [List.all_map, List.all_eq_true] at this
        exact fun y hy => of_decide_eq_true (this y hy)
      rw [hM]; clear hM M
      walk_at "wps"
      refine ⟨_, _, _, rfl, hx, by decide, by decide, _, _, _, rfl, sset_same, by decide, by decide, ?_⟩
      walk_at "wps"
      exact ret_same (h2 ⟨fun z => q (by have z : c = [] := z; rw [z]; rfl), hl, cl, fun y hy => hall y (List.mem_append_left _ hy), fun y hy => hall y (List.mem_append_right _ hy)⟩)
def c_Row_least (C : Addr) : Con := fun ds μ Φ _ => ∃ (r : Rw), ds = [rwO C r] ∧ RwOk r ∧ ∀ a, IsLeast r a → Φ (rwO C a) μ
theorem len_Row_least {C ds μ Φ Ψ} (h : c_Row_least C ds μ Φ Ψ) : ds.length = 1 := by obtain ⟨_, rfl, _⟩ := h; rfl
theorem ok_Row_least (T : Txt P w K mg) : FnOk P w K mg base (L2N.CX P w) 4 T.f_Row_least T.d_Row_least ["self"] (spOf K (c_Row_least T.c_Row)) := by
  refine def_okC T.F_Row_least sc_Row_least _ (fun ds μ Φ Ψ h => len_Row_least h) (fun cdv A outer s H E B hW hr =>
    have tk : L2N.Takes (cxOf (L2N.CX P w) P w K mg base N_Row_least "Row.least" (defScope s_Row_least) T.f_Row_least cdv A outer s H E) (fun cls d _ H => E cls d H) := L2N.takes_of rfl rfl rfl rfl
    ⟨_, (pss_cons (ps_set (i := 1) sc_Row_least.nd rfl (Or.inl rfl) (pe_call (ok_shortest_cycle T) (hr.mono (by decide)) rfl T.g_shortest_cycle T.F_shortest_cycle.kp T.b_shortest_cycle .nil passN (pa_cons (pe_fld (pv 0) rfl) pa_nil)))
      (pss_cons (ps_set (i := 2) sc_Row_least.nd rfl (Or.inl rfl) (pe_call (ok_count_spare T) (hr.mono (by decide)) rfl T.g_count_spare T.F_count_spare.kp T.b_count_spare .nil passN (pa_cons (pe_fld (pv 0) rfl) (pa_cons (pv 1) pa_nil))))
      (pss_one (ps_ret (pe_makeS T.mk_Row (ok_Row___init__ T) (hr.mono (by decide)) rfl T.g_Row T.b_Row___init__ (fun σ => L2N.passAt tk σ) (pa_cons (pe_slice sl_tupN (pe_fld (pv 0) rfl) po_none (po_some (pe_op op_sub (pe_callB call_len_seq (by rfl) T.z_len PySem.boot_len (pa_cons (pe_fld (pv 0) rfl) pa_nil)) (pv 2)))) (pa_cons (pe_call (ok_turned_cycle T) (hr.mono (by decide)) rfl T.g_turned_cycle T.F_turned_cycle.kp T.b_turned_cycle .nil passN (pa_cons (pv 1) (pa_cons (pe_un un_neg (pv 2)) pa_nil))) pa_nil))))))),
      (sSeq (sAsg (sCall (sCons (sFldO (NS := NS_Row) (i := 1) T.cls_Row T.na_Row_cycle rfl (by decide) sVar) sNil)) sName)
      (sSeq (sAsg (sCall (sCons (sFldO (NS := NS_Row) (i := 0) T.cls_Row T.na_Row_head rfl (by decide) sVar) (sCons sVar sNil))) sName)
      (sRet (sMakeSW (W := fun cls d _ H => E cls d H) (by exact hW) (sCons (sSlT (sFldO (NS := NS_Row) (i := 0) T.cls_Row T.na_Row_head rfl (by decide) sVar) sNoPart (sPart (sOp roInt0 (sCB rcLen (sCons (sFldO (NS := NS_Row) (i := 0) T.cls_Row T.na_Row_head rfl (by decide) sVar) sNil)) sVar))) (sCons (sCall (sCons sVar (sCons (sUn ruInt sVar) sNil))) sNil))))))⟩) (fun ds μ Φ Ψ h => ?hv)
  case hv =>
    obtain ⟨r, rfl, hr, h⟩ := h
    have e1 : rwO T.c_Row r = D.obj T.c_Row NSA [.tup (r.h.map .int), .tup (r.c.map .int)] := rfl
    refine seq_cut fun M hM => ?_
    rw [e1]
    walk_at "wp"
    obtain ⟨d, hd⟩ := minper_ex hr.c0
    have d1 := hd.d1
    have dn := hd.le hr.c0
    have hcl := hr.cl
    have hhl := hr.hl
    have hdl : (r.c.take d).length = d := by rw [List.length_take]; omega
    refine ⟨r.c, d, rfl, hr.c0, hr.cl, hd, ?_⟩
    rw [hM]; clear hM M
    refine seq_cut fun M hM => ?_
    walk_at "wp"
    refine ⟨r.h, r.c, d, 0, rfl, hr.c0, hr.cl, hr.hl, hd, fun sp hsp => ?_⟩
    have hle := hsp.le
    rw [hM]; clear hM M
    walk_at "wps"
    refine ⟨r.c.take d, -(sp : Int), rfl, fun z => by rw [z] at hdl; simp at hdl; omega, by omega, ?_⟩
    rw [hdl]
    have z0 := Int.emod_nonneg (-(sp : Int)) (show (d : Int) ≠ 0 by omega)
    have z1 := Int.emod_lt_of_pos (-(sp : Int)) (show (0 : Int) < d by omega)
    obtain ⟨st, hst⟩ : ∃ st : Nat, (-(sp : Int)) % (d : Int) = (st : Int) := ⟨_, (Int.toNat_of_nonneg z0).symm⟩
    rw [hst, Int.toNat_natCast]
    have hstd : st < d := by omega
    have hz : (st + sp) % d = 0 := by
      apply Nat.mod_eq_zero_of_dvd
      have e := Int.mul_ediv_add_emod (-(sp : Int)) (d : Int)
      rw [hst] at e
      have e2 : ((st + sp : Nat) : Int) = (d : Int) * (-(-(sp : Int) / (d : Int))) := by rw [Int.mul_neg]; omega
      exact Int.natCast_dvd_natCast.mp ⟨_, e2⟩
    have hil := isleast_prog (r := r) hr.c0 hd hsp hstd hz
    obtain ⟨ho, _, _⟩ := hr.least hil
    intro y hy
    have eh : DW.cutD (r.h.map D.int) none (some ((r.h.length : Int) - (sp : Int))) = (r.h.take (r.h.length - sp)).map D.int := by
      rw [show (r.h.length : Int) - (sp : Int) = ((r.h.length - sp : Nat) : Int) by omega, cut_to, List.map_take]
    rw [eh]
    refine ⟨y, _, _, rfl, by rw [List.length_take]; omega, ho.cl, sset_same, fun z => absurd ⟨ho.c0, fun v hv => (List.mem_append.mp hv).elim (ho.hp v) (ho.cp v)⟩ z, fun _ => ⟨rfl, NSA, _, sset_same, ?_⟩⟩
    rw [sset_sset, sdel_sset hy]
    exact ret_same (h _ hil)
end
section
variable {P : Program} {w : World} {K : Fg} {mg : Str → Option Value} {base : Heap}
section
variable {P : Program} {w : World} {K : Fg} {mg : Str → Option Value} {base : Heap}
theorem okN_fixed_term (T : Txt P w K mg) : ∀ n, FnOk P w K mg base (L2N.CX P w) (4 + n) T.f_fixed_term T.d_fixed_term ["term", "place", "option"] (spOf K (c_fixed_term n))
  | 0 => fn_never fun ds μ Φ Ψ h => by obtain ⟨_, _, _, _, _, _, _, _, _, h, _⟩ := h; omega
  | n + 1 => step_fixed_term T (k := 4 + n) (by omega) n (okN_fixed_term T n)
theorem ok_fixed_term (T : Txt P w K mg) : FnOk P w K mg base (L2N.CX P w) 30 T.f_fixed_term T.d_fixed_term ["term", "place", "option"] (spOf K (c_fixed_term 21)) := (okN_fixed_term T 21).mono (by decide)
end
def c_settled_part (n : Nat) : Con := fun ds μ Φ _ => ∃ (ws : List Int) (oc : Nat) (ps : List Nat) (t : QT), ds = [qD t, .tup (ws.map .int)] ∧ WsOk ws ∧ QOk ws oc t ∧ qDep t ≤ 20 ∧ (qPl t).length ≤ 300 ∧ (∀ q ∈ qPl t, q ∈ ps) ∧ ps.Pairwise (· < ·) ∧ ps.length < n ∧ ps.length ≤ 8 ∧ Φ (qD (qSt ws 300 t)) μ
theorem len_settled_part {n ds μ Φ Ψ} (h : c_settled_part n ds μ Φ Ψ) : ds.length = 2 := by obtain ⟨i, _, _, _, rfl, _⟩ := h; rfl
theorem step_settled_part (T : Txt P w K mg) {k : Nat} (hk : 31 ≤ k) (n : Nat) (ih_settled_part : FnOk P w K mg base (L2N.CX P w) k T.f_settled_part T.d_settled_part ["term", "widths"] (spOf K (c_settled_part n))) : FnOk P w K mg base (L2N.CX P w) (k + 1) T.f_settled_part T.d_settled_part ["term", "widths"] (spOf K (c_settled_part (n + 1))) := by
  refine def_okC T.F_settled_part sc_settled_part _ (fun ds μ Φ Ψ h => len_settled_part h) (fun cdv A outer s H E B hW hr =>
    have tk : L2N.Takes (cxOf (L2N.CX P w) P w K mg base N_settled_part "settled_part" (defScope s_settled_part) T.f_settled_part cdv A outer s H E) (fun cls d _ H => E cls d H) := L2N.takes_of rfl rfl rfl rfl
    ⟨_, (pss_cons (ps_if (pt_cmpR op_eq (pe_ix ix_tup (pv 0) pe_int (fun _ _ => rfl)) pe_str (nomark _)) (pss_one (ps_ret (pv 0))) pss_nil)
      (pss_cons (ps_set (i := 2) sc_settled_part.nd rfl (Or.inr rfl) (pe_callB (cr_min rfl) (by rfl) T.z_min (by decide +kernel) (pa_cons (pe_call (ok_places_of T) (hr.mono (by omega)) rfl T.g_places_of T.F_places_of.kp T.b_places_of .nil passN (pa_cons (pv 0) pa_nil)) pa_nil)))
      (pss_cons (ps_set (i := 3) sc_settled_part.nd rfl (Or.inl rfl) (pe_callTy cr_range1 (by rfl) T.z_range (by decide +kernel) (pa_cons (pe_call (ok_width_at T) (hr.mono (by omega)) rfl T.g_width_at T.F_width_at.kp T.b_width_at .nil passN (pa_cons (pv 1) (pa_cons (pv 2) pa_nil))) pa_nil)))
      (pss_cons (ps_set (i := 4) sc_settled_part.nd rfl (Or.inl rfl) (pe_callTy call_tupleN (by rfl) T.z_tuple (by decide +kernel) (pa_cons (pe_lc (own := [("option", 5)]) rfl sc_settled_part.nd (pi_rngV (pv 3)) (blkOk_by (N := N_settled_part) (sc := defScope s_settled_part) (by decide +kernel)) (fun _ _ _ _ _ => (pg_name (i := 5) sc_settled_part.nd rfl (Or.inl rfl))) (fun _ _ _ _ _ => pts_nil) (fun _ _ _ _ _ => (pe_call ih_settled_part hr rfl T.g_settled_part T.F_settled_part.kp T.b_settled_part .nil passN (pa_cons (pe_call (ok_fixed_term T) (hr.mono (by omega)) rfl T.g_fixed_term T.F_fixed_term.kp T.b_fixed_term .nil passN (pa_cons (pv 0) (pa_cons (pv 2) (pa_cons (pv 5) pa_nil)))) (pa_cons (pv 1) pa_nil))))) pa_nil)))
      (pss_one (ps_ret (pe_ifExp (pt_cmpR (op_eqD hr.units) (pv 4) (pe_op op_repA (pe_slice sl_tupN (pv 4) po_none (po_some pe_int)) (pe_callB call_len_seq (by rfl) T.z_len PySem.boot_len (pa_cons (pv 4) pa_nil))) (nomark _)) (pe_ix ix_tup (pv 4) pe_int (fun _ _ => rfl)) (pe_op op_catN (pe_tupN (pa_cons pe_str (pa_cons (pv 2) pa_nil))) (pv 4))))))))),
      (sSeq (sIfS (sTest (sOp roEq (sOp roIxT sVar sInt) sStr)) (sRet sVar) sNext)
      (sSeq (sAsg (sCB rcMinL (sCons (sCall (sCons sVar sNil)) sNil)) sName)
      (sSeq (sAsg (sCB rcRng1 (sCons (sCall (sCons sVar (sCons sVar sNil))) sNil)) sName)
      (sSeq (sAsg (sCB rcTuple (sCons (sLc (siRngV sVar) (gwName List.mem_cons_self) (fun _ _ _ => sName) (fun _ _ _ => sYes) (fun _ _ _ => (sCall (sCons (sCall (sCons sVar (sCons sVar (sCons sVar sNil)))) (sCons sVar sNil))))) sNil)) sName)
      (sRet (sIf (sTest (sOp roEqD sVar (sOp roRepT (sSlT sVar sNoPart (sPart sInt)) (sCB rcLen (sCons sVar sNil))))) (sOp roIxT sVar sInt) (sOp roCatT (sTup (sCons sStr (sCons sVar sNil))) sVar)))))))⟩) (fun ds μ Φ Ψ h => ?hv)
  case hv =>
    obtain ⟨ws, oc, ps, t, rfl, hw, ht, hd, hl, hp, hps, hn, h8, h⟩ := h
    cases t with
    | tell o =>
      rw [qD]
      refine seq_cut fun M hM => ?_
      walk_at "wp"
      exact ⟨ret_same h, fun z => absurd trivial z⟩
    | look p ts =>
      have hne : qPl (.look p ts) ≠ [] := by rw [qPl]; simp
      have hmem := qMin_mem hne
      have hql : qDep (.look p ts) < 21 := by omega
      refine seq_cut fun M hM => ?_
      rw [qD]
      walk_at "wp"
      refine ⟨fun z => absurd z (by decide), fun _ => ?_⟩
      rw [show D.tup (.str "look" :: .int (p : Int) :: qDs ts) = qD (.look p ts) from rfl]
      rw [hM]; clear hM M
      refine seq_cut fun M hM => ?_
      walk_at "wp"
      refine ⟨ws, oc, .look p ts, rfl, ht, by omega, by omega, (qPl (.look p ts)).map fun (n : Nat) => (n : Int), by rw [nI_ints]; exact .lst _, rfl, by simpa using hne, fun m hm hmin => ?_⟩
      obtain rfl : m = ((qMin (qPl (.look p ts)) : Nat) : Int) := by
        obtain ⟨q, hq, rfl⟩ := List.mem_map.mp hm
        rw [qMin_eq hq fun z hz => by have := hmin (z : Int) (List.mem_map.mpr ⟨z, hz, rfl⟩); omega]
      generalize hmm : qMin (qPl (.look p ts)) = m at *
      rw [hM]; clear hM M
      refine seq_cut fun M hM => ?_
      walk_at "wp"
      refine ⟨ws, m, rfl, hw, _, rfl, fun r hr => ?_⟩
      rw [hM]; clear hM M
      refine seq_cut fun M hM => ?_
      walk_at "wp"
      have hw1 := hw.wd1 m
      refine ⟨r, 0, _, rfl, sset_same, by omega, ?_⟩
      rw [show ((wd ws m : Int) - 0).toNat = wd ws m by omega]
      refine lcG_mapN (fun i => qD (qSt ws 300 (qFx m i (.look p ts)))) (by rw [rngD_len]; omega) (fun i d μ2 X hi hsub hx => ?_) ?_
      · obtain ⟨hj, rfl⟩ := rngD_get hi
        have hlt := qFx_lt hj _ ht hmem
        walk_at "wps"
        refine ⟨ws, oc, m, i, .look p ts, rfl, ht, hw, hj, by omega, ?_⟩
        refine ⟨ws, oc, ps.filter (· ≠ m), qFx m i (.look p ts), rfl, hw, qFx_ok hj _ ht, by have := qFx_dep _ ht hj; omega, by omega, fun q hq => ?_, hps.filter _, ?_, by have := List.length_filter_le (fun x => decide (x ≠ m)) ps; omega, hx⟩
        · obtain ⟨h1, h2⟩ := qFx_pl hj _ ht q hq
          exact List.mem_filter.mpr ⟨hp q h1, by simpa using h2⟩
        · have : (ps.filter (· ≠ m)).length < ps.length := by
            refine Nat.lt_of_le_of_ne (List.length_filter_le _ _) fun z => ?_
            have := List.length_filter_eq_length_iff.mp z m (hp m hmem)
            simp at this
          omega
      rw [rngD_len]
      generalize hparts : ((List.range (wd ws m)).map fun i => qSt ws 300 (qFx m i (.look p ts))) = parts
      have ep : ((List.range (wd ws m)).map fun i => qD (qSt ws 300 (qFx m i (.look p ts)))) = qDs parts := by rw [qDs_map, ← hparts, List.map_map]; rfl
      have hpl : parts.length = wd ws m := by rw [← hparts, List.length_map, List.length_range]
      have hj : qSt ws 300 (.look p ts) = joinP m parts := by
        rw [show (300 : Nat) = 299 + 1 from rfl, qSt, hmm, ← hparts]
        congr 1
        refine List.map_congr_left fun i hi => ?_
        have hi := List.mem_range.mp hi
        have hlt := qFx_lt hi _ ht hmem
        exact qSt_fuel hw 299 300 _ (qFx_ok hi _ ht) (by omega) (by omega)
      have hdp : ∀ s ∈ parts, qDep s ≤ 8 := fun s hs => by
        rw [← hparts] at hs
        obtain ⟨i, hi, rfl⟩ := List.mem_map.mp hs
        have hi := List.mem_range.mp hi
        have hlt := qFx_lt hi _ ht hmem
        obtain ⟨a, b, _⟩ := qSt_ok hw 300 _ 0 (qFx_ok hi _ ht) (by omega) fun _ _ => Nat.zero_le _
        have := (a.small hw _ hps fun q hq => hp q (qFx_pl hi _ ht q (b q hq)).1).2
        omega
      rw [ep]
      refine ⟨_, .lst _, ?_⟩
      have e2 : (qDs parts).length = wd ws m := by rw [qDs_len, hpl]
      rw [hM]; clear hM M
      walk_at "wp"
      obtain ⟨b, l, rfl⟩ : ∃ b l, parts = b :: l := by
        cases parts with
        | nil => simp at hpl; omega
        | cons b l => exact ⟨b, l, rfl⟩
      have ec : DW.cutD (qDs (b :: l)) none (some 1) = [qD b] := by rw [show (1 : Int) = ((1 : Nat) : Int) from rfl, cut_to]; rfl
      have er : (List.replicate (qDs (b :: l)).length [qD b]).flatten = qDs (List.replicate (b :: l).length b) := by
        rw [qDs_len, qDs_map, List.map_replicate]
        induction (b :: l).length with
        | zero => rfl
        | succ n ih => rw [List.replicate_succ, List.flatten_cons, ih, List.replicate_succ]; rfl
      rw [ec, er]
      have side : ∀ ss : List QT, (∀ s ∈ ss, qDep s ≤ 8) → EqSide (.tup (qDs ss)) := fun ss hs => ⟨by rw [eqOk]; exact eqOk_qs ss, by rw [dpt]; have := dpts_q ss; have := qdeps_bound ss hs; omega⟩
      refine ⟨by omega, by omega, by rw [List.length_singleton]; omega, side _ hdp, side _ fun s hs => hdp s (by rw [List.eq_of_mem_replicate hs]; exact List.mem_cons_self), ?_⟩
      rw [eqD_qs]
      refine ⟨_, rfl, fun q => ?_, fun q => ?_⟩
      · have q := @of_decide_eq_true _ (_) q
        have hall : ∀ s ∈ b :: l, s = b := fun s hs => by rw [q] at hs; exact List.eq_of_mem_replicate hs
        refine ⟨qD b, by rw [qDs]; exact atI_nat (j := 0) rfl, μ, Sub.set Sub.refl hr, ?_⟩
        rw [hj] at h
        unfold joinP at h
        rw [if_pos (by exact hall)] at h
        exact h
      · have q := @of_decide_eq_false _ (_) q
        refine ⟨by omega, by omega, μ, Sub.set Sub.refl hr, ?_⟩
        rw [hj] at h
        unfold joinP at h
        rw [if_neg (show ¬ ∀ q ∈ b :: l, q = (b :: l).headD (.tell 0) from fun z => q (List.eq_replicate_iff.mpr ⟨rfl, z⟩))] at h
        exact h
end
section
variable {P : Program} {w : World} {K : Fg} {mg : Str → Option Value} {base : Heap}
section
variable {P : Program} {w : World} {K : Fg} {mg : Str → Option Value} {base : Heap}
theorem okN_settled_part (T : Txt P w K mg) : ∀ n, FnOk P w K mg base (L2N.CX P w) (31 + n) T.f_settled_part T.d_settled_part ["term", "widths"] (spOf K (c_settled_part n))
  | 0 => fn_never fun ds μ Φ Ψ h => by obtain ⟨_, _, _, _, _, _, _, _, _, _, _, h, _⟩ := h; omega
  | n + 1 => step_settled_part T (k := 31 + n) (by omega) n (okN_settled_part T n)
theorem ok_settled_part (T : Txt P w K mg) : FnOk P w K mg base (L2N.CX P w) 60 T.f_settled_part T.d_settled_part ["term", "widths"] (spOf K (c_settled_part 9)) := (okN_settled_part T 9).mono (by decide)
end
def c_settled_term (C : Addr) : Con := fun ds μ Φ _ => ∃ (ws : List Int) (oc : Nat) (ps : List Nat) (t : QT), ds = [qO C t ws oc] ∧ QFit ws oc ps t ∧ Φ (qD (qSt ws 300 t)) μ
theorem len_settled_term {C ds μ Φ Ψ} (h : c_settled_term C ds μ Φ Ψ) : ds.length = 1 := by obtain ⟨_, _, _, _, rfl, _⟩ := h; rfl
theorem ok_settled_term (T : Txt P w K mg) : FnOk P w K mg base (L2N.CX P w) 61 T.f_settled_term T.d_settled_term ["query"] (spOf K (c_settled_term T.c_Query)) := by
  refine def_okC T.F_settled_term sc_settled_term _ (fun ds μ Φ Ψ h => len_settled_term h) (fun cdv A outer s H E B hW hr =>
    have tk : L2N.Takes (cxOf (L2N.CX P w) P w K mg base N_settled_term "settled_term" (defScope s_settled_term) T.f_settled_term cdv A outer s H E) (fun cls d _ H => E cls d H) := L2N.takes_of rfl rfl rfl rfl
    ⟨_, (pss_one (ps_ret (pe_call (ok_settled_part T) hr rfl T.g_settled_part T.F_settled_part.kp T.b_settled_part .nil passN (pa_cons (pe_fld (pv 0) rfl) (pa_cons (pe_fld (pv 0) rfl) pa_nil))))),
      (sRet (sCall (sCons (sFldO (NS := NS_Query) (i := 0) T.cls_Query T.na_Query_term rfl (by decide) sVar) (sCons (sFldO (NS := NS_Query) (i := 1) T.cls_Query T.na_Query_widths rfl (by decide) sVar) sNil))))⟩) (fun ds μ Φ Ψ h => ?hv)
  case hv =>
    obtain ⟨ws, oc, ps, t, rfl, hq, h⟩ := h
    have e1 : qO T.c_Query t ws oc = D.obj T.c_Query NS_Query [qD t, .tup (ws.map .int), .int (oc : Int)] := rfl
    rw [e1]
    walk_at "wps"
    exact ⟨ws, oc, ps, t, rfl, hq.w, hq.ok, hq.dep, hq.looks, hq.pl, hq.sorted, by have := hq.most; omega, hq.most, ret_same h⟩
def c_term_reach : Con := fun ds μ Φ _ => ∃ (ws : List Int) (oc : Nat) (t : QT), ds = [qD t] ∧ QOk ws oc t ∧ qDep t < 21 ∧ (qPl t).length ≤ 1000 ∧ Φ (.int (rch (qPl t) : Int)) μ
theorem len_term_reach {ds μ Φ Ψ} (h : c_term_reach ds μ Φ Ψ) : ds.length = 1 := by obtain ⟨_, _, _, rfl, _⟩ := h; rfl
theorem ok_term_reach (T : Txt P w K mg) : FnOk P w K mg base (L2N.CX P w) 31 T.f_term_reach T.d_term_reach ["term"] (spOf K c_term_reach) := by
  refine def_okC T.F_term_reach sc_term_reach _ (fun ds μ Φ Ψ h => len_term_reach h) (fun cdv A outer s H E B hW hr =>
    have tk : L2N.Takes (cxOf (L2N.CX P w) P w K mg base N_term_reach "term_reach" (defScope s_term_reach) T.f_term_reach cdv A outer s H E) (fun cls d _ H => E cls d H) := L2N.takes_of rfl rfl rfl rfl
    ⟨_, (pss_one (ps_ret (pe_op op_add (pe_maxD rfl T.z_max rfl hr (pe_call (ok_places_of T) hr rfl T.g_places_of T.F_places_of.kp T.b_places_of .nil passN (pa_cons (pv 0) pa_nil)) (pe_un un_neg pe_int)) pe_int))),
      (sRet (sOp roInt0 (sMaxD (sCall (sCons sVar sNil)) (sUn ruInt sInt)) sInt))⟩) (fun ds μ Φ Ψ h => ?hv)
  case hv =>
    obtain ⟨ws, oc, t, rfl, ht, hd, hl, h⟩ := h
    walk_at "wps"
    refine ⟨ws, oc, t, rfl, ht, by omega, hl, (qPl t).map fun (n : Nat) => (n : Int), by rw [nI_ints], fun e => ?_, fun m hm hmax => ?_⟩
    · have e2 : qPl t = [] := List.map_eq_nil_iff.mp e
      rw [e2] at h
      exact ret_same h
    · obtain ⟨q, hq, rfl⟩ := List.mem_map.mp hm
      rw [rch_max hq fun z hz => by have := hmax _ (List.mem_map.mpr ⟨z, hz, rfl⟩); omega] at h
      exact ret_same h
def c_query_reach (C : Addr) : Con := fun ds μ Φ _ => ∃ (ws : List Int) (oc : Nat) (ps : List Nat) (t : QT), ds = [qO C t ws oc] ∧ QFit ws oc ps t ∧ Φ (.int (rc ws t : Int)) μ
theorem len_query_reach {C ds μ Φ Ψ} (h : c_query_reach C ds μ Φ Ψ) : ds.length = 1 := by obtain ⟨_, _, _, _, rfl, _⟩ := h; rfl
theorem ok_query_reach (T : Txt P w K mg) : FnOk P w K mg base (L2N.CX P w) 62 T.f_query_reach T.d_query_reach ["query"] (spOf K (c_query_reach T.c_Query)) := by
  refine def_okC T.F_query_reach sc_query_reach _ (fun ds μ Φ Ψ h => len_query_reach h) (fun cdv A outer s H E B hW hr =>
    have tk : L2N.Takes (cxOf (L2N.CX P w) P w K mg base N_query_reach "query_reach" (defScope s_query_reach) T.f_query_reach cdv A outer s H E) (fun cls d _ H => E cls d H) := L2N.takes_of rfl rfl rfl rfl
    ⟨_, (pss_one (ps_ret (pe_call (ok_term_reach T) (hr.mono (by decide)) rfl T.g_term_reach T.F_term_reach.kp T.b_term_reach .nil passN (pa_cons (pe_call (ok_settled_term T) hr rfl T.g_settled_term T.F_settled_term.kp T.b_settled_term .nil passN (pa_cons (pv 0) pa_nil)) pa_nil)))),
      (sRet (sCall (sCons (sCall (sCons sVar sNil)) sNil)))⟩) (fun ds μ Φ Ψ h => ?hv)
  case hv =>
    obtain ⟨ws, oc, ps, t, rfl, hf, h⟩ := h
    have S := stl_of hf
    walk_at "wps"
    refine ⟨ws, oc, ps, t, rfl, hf, ws, oc, stl ws t, rfl, S.is.ok, by have := S.dp; omega, by have := S.ln; omega, ret_same h⟩
def c_require_outcome (C O : Addr) : Con := fun ds μ Φ Ψ => ∃ (ws : List Int) (oc : Nat) (t : QT) (o : Int), ds = [qO C t ws oc, .int o] ∧ ((0 ≤ o ∧ o < (oc : Int)) → Φ .non μ) ∧ (¬ (0 ≤ o ∧ o < (oc : Int)) → Ψ (.mk O none) μ)
theorem len_require_outcome {C O ds μ Φ Ψ} (h : c_require_outcome C O ds μ Φ Ψ) : ds.length = 2 := by obtain ⟨_, _, _, _, rfl, _⟩ := h; rfl
theorem ok_require_outcome (T : Txt P w K mg) : FnOk P w K mg base (L2N.CX P w) 3 T.f_require_outcome T.d_require_outcome ["query", "outcome"] (spOf K (c_require_outcome T.c_Query T.c_OutOfRange)) := by
  refine def_okC T.F_require_outcome sc_require_outcome _ (fun ds μ Φ Ψ h => len_require_outcome h) (fun cdv A outer s H E B hW hr =>
    have tk : L2N.Takes (cxOf (L2N.CX P w) P w K mg base N_require_outcome "require_outcome" (defScope s_require_outcome) T.f_require_outcome cdv A outer s H E) (fun cls d _ H => E cls d H) := L2N.takes_of rfl rfl rfl rfl
    ⟨_, (pss_one (ps_if (pt_not (pt_val (pe_call (ok_is_below T) hr rfl T.g_is_below T.F_is_below.kp T.b_is_below .nil passN (pa_cons (pv 1) (pa_cons (pe_fld (pv 0) rfl) pa_nil))))) (pss_one (L2N.ps_raise rfl tk (L2N.pmk_own PySem.F.excBase_ValueError T.x_OutOfRange T.g_OutOfRange T.k_OutOfRange (raises_own T.e_OutOfRange T.t_OutOfRange) rfl))) pss_nil)),
      (sIfS (sNot (sB (sCall (sCons sVar (sCons (sFldO (NS := NS_Query) (i := 2) T.cls_Query T.na_Query_outcomes rfl (by decide) sVar) sNil))))) (sRaise0W (W := fun cls d _ H => E cls d H) (C := T.c_OutOfRange) (by exact hW)) sNext)⟩) (fun ds μ Φ Ψ h => ?hv)
  case hv =>
    obtain ⟨ws, oc, t, o, rfl, h1, h2⟩ := h
    unfold qO
    walk_at "wps"
    rw [w_is_below]
    by_cases c : 0 ≤ o ∧ o < (oc : Int)
    · rw [decide_eq_true c]
      walk_at "wps"
      exact ret_same (h1 c)
    · rw [decide_eq_false c]
      walk_at "wps"
      exact ⟨_, Sub.refl, h2 c⟩
theorem sideI (l : List Int) : EqSide (.tup (l.map .int)) := by
  refine ⟨?_, ?_⟩
  · rw [eqOk]
    induction l with
    | nil => rfl
    | cons x l ih => rw [List.map_cons, eqOks, ih]; rfl
  · rw [dpt]
    have : dpts (l.map D.int) = 0 := by
      induction l with
      | nil => rfl
      | cons x l ih => rw [List.map_cons, dpts, ih]; rfl
    omega
def c_require_same_widths (C S : Addr) : Con := fun ds μ Φ Ψ => ∃ (ws ws' : List Int) (oc oc' : Nat) (t t' : QT), ds = [qO C t ws oc, qO C t' ws' oc'] ∧ (ws = ws' → Φ .non μ) ∧ (ws ≠ ws' → Ψ (.mk S none) μ)
theorem len_require_same_widths {C S ds μ Φ Ψ} (h : c_require_same_widths C S ds μ Φ Ψ) : ds.length = 2 := by obtain ⟨_, _, _, _, _, _, rfl, _⟩ := h; rfl
theorem ok_require_same_widths (T : Txt P w K mg) : FnOk P w K mg base (L2N.CX P w) 1 T.f_require_same_widths T.d_require_same_widths ["first", "second"] (spOf K (c_require_same_widths T.c_Query T.c_SizeMismatch)) := by
  refine def_okC T.F_require_same_widths sc_require_same_widths _ (fun ds μ Φ Ψ h => len_require_same_widths h) (fun cdv A outer s H E B hW hr =>
    have tk : L2N.Takes (cxOf (L2N.CX P w) P w K mg base N_require_same_widths "require_same_widths" (defScope s_require_same_widths) T.f_require_same_widths cdv A outer s H E) (fun cls d _ H => E cls d H) := L2N.takes_of rfl rfl rfl rfl
    ⟨_, (pss_one (ps_if (pt_cmpR (op_neD hr.units) (pe_fld (pv 0) rfl) (pe_fld (pv 1) rfl) (nomark _)) (pss_one (L2N.ps_raise rfl tk (L2N.pmk_own PySem.F.excBase_ValueError T.x_SizeMismatch T.g_SizeMismatch T.k_SizeMismatch (raises_own T.e_SizeMismatch T.t_SizeMismatch) rfl))) pss_nil)),
      (sIfS (sTest (sOp roNeD (sFldO (NS := NS_Query) (i := 1) T.cls_Query T.na_Query_widths rfl (by decide) sVar) (sFldO (NS := NS_Query) (i := 1) T.cls_Query T.na_Query_widths rfl (by decide) sVar))) (sRaise0W (W := fun cls d _ H => E cls d H) (C := T.c_SizeMismatch) (by exact hW)) sNext)⟩) (fun ds μ Φ Ψ h => ?hv)
  case hv =>
    obtain ⟨ws, ws', oc, oc', t, t', rfl, h1, h2⟩ := h
    have e1 : ∀ t ws oc, qO T.c_Query t ws oc = D.obj T.c_Query NS_Query [qD t, .tup (ws.map .int), .int (oc : Int)] := fun _ _ _ => rfl
    rw [e1, e1]
    walk_at "wps"
    refine ⟨sideI _, sideI _, _, rfl, fun q => ?_, fun q => ?_⟩
    · rw [eqD_ints] at q
      exact ⟨_, Sub.refl, h2 fun z => by rw [decide_eq_true z] at q; cases q⟩
    · rw [eqD_ints] at q
      refine ret_same (h1 ?_)
      by_cases z : ws = ws'
      · exact z
      · rw [decide_eq_false z] at q; cases q
end
section
variable {P : Program} {w : World} {K : Fg} {mg : Str → Option Value} {base : Heap}
structure StC (ns : List Int) (c : List D) : Prop where
  ex : ∃ seed idx rest : Int, c = [.int seed, .lst (ns.map .int), .int idx, .int rest] ∧ 0 ≤ seed ∧ seed < 2147483647 ∧ 0 ≤ idx ∧ 0 ≤ rest
def c__law_pick : Con := fun ds μ Φ _ => ∃ st ns c n, ds = [.hd (.ref st), .int n] ∧ μ st = some (.lst c) ∧ StC ns c ∧ 0 < n ∧ n.natAbs.log2 < 9000 ∧ ∀ r c', 0 ≤ r → r < n → StC ns c' → Φ (.int r) (sset μ st (.lst c'))
theorem len__law_pick {ds μ Φ Ψ} (h : c__law_pick ds μ Φ Ψ) : ds.length = 2 := by obtain ⟨i, _, _, _, rfl, _⟩ := h; rfl
theorem pick_cell {ns : List Int} {idx : Int} {P : D → Prop} (h0 : 0 ≤ idx) (h1 : idx < ns.length) (k : ∀ z, P (.int z)) : ∃ d, atI (ns.map D.int) idx = some d ∧ P d := by
  obtain ⟨j, rfl⟩ : ∃ j : Nat, idx = (j : Int) := ⟨idx.toNat, by omega⟩
  have hj : j < ns.length := by omega
  exact ⟨.int ns[j], atI_nat (by rw [List.getElem?_map, List.getElem?_eq_getElem hj]; rfl), k _⟩
theorem ok__law_pick {cx : CXT} (T : Txt P w K mg) : FnOk P w K mg base cx 1 T.f__law_pick T.d__law_pick ["_law_state", "_law_limit"] (spOf K c__law_pick) := by
  refine def_okC T.F__law_pick sc__law_pick _ (fun ds μ Φ Ψ h => len__law_pick h) (fun cdv A outer s H E B hW hr =>
    ⟨_, (pss_cons (ps_if (pt_cmpR op_ge (pe_ix ix_list (pv 0) pe_int (fun _ _ => rfl)) (pv 1) (nomark _)) (pss_cons (ps_set (i := 4) sc__law_pick.nd rfl (Or.inl rfl) (pe_callTy call_int1 (by rfl) T.z_int (by decide +kernel) (pa_cons (pe_ix ix_list (pv 0) pe_int (fun _ _ => rfl)) pa_nil)))
      (pss_cons (ps_asg (pe_op op_fdivW (pv 4) (pv 1)) (pg_sub (pv 0) pe_int set_list))
      (pss_one (ps_ret (pe_op op_mod (pv 4) (pv 1)))))) pss_nil)
      (pss_cons (ps_set (i := 2) sc__law_pick.nd rfl (Or.inl rfl) pe_int)
      (pss_cons (ps_if (pt_cmpR op_lt (pe_ix ix_list (pv 0) pe_int (fun _ _ => rfl)) (pe_callB call_len_seq (by rfl) T.z_len PySem.boot_len (pa_cons (pe_ix ix_list (pv 0) pe_int (fun _ _ => rfl)) pa_nil)) (nomark _)) (pss_cons (ps_set (i := 2) sc__law_pick.nd rfl (Or.inl rfl) (pe_callTy call_int1 (by rfl) T.z_int (by decide +kernel) (pa_cons (pe_ix ix_list (pe_ix ix_list (pv 0) pe_int (fun _ _ => rfl)) (pe_ix ix_list (pv 0) pe_int (fun _ _ => rfl)) (fun _ _ => rfl)) pa_nil)))
      (pss_cons (ps_asg (pe_op op_add (pe_ix ix_list (pv 0) pe_int (fun _ _ => rfl)) pe_int) (pg_sub (pv 0) pe_int set_list))
      (pss_cons (ps_if (pt_cmpR op_lt (pv 2) pe_int (nomark _)) (pss_one (ps_set (i := 2) sc__law_pick.nd rfl (Or.inl rfl) (pe_op op_sub pe_int (pv 2)))) pss_nil)
      (pss_one (ps_if (pt_cmpR op_ge (pv 2) (pe_op op_pow pe_int pe_int) (nomark _)) (pss_cons (ps_asg (pe_op op_fdivW (pv 2) (pv 1)) (pg_sub (pv 0) pe_int set_list))
      (pss_one (ps_ret (pe_op op_mod (pv 2) (pv 1))))) pss_nil))))) pss_nil)
      (pss_cons (ps_set (i := 3) sc__law_pick.nd rfl (Or.inl rfl) (pe_op op_mod (pe_op op_mulX (pe_op op_add (pe_op op_add (pe_callTy call_int1 (by rfl) T.z_int (by decide +kernel) (pa_cons (pe_ix ix_list (pv 0) pe_int (fun _ _ => rfl)) pa_nil)) (pe_op op_mod (pv 2) pe_int)) pe_int) pe_int) pe_int))
      (pss_cons (ps_asg (pe_op op_mod (pe_op op_add (pe_op op_mulX (pv 3) pe_int) pe_int) pe_int) (pg_sub (pv 0) pe_int set_list))
      (pss_one (ps_ret (pe_op op_mod (pe_op op_fdivW (pe_callTy call_int1 (by rfl) T.z_int (by decide +kernel) (pa_cons (pe_ix ix_list (pv 0) pe_int (fun _ _ => rfl)) pa_nil)) pe_int) (pv 1))))))))),
      (sSeq (sIfS (sTest (sOp roBl0 (sOp roIxL sVar sInt) sVar)) (sSeq (sAsg (sCB rcInt (sCons (sOp roIxL sVar sInt) sNil)) sName)
      (sSeq (sAsgS (sOp roInt sVar sVar) sVar sInt)
      (sRet (sOp roInt sVar sVar)))) sNext)
      (sSeq (sAsg sInt sName)
      (sSeq (sIfS (sTest (sOp roBl0 (sOp roIxL sVar sInt) (sCB rcLen (sCons (sOp roIxL sVar sInt) sNil)))) (sSeq (sAsg (sCB rcInt (sCons (sOp roIxL (sOp roIxL sVar sInt) (sOp roIxL sVar sInt)) sNil)) sName)
      (sSeq (sAsgS (sOp roInt0 (sOp roIxL sVar sInt) sInt) sVar sInt)
      (sSeq (sIfS (sTest (sOp roBl0 sVar sInt)) (sAsg (sOp roInt0 sInt sVar) sName) sNext)
      (sIfS (sTest (sOp roBl0 sVar (sOp roInt sInt sInt))) (sSeq (sAsgS (sOp roInt sVar sVar) sVar sInt)
      (sRet (sOp roInt sVar sVar))) sNext)))) sNext)
      (sSeq (sAsg (sOp roInt (sOp roInt (sOp roInt0 (sOp roInt0 (sCB rcInt (sCons (sOp roIxL sVar sInt) sNil)) (sOp roInt sVar sInt)) sInt) sInt) sInt) sName)
      (sSeq (sAsgS (sOp roInt (sOp roInt0 (sOp roInt sVar sInt) sInt) sInt) sVar sInt)
      (sRet (sOp roInt (sOp roInt (sCB rcInt (sCons (sOp roIxL sVar sInt) sNil)) sInt) sVar)))))))⟩) (fun ds μ Φ Ψ h => ?hv)
  case hv =>
    obtain ⟨st, ns, c, n, rfl, hc, ⟨seed, idx, rest, rfl, h1, h2, h3, h4⟩, hn, hl, h⟩ := h
    have hmod : ∀ a : Int, 0 ≤ a % n ∧ a % n < n := fun a => ⟨Int.emod_nonneg _ (by omega), Int.emod_lt_of_pos _ hn⟩
    have hM : ∀ a : Int, 0 ≤ a % 2147483647 ∧ a % 2147483647 < 2147483647 := fun a => ⟨Int.emod_nonneg _ (by omega), Int.emod_lt_of_pos _ (by omega)⟩
    -- what stands at the end, whatever the cell is
    have tail : ∀ (μ' : Sto) (cell idx' : Int) (x4 : Option D), (∀ c', sset μ' st (.lst c') = sset μ st (.lst c')) → μ' st = some (.lst [.int seed, .lst (ns.map .int), .int idx', .int rest]) → 0 ≤ idx' → (dSeq
      (dAsg
        (dOp (oI (fun x j => 0 < j) fun i j => D.int (i % j))
          (dOp (oI CMulX fun i j => D.int (i * j))
            (dOp (oI0 fun i j => D.int (i + j))
              (dOp (oI0 fun i j => D.int (i + j)) (dCB cInt (dCons (dOp oIxL (dVar 0) (dC (D.int 0))) dNil))
                (dOp (oI (fun x j => 0 < j) fun i j => D.int (i % j)) (dVar 2) (dC (D.int 2147483647))))
              (dC (D.int 1)))
            (dC (D.int 48271)))
          (dC (D.int 2147483647)))
        (eName 3))
      (dSeq
        (dAsgS
          (dOp (oI (fun x j => 0 < j) fun i j => D.int (i % j))
            (dOp (oI0 fun i j => D.int (i + j)) (dOp (oI CMulX fun i j => D.int (i * j)) (dVar 3) (dC (D.int 69621)))
              (dC (D.int 12345)))
            (dC (D.int 2147483647)))
          (dVar 0) (dC (D.int 0)))
        (dRet
          (dOp (oI (fun x j => 0 < j) fun i j => D.int (i % j))
            (dOp (oI CDivW fun i j => D.int (i / j)) (dCB cInt (dCons (dOp oIxL (dVar 0) (dC (D.int 0))) dNil))
              (dC (D.int 7)))
            (dVar 1))))) (goalX Ψ) (goalE Φ) [some (.hd (.ref st)), some (.int n), some (.int cell), none, x4] μ' := by
      intro μ' cell idx' x4 hs hc' hi'
      have b1 := hM cell
      have b2 := hM ((seed + cell % 2147483647 + 1) * 48271)
      have b3 := hM ((seed + cell % 2147483647 + 1) * 48271 % 2147483647 * 69621 + 12345)
      clear hM hc
      walk_at "wps"
      simp only [hc']
      walk_at "wp"
      simp only [hc']
      walk_at "wp"
      refine ⟨by decide, mulx 33 17 (by omega) (by decide) (by decide), by decide, mulx 31 18 (by omega) (by decide) (by decide), by decide, wide_div (b := 3) (by decide) (by decide) (by decide) (by decide), hn, ?_⟩
      rw [hs]
      exact ret_same (h _ _ (hmod _).1 (hmod _).2 ⟨_, _, _, rfl, b3.1, b3.2, hi', h4⟩)
    refine q_seq fun nx hnx => ?_
    walk_at "wp"
    simp only [hc]
    walk_at "wp"
    refine ⟨fun c1 => ?_, fun c1 => ?_⟩
    · walk_at "wps"
      simp only [hc]
      walk_at "wp"
      simp only [hc]
      walk_at "wp"
      exact ⟨⟨hn, hl⟩, hn, ret_same (h _ _ (hmod _).1 (hmod _).2 ⟨_, _, _, rfl, h1, h2, h3, Int.ediv_nonneg h4 (by omega)⟩)⟩
    · subst hnx
      refine q_seq fun nx hnx => ?_
      walk_at "wp"
      subst hnx
      refine q_seq fun nx hnx => ?_
      walk_at "wp"
      simp only [hc]
      walk_at "wp"
      refine ⟨fun c2 => ?_, fun c2 => ?_⟩
      · refine q_seq fun nx2 hnx2 => ?_
        walk_at "wp"
        simp only [hc]
        walk_at "wp"
        refine pick_cell h3 c2 fun z => ?_
        walk_at "wp"
        subst hnx2
        refine q_seq fun nx2 hnx2 => ?_
        walk_at "wp"
        simp only [hc]
        walk_at "wp"
        simp only [hc]
        walk_at "wp"
        subst hnx2
        have hc2 : sset μ st (.lst [.int seed, .lst (ns.map .int), .int (idx + 1), .int rest]) st = some (.lst [.int seed, .lst (ns.map .int), .int (idx + 1), .int rest]) := sset_same
        have fin : ∀ z : Int, 0 ≤ z → dIfS (dTest (dOp (oI0 fun i j => D.bl (decide (j ≤ i))) (dVar 2) (dOp (oI CPow fun i j => D.int (i ^ j.toNat)) (dC (D.int 10)) (dC (D.int 18))))) (dSeq (dAsgS (dOp (oI CDivW fun i j => D.int (i / j)) (dVar 2) (dVar 1)) (dVar 0) (dC (D.int 3))) (dRet (dOp (oI (fun x j => 0 < j) fun i j => D.int (i % j)) (dVar 2) (dVar 1)))) dNext
            (goalX Ψ) ⟨nx, (goalE Φ).rt, (goalE Φ).bk, (goalE Φ).ct⟩ [some (.hd (.ref st)), some (.int n), some (.int z), none, none] (sset μ st (.lst [.int seed, .lst (ns.map .int), .int (idx + 1), .int rest])) := by
          intro z hz
          walk_at "wp"
          refine ⟨⟨by decide, by decide, by decide⟩, fun c3 => ?_, fun c3 => ?_⟩
          · walk_at "wps"
            exact ⟨⟨hn, hl⟩, hn, ret_same (h _ _ (hmod _).1 (hmod _).2 ⟨_, _, _, rfl, h1, h2, by omega, Int.ediv_nonneg hz (by omega)⟩)⟩
          · subst hnx
            exact tail _ z (idx + 1) none (fun c' => sset_sset) sset_same (by omega)
        refine q_seq fun nx2 hnx2 => ?_
        walk_at "wp"
        subst hnx2
        refine ⟨fun c3 => ?_, fun c3 => ?_⟩
        · exact fin _ (by omega)
        · exact fin _ (by omega)
      · subst hnx
        exact tail μ 11 idx none (fun _ => rfl) hc h3
def c__law_start : Con := fun ds μ Φ _ => ∃ ns, ds = [.scr ns] ∧ ns.length ≤ 63 ∧ ∀ p c, μ p = none → StC ns c → Φ (.hd (.ref p)) (sset μ p (.lst c))
theorem len__law_start {ds μ Φ Ψ} (h : c__law_start ds μ Φ Ψ) : ds.length = 1 := by obtain ⟨i, rfl, _⟩ := h; rfl
theorem ok__law_start {cx : CXT} (T : Txt P w K mg) : FnOk P w K mg base cx 1 T.f__law_start T.d__law_start ["_law_script"] (spOf K c__law_start) := by
  refine def_okC T.F__law_start sc__law_start _ (fun ds μ Φ Ψ h => len__law_start h) (fun cdv A outer s H E B hW hr =>
    ⟨_, (pss_cons (ps_set (i := 1) sc__law_start.nd rfl (Or.inl rfl) pe_int)
      (pss_cons (ps_for (passes_of rfl) rfl (pi_range1 rfl T.z_range (pa_cons (pe_callB call_len_seq (by rfl) T.z_len PySem.boot_len (pa_cons (pv 0) pa_nil)) pa_nil)) (pg_name (i := 2) sc__law_start.nd rfl (Or.inl rfl)) (pss_one (ps_set (i := 1) sc__law_start.nd rfl (Or.inl rfl) (pe_op op_mod (pe_op op_add (pe_op op_add (pe_op op_add (pe_op op_mulX (pv 1) pe_int) (pe_op op_mod (pe_callTy call_int1 (by rfl) T.z_int (by decide +kernel) (pa_cons (pe_ix ix_list (pv 0) (pv 2) (fun _ _ => rfl)) pa_nil)) pe_int)) (pv 2)) pe_int) pe_int))))
      (pss_one (ps_ret (pe_lst (pa_cons (pv 1) (pa_cons (pe_callTy call_list_of (by rfl) T.z_list (by decide +kernel) (pa_cons (pv 0) pa_nil)) (pa_cons pe_int (pa_cons pe_int pa_nil))))))))),
      (sSeq (sAsg sInt sName)
      (sSeq (sFor (siR1 (sCB rcLen (sCons sVar sNil))) (fun _ _ _ => sName) (fun _ _ _ => (sAsg (sOp roInt (sOp roInt0 (sOp roInt0 (sOp roInt0 (sOp roInt sVar sInt) (sOp roInt (sCB rcInt (sCons (sOp roIxL sVar sVar) sNil)) sInt)) sVar) sInt) sInt) sName)))
      (sRet (sOwn (sCons sVar (sCons (sCB rcList (sCons sVar sNil)) (sCons sInt (sCons sInt sNil))))))))⟩) (fun ds μ Φ Ψ h => ?hv)
  case hv =>
    obtain ⟨ns, rfl, hl, h⟩ := h
    have hM : ∀ a : Int, 0 ≤ a % 2147483647 ∧ a % 2147483647 < 2147483647 := fun a => ⟨Int.emod_nonneg _ (by omega), Int.emod_lt_of_pos _ (by omega)⟩
    walk_at "wps"
    refine ⟨by omega, by omega, fun i δ' μ' => μ' = μ ∧ ∃ seed x, 0 ≤ seed ∧ seed < 2147483647 ∧ δ' = [some (.scr ns), some (.int seed), x], ⟨rfl, 7, none, by omega, by omega, rfl⟩, ?_, ?_⟩
    · rintro i d δ' μ' hi ⟨rfl, seed, x, h1, h2, rfl⟩
      obtain ⟨hj, rfl⟩ := rngD_get hi
      walk_at "wps"
      refine ⟨mulx 31 17 (by omega) (by decide) (by decide), .int ns[i], ?_, ?_⟩
      · exact atI_nat (by rw [List.getElem?_map, List.getElem?_eq_getElem hj]; rfl)
      · walk_at "wps"
        exact ⟨by decide, by decide, _, _, (hM _).1, (hM _).2, rfl⟩ -- (hM _).1, (hM _).2, rfl⟩
    · rintro δ' μ' ⟨rfl, seed, x, h1, h2, rfl⟩
      walk_at "wps"
      exact ⟨by decide, fun p hp => ret_same (h p _ hp ⟨seed, 0, 0, rfl, h1, h2, by omega, by omega⟩)⟩
mutual
/-- what the law compares: plain data -/
def plainD : D → Bool
  | .non => true
  | .bl _ => true
  | .int _ => true
  | .str _ => true
  | .tup ds => plainDs ds && decide (ds.length ≤ 100000)
  | _ => false
def plainDs : List D → Bool
  | [] => true
  | d :: ds => plainD d && plainDs ds
end
mutual
def depD : D → Nat
  | .tup ds => depDs ds + 1
  | _ => 1
def depDs : List D → Nat
  | [] => 0
  | d :: ds => max (depD d) (depDs ds)
end
mutual
def sameD : D → D → Bool
  | a, .tup ds => match a with
    | .tup es => sameDs es ds
    | _ => false
  | a, .non => match a with
    | .non => true
    | _ => false
  | a, .str s => match a with
    | .str t => decide (t = s)
    | _ => false
  | a, .bl s => match a with
    | .bl t => decide (t = s)
    | _ => false
  | a, .int s => match a with
    | .int t => decide (t = s)
    | _ => false
  | _, _ => false
def sameDs : List D → List D → Bool
  | [], [] => true
  | e :: es, d :: ds => sameD e d && sameDs es ds
  | _, _ => false
end
/-- what may be handed to it -/
def c__law_same : Nat → Con
  | 0 => fun _ _ _ _ => False
  | n + 1 => fun ds μ Φ _ => ∃ a d, ds = [a, d] ∧ plainD a = true ∧ plainD d = true ∧ depD d ≤ n + 1 ∧ Φ (.bl (sameD a d)) μ
theorem len__law_same {n ds μ Φ Ψ} (h : c__law_same n ds μ Φ Ψ) : ds.length = 2 := by
  cases n with
  | zero => exact h.elim
  | succ n => obtain ⟨i, _, rfl, _⟩ := h; rfl
theorem depD_pos (d : D) : 0 < depD d := by cases d <;> simp [depD]
theorem same_at {n a d μ Φ Ψ} (pa : plainD a = true) (pd : plainD d = true) (hd : depD d ≤ n) (h : Φ (.bl (sameD a d)) μ) : c__law_same n [a, d] μ Φ Ψ := by
  cases n with
  | zero => have := depD_pos d; omega
  | succ n => exact ⟨a, d, rfl, pa, pd, hd, h⟩
theorem plain_get : ∀ {ds : List D} {i : Nat} {d : D}, plainDs ds = true → ds[i]? = some d → plainD d = true
  | [], i, d, _, e => by cases e
  | x :: xs, 0, d, h, e => by cases e; simp [plainDs] at h; exact h.1
  | x :: xs, i + 1, d, h, e => by simp [plainDs] at h; exact plain_get h.2 e
theorem dep_get : ∀ {ds : List D} {i : Nat} {d : D}, ds[i]? = some d → depD d ≤ depDs ds
  | [], i, d, e => by cases e
  | x :: xs, 0, d, e => by cases e; simp only [depDs]; omega
  | x :: xs, i + 1, d, e => by have := dep_get (ds := xs) (i := i) e; simp only [depDs]; omega
theorem sameDs_len : ∀ {es ds : List D}, es.length ≠ ds.length → sameDs es ds = false
  | [], [], h => absurd rfl h
  | [], _ :: _, h => by simp [sameDs]
  | _ :: _, [], h => by simp [sameDs]
  | e :: es, d :: ds, h => by simp [sameDs]; intro _; exact sameDs_len (by simpa using h)
theorem sameDs_all : ∀ {es ds : List D}, es.length = ds.length → ((List.range ds.length).map fun i => sameD (es.getD i .non) (ds.getD i .non)).all id = sameDs es ds
  | [], [], h => by simp [sameDs]
  | [], _ :: _, h => by simp at h
  | _ :: _, [], h => by simp at h
  | e :: es, d :: ds, h => by
    have ih := sameDs_all (es := es) (ds := ds) (by simpa using h)
    rw [List.length_cons, List.range_succ_eq_map, List.map_cons, List.map_map, List.all_cons, sameDs, ← ih]
    rfl
theorem step__law_same (T : Txt P w K mg) {k : Nat} (hk : 0 ≤ k) (n : Nat) (ih__law_same : FnOk P w K mg base (L2N.CX P w) k T.f__law_same T.d__law_same ["_law_actual", "_law_due"] (spOf K (c__law_same n))) : FnOk P w K mg base (L2N.CX P w) (k + 1) T.f__law_same T.d__law_same ["_law_actual", "_law_due"] (spOf K (c__law_same (n + 1))) := by
  refine def_okC T.F__law_same sc__law_same _ (fun ds μ Φ Ψ h => len__law_same h) (fun cdv A outer s H E B hW hr =>
    have tk : L2N.Takes (cxOf (L2N.CX P w) P w K mg base N__law_same "_law_same" (defScope s__law_same) T.f__law_same cdv A outer s H E) (fun cls d _ H => E cls d H) := L2N.takes_of rfl rfl rfl rfl
    ⟨_, (pss_cons (ps_if (pt_val (pe_callB call_isi (by rfl) T.z_isinstance (by decide +kernel) (pa_cons (pv 1) (pa_cons (pe_bltn (v := .ty "tuple") rfl T.z_tuple (by decide +kernel) rfl) pa_nil)))) (pss_cons (ps_if (PW.pt (pw_or (pt_not (pt_val (pe_callB call_isi (by rfl) T.z_isinstance (by decide +kernel) (pa_cons (pv 0) (pa_cons (pe_bltn (v := .ty "tuple") rfl T.z_tuple (by decide +kernel) rfl) pa_nil))))) (pw_or1 (pt_cmpR op_ne (pe_callB call_len_seq (by rfl) T.z_len PySem.boot_len (pa_cons (pv 0) pa_nil)) (pe_callB call_len_seq (by rfl) T.z_len PySem.boot_len (pa_cons (pv 1) pa_nil)) (nomark _))))) (pss_one (ps_ret pe_bl)) pss_nil)
      (pss_one (ps_ret (pe_callB (cr_all rfl) (by rfl) T.z_all (by decide +kernel) (pa_cons (pe_lc (own := [("_law_p", 2)]) rfl sc__law_same.nd (pi_range1 rfl T.z_range (pa_cons (pe_callB call_len_seq (by rfl) T.z_len PySem.boot_len (pa_cons (pv 1) pa_nil)) pa_nil)) (blkOk_by (N := N__law_same) (sc := defScope s__law_same) (by decide +kernel)) (fun _ _ _ _ _ => (pg_name (i := 2) sc__law_same.nd rfl (Or.inl rfl))) (fun _ _ _ _ _ => pts_nil) (fun _ _ _ _ _ => (pe_call ih__law_same hr rfl T.g__law_same T.F__law_same.kp T.b__law_same .nil passN (pa_cons (pe_ix ix_tup (pv 0) (pv 2) (fun _ _ => rfl)) (pa_cons (pe_ix ix_tup (pv 1) (pv 2) (fun _ _ => rfl)) pa_nil))))) pa_nil))))) pss_nil)
      (pss_cons (ps_if (pt_cmpR op_isN (pv 1) pe_non (nomark _)) (pss_one (ps_ret (pe_cmpR op_isN (pv 0) pe_non (nomark _)))) pss_nil)
      (pss_cons (ps_if (pt_val (pe_callB call_isi (by rfl) T.z_isinstance (by decide +kernel) (pa_cons (pv 1) (pa_cons (pe_bltn (v := .ty "str") rfl T.z_str (by decide +kernel) rfl) pa_nil)))) (pss_one (ps_ret (pe_and (pe_callB call_isi (by rfl) T.z_isinstance (by decide +kernel) (pa_cons (pv 0) (pa_cons (pe_bltn (v := .ty "str") rfl T.z_str (by decide +kernel) rfl) pa_nil))) (pe_one (pe_cmpR op_eq (pv 0) (pv 1) (nomark _)))))) pss_nil)
      (pss_cons (ps_if (pt_val (pe_callB call_isi (by rfl) T.z_isinstance (by decide +kernel) (pa_cons (pv 1) (pa_cons (pe_bltn (v := .ty "bool") rfl T.z_bool (by decide +kernel) rfl) pa_nil)))) (pss_one (ps_ret (pe_and (pe_callB call_isi (by rfl) T.z_isinstance (by decide +kernel) (pa_cons (pv 0) (pa_cons (pe_bltn (v := .ty "bool") rfl T.z_bool (by decide +kernel) rfl) pa_nil))) (pe_one (pe_cmpR op_eq (pv 0) (pv 1) (nomark _)))))) pss_nil)
      (pss_one (ps_ret (pe_and (pe_callB call_isi (by rfl) T.z_isinstance (by decide +kernel) (pa_cons (pv 0) (pa_cons (pe_bltn (v := .ty "int") rfl T.z_int (by decide +kernel) rfl) pa_nil))) (pe_and (pe_not (pe_callB call_isi (by rfl) T.z_isinstance (by decide +kernel) (pa_cons (pv 0) (pa_cons (pe_bltn (v := .ty "bool") rfl T.z_bool (by decide +kernel) rfl) pa_nil)))) (pe_one (pe_cmpR op_eq (pv 0) (pv 1) (nomark _))))))))))),
      (sSeq (sIfS (sB (sCB (rcIsi (T := "tuple")) (sCons sVar (sCons sHd sNil)))) (sSeq (sIfS (sOr (sNot (sB (sCB (rcIsi (T := "tuple")) (sCons sVar (sCons sHd sNil))))) (sTest (sOp roNe (sCB rcLen (sCons sVar sNil)) (sCB rcLen (sCons sVar sNil))))) (sRet sBl) sNext)
      (sRet (sCB rcAll (sCons (sLc (siR1 (sCB rcLen (sCons sVar sNil))) (gwName List.mem_cons_self) (fun _ _ _ => sName) (fun _ _ _ => sYes) (fun _ _ _ => (sCall (sCons (sOp roIxT sVar sVar) (sCons (sOp roIxT sVar sVar) sNil))))) sNil)))) sNext)
      (sSeq (sIfS (sTest (sOp roIsN sVar sNon)) (sRet (sOp roIsN sVar sNon)) sNext)
      (sSeq (sIfS (sB (sCB (rcIsi (T := "str")) (sCons sVar (sCons sHd sNil)))) (sRet (sAndV (sCB (rcIsi (T := "str")) (sCons sVar (sCons sHd sNil))) (sOp roEq sVar sVar))) sNext)
      (sSeq (sIfS (sB (sCB (rcIsi (T := "bool")) (sCons sVar (sCons sHd sNil)))) (sRet (sAndV (sCB (rcIsi (T := "bool")) (sCons sVar (sCons sHd sNil))) (sOp roEq sVar sVar))) sNext)
      (sRet (sAndV (sCB (rcIsi (T := "int")) (sCons sVar (sCons sHd sNil))) (sAndV (sNotV (sCB (rcIsi (T := "bool")) (sCons sVar (sCons sHd sNil)))) (sOp roEq sVar sVar))))))))⟩) (fun ds μ Φ Ψ h => ?hv)
  case hv =>
    obtain ⟨a, d, rfl, pa, pd, hd, h⟩ := h
    cases d with
    | tup ds =>
      cases a with
      | tup es =>
        walk_at "wps"
        refine ⟨fun c => ?_, fun c => ?_⟩
        · have c : es.length ≠ ds.length := by intro z; rw [z] at c; simp at c
          rw [sameD, sameDs_len c] at h
          exact ret_same h
        · have c : es.length = ds.length := by simp at c; omega
          simp [plainD] at pa pd
          refine ⟨by omega, by omega, lcG_mapN (fun i => .bl (sameD (es.getD i .non) (ds.getD i .non))) (by rw [rngD_len]; omega) (fun i d μ2 X hi hsub hx => ?_) ?_⟩
          · obtain ⟨hj, rfl⟩ := rngD_get hi
            have h1 : es[i]? = some es[i] := List.getElem?_eq_getElem (by omega)
            have h2 : ds[i]? = some ds[i] := List.getElem?_eq_getElem (by omega)
            walk_at "wps"
            refine ⟨_, atI_n h1, ?_⟩
            walk_at "wps"
            refine ⟨_, atI_n h2, same_at (plain_get pa.1 h1) (plain_get pd.1 h2) (by have := dep_get h2; simp only [depD] at hd; omega) ?_⟩
            simpa [List.getD_eq_getElem?_getD, h1, h2] using hx
          · rw [rngD_len]
            refine w_allB (P := (List.range ds.length).map fun i => sameD (es.getD i .non) (ds.getD i .non)) (by rw [List.map_map]; rfl) (ret_same ?_)
            rw [sameDs_all c]
            exact h
      | non => walk_at "wps"; exact ret_same h
      | int i => walk_at "wps"; exact ret_same h
      | bl i => walk_at "wps"; exact ret_same h
      | str i => walk_at "wps"; exact ret_same h
      | _ => simp [plainD] at pa
    | non =>
      cases a with
      | tup es => walk_at "wps"; exact ret_same h
      | non => walk_at "wps"; exact ret_same h
      | int i => walk_at "wps"; exact ret_same h
      | bl i => walk_at "wps"; exact ret_same h
      | str i => walk_at "wps"; exact ret_same h
      | _ => simp [plainD] at pa
    | str t =>
      cases a with
      | tup es => walk_at "wps"; exact ret_same h
      | non => walk_at "wps"; exact ret_same h
      | int i => walk_at "wps"; exact ret_same h
      | bl i => walk_at "wps"; exact ret_same h
      | str i => walk_at "wps"; exact ret_same h
      | _ => simp [plainD] at pa
    | bl t =>
      cases a with
      | tup es => walk_at "wps"; exact ret_same h
      | non => walk_at "wps"; exact ret_same h
      | int i => walk_at "wps"; exact ret_same h
      | bl i => walk_at "wps"; exact ret_same h
      | str i => walk_at "wps"; exact ret_same h
      | _ => simp [plainD] at pa
    | int t =>
      cases a with
      | tup es => walk_at "wps"; exact ret_same h
      | non => walk_at "wps"; exact ret_same h
      | int i => walk_at "wps"; exact ret_same h
      | bl i => walk_at "wps"; exact ret_same h
      | str i => walk_at "wps"; exact ret_same h
      | _ => simp [plainD] at pa
    | _ => simp [plainD] at pd
theorem log_small {n : Nat} (h : n ≤ 8000) : (n : Int).natAbs.log2 < 9000 := by rw [Int.natAbs_natCast]; have := Nat.log2_le_self n; omega
theorem lcP {Ψ : XP} {Φ : DK} {n : Nat} {φ : DE} {δw : DEnv} {μ1 : Sto} {m : Nat} {st : Addr} {ns : List Int} {c : List D} (Pd : Nat → Int → Prop) (hm : m ≤ 1000) (hst : μ1 st = some (.lst c)) (h0 : StC ns c)
    (hs : ∀ (i : Nat) (μ2 : Sto) (X : DK) (c : List D), i < m → μ2 st = some (.lst c) → StC ns c → (∀ (y : Int) c', StC ns c' → Pd i y → X (.int y) (sset μ2 st (.lst c'))) → φ Ψ (δw.set n (some (.int (i : Int)))) μ2 X)
    (hd : ∀ (l : List Int) c, l.length = m → (∀ (i : Nat) (h : i < l.length), Pd i l[i]) → StC ns c → Φ (.lst (l.map .int)) (sset μ1 st (.lst c))) : LcG (eName n) dYes φ δw Ψ (rngD 0 m) μ1 Φ := by
  refine lcG_drawN (StC ns) (fun i acc => ∃ l : List Int, acc = l.map .int ∧ l.length = i ∧ ∀ (j : Nat) (h : j < l.length), Pd j l[j]) (by rw [rngD_len]; omega) hst h0 ⟨[], rfl, rfl, fun j h => by simp at h⟩ (fun i d μ2 X acc c2 hi hs2 sc ⟨l, e, hl, hP⟩ hla hx => ?_) (fun acc c2 ⟨l, e, hl, hP⟩ hla sc => ?_)
  · obtain ⟨hj, rfl⟩ := rngD_get hi
    rw [Int.zero_add]
    refine hs i μ2 X c2 hj hs2 sc fun y c' sc' hy => hx _ c' sc' ⟨l ++ [y], by rw [e, List.map_append]; rfl, by rw [List.length_append, hl]; rfl, fun j h => ?_⟩
    by_cases z : j < l.length
    · rw [List.getElem_append_left z]; exact hP j z
    · rw [List.length_append, List.length_singleton] at h
      have : j = l.length := by omega
      subst this
      rw [List.getElem_append_right (Nat.le_refl _)]
      simp only [Nat.sub_self, List.getElem_cons_zero]
      rw [hl]; exact hy
  · rw [rngD_len] at hl
    rw [e]
    exact hd l c2 hl hP sc
theorem all_of_get {l : List Int} {P : Int → Prop} (h : ∀ (i : Nat) (h : i < l.length), P l[i]) : ∀ x ∈ l, P x := fun x hx => by
  obtain ⟨i, hi, rfl⟩ := List.mem_iff_getElem.mp hx
  exact h i hi
def c__law_width : Con := fun ds μ Φ _ => ∃ (ws : List Int) (p : Nat), ds = [.tup (ws.map .int), .int (p : Int)] ∧ WsOk ws ∧ Φ (.int (wd ws p : Int)) μ
theorem len__law_width {ds μ Φ Ψ} (h : c__law_width ds μ Φ Ψ) : ds.length = 2 := by obtain ⟨i, _, rfl, _⟩ := h; rfl
theorem ok__law_width {cx : CXT} (T : Txt P w K mg) : FnOk P w K mg base cx 1 T.f__law_width T.d__law_width ["_law_widths_here", "_law_place"] (spOf K c__law_width) := by
  refine def_okC T.F__law_width sc__law_width _ (fun ds μ Φ Ψ h => len__law_width h) (fun cdv A outer s H E B hW hr =>
    ⟨_, (pss_one (ps_ret (pe_ix ix_tup (pv 0) (pe_op op_mod (pe_callTy call_int1 (by rfl) T.z_int (by decide +kernel) (pa_cons (pv 1) pa_nil)) (pe_callB call_len_seq (by rfl) T.z_len PySem.boot_len (pa_cons (pv 0) pa_nil))) (fun _ _ => rfl)))),
      (sRet (sOp roIxT sVar (sOp roInt (sCB rcInt (sCons sVar sNil)) (sCB rcLen (sCons sVar sNil)))))⟩) (fun ds μ Φ Ψ h => ?hv)
  case hv =>
    obtain ⟨ws, p, rfl, hw, h⟩ := h
    have h0 := hw.l0
    obtain ⟨x, hx, e, x1, x2⟩ := hw.at_ p
    walk_at "wps"
    have em : (p : Int) % (ws.length : Int) = ((p % ws.length : Nat) : Int) := rfl
    rw [em]
    refine ⟨by omega, _, atI_nat (v := .int x) (by rw [List.getElem?_map, hx]; rfl), ret_same ?_⟩
    rw [e]; exact h
def c__law_widths : Con := fun ds μ Φ _ => ∃ st ns c, ds = [.hd (.ref st)] ∧ μ st = some (.lst c) ∧ StC ns c ∧ ∀ ws c', WsOk ws → StC ns c' → Φ (.tup (ws.map .int)) (sset μ st (.lst c'))
theorem len__law_widths {ds μ Φ Ψ} (h : c__law_widths ds μ Φ Ψ) : ds.length = 1 := by obtain ⟨_, _, _, rfl, _⟩ := h; rfl
theorem ok__law_widths {cx : CXT} (T : Txt P w K mg) : FnOk P w K mg base cx 2 T.f__law_widths T.d__law_widths ["_law_state"] (spOf K c__law_widths) := by
  refine def_okC T.F__law_widths sc__law_widths _ (fun ds μ Φ Ψ h => len__law_widths h) (fun cdv A outer s H E B hW hr =>
    ⟨_, (pss_cons (ps_set (i := 1) sc__law_widths.nd rfl (Or.inr rfl) (pe_op op_add pe_int (pe_call (ok__law_pick T) hr rfl T.g__law_pick T.F__law_pick.kp T.b__law_pick .nil passN (pa_cons (pv 0) (pa_cons pe_int pa_nil)))))
      (pss_cons (ps_set (i := 2) sc__law_widths.nd rfl (Or.inl rfl) (pe_op op_add pe_int (pe_call (ok__law_pick T) hr rfl T.g__law_pick T.F__law_pick.kp T.b__law_pick .nil passN (pa_cons (pv 0) (pa_cons (pe_ix ix_list (pe_lst (pa_cons pe_int (pa_cons pe_int (pa_cons pe_int pa_nil)))) (pe_call (ok__law_pick T) hr rfl T.g__law_pick T.F__law_pick.kp T.b__law_pick .nil passN (pa_cons (pv 0) (pa_cons pe_int pa_nil))) (fun _ _ => rfl)) pa_nil)))))
      (pss_one (ps_ret (pe_callTy call_tupleN (by rfl) T.z_tuple (by decide +kernel) (pa_cons (pe_lc (own := [("_law_k", 3)]) rfl sc__law_widths.nd (pi_range1 rfl T.z_range (pa_cons (pv 2) pa_nil)) (blkOk_by (N := N__law_widths) (sc := defScope s__law_widths) (by decide +kernel)) (fun _ _ _ _ _ => (pg_name (i := 3) sc__law_widths.nd rfl (Or.inl rfl))) (fun _ _ _ _ _ => pts_nil) (fun _ _ _ _ _ => (pe_op op_add pe_int (pe_call (ok__law_pick T) hr rfl T.g__law_pick T.F__law_pick.kp T.b__law_pick .nil passN (pa_cons (pv 0) (pa_cons (pv 1) pa_nil)))))) pa_nil)))))),
      (sSeq (sAsg (sOp roInt0 sInt (sCall (sCons sVar (sCons sInt sNil)))) sName)
      (sSeq (sAsg (sOp roInt0 sInt (sCall (sCons sVar (sCons (sOp roIxL (sLst (sCons sInt (sCons sInt (sCons sInt sNil)))) (sCall (sCons sVar (sCons sInt sNil)))) sNil)))) sName)
      (sRet (sCB rcTuple (sCons (sLc (siR1 sVar) (gwName List.mem_cons_self) (fun _ _ _ => sName) (fun _ _ _ => sYes) (fun _ _ _ => (sOp roInt0 sInt (sCall (sCons sVar (sCons sVar sNil)))))) sNil)))))⟩) (fun ds μ Φ Ψ h => ?hv)
  case hv =>
    obtain ⟨st, ns, c, rfl, hc, sc, h⟩ := h
    refine seq_cut fun M hM => ?_
    walk_at "wp"
    refine ⟨st, ns, c, 3, rfl, hc, sc, by decide, by decide, fun y c1 y0 y1 sc => ?_⟩
    walk_at "wp"
    obtain ⟨top, ht, t1, t2⟩ : ∃ top : Nat, (2 : Int) + y = (top : Int) ∧ 2 ≤ top ∧ top ≤ 4 := ⟨(2 + y).toNat, by omega, by omega, by omega⟩
    rw [ht, hM]; clear hM M
    refine seq_cut fun M hM => ?_
    walk_at "wp"
    refine ⟨by decide, st, ns, c1, 3, rfl, sset_same, sc, by decide, by decide, fun y c2 y0 y1 sc => ?_⟩
    rw [sset_sset]
    obtain ⟨n, hn, n1, n6⟩ : ∃ m : Nat, atI [D.int 2, D.int 3, D.int 6] y = some (.int m) ∧ 1 ≤ m ∧ m ≤ 6 := by
      obtain ⟨q, rfl⟩ : ∃ q : Nat, y = (q : Int) := ⟨y.toNat, by omega⟩
      rcases (show q = 0 ∨ q = 1 ∨ q = 2 by omega) with rfl | rfl | rfl
      · exact ⟨2, atI_nat (j := 0) rfl, by decide, by decide⟩
      · exact ⟨3, atI_nat (j := 1) rfl, by decide, by decide⟩
      · exact ⟨6, atI_nat (j := 2) rfl, by decide, by decide⟩
    walk_at "wp"
    refine ⟨_, hn, st, ns, c2, n, rfl, sset_same, sc, by omega, log_small (by omega), fun y c3 y0 y1 sc => ?_⟩
    rw [sset_sset]
    obtain ⟨m, hm, m1, m6⟩ : ∃ s : Nat, (1 : Int) + y = (s : Int) ∧ 1 ≤ s ∧ s ≤ 6 := ⟨(1 + y).toNat, by omega, by omega, by omega⟩
    walk_at "wp"
    rw [hm, hM]; clear hM M
    walk_at "wps"
    refine ⟨by omega, by omega, lcP (fun _ y => 1 ≤ y ∧ y ≤ 4) (by omega) sset_same sc (fun i μ2 X c7 hi hs7 sc7 hx7 => ?_) (fun l c7 hl hP sc => ?_)⟩
    · walk_at "wps"
      exact ⟨st, ns, c7, top, rfl, hs7, sc7, by omega, log_small (by omega), fun y c8 y0 y1 sc8 => by walk_at "wps"; exact hx7 (1 + y) c8 sc8 ⟨by omega, by omega⟩⟩
    · rw [sset_sset]
      exact ⟨_, .lst _, ret_same (h l c7 ⟨by omega, by omega, all_of_get hP⟩ sc)⟩
theorem nin_N {z : Nat} {l : List Nat} {y : D} {μ : Sto} {X : DK} (h : Items μ y (nI l) ∧ X (.bl (!l.contains z)) μ) : oIn true (.int (z : Int)) y μ X := by
  obtain ⟨hi, h⟩ := h
  refine ⟨_, hi, rfl, by rw [nI_ints]; exact flat_I _, ?_⟩
  have e : inD (.int (z : Int)) (nI l) = l.contains z := by
    rw [nI_ints, inD_I, Bool.eq_iff_iff, List.contains_iff_mem, List.contains_iff_mem, List.mem_map]
    exact ⟨fun ⟨q, hq, e⟩ => by obtain rfl : q = z := Int.ofNat.inj e; exact hq, fun q => ⟨z, q, rfl⟩⟩
  rw [if_pos rfl, e]
  exact h
theorem in_N {z : Nat} {l : List Nat} {y : D} {μ : Sto} {X : DK} (h : Items μ y (nI l) ∧ X (.bl (l.contains z)) μ) : oIn false (.int (z : Int)) y μ X := by
  obtain ⟨hi, h⟩ := h
  refine ⟨_, hi, rfl, by rw [nI_ints]; exact flat_I _, ?_⟩
  have e : inD (.int (z : Int)) (nI l) = l.contains z := by
    rw [nI_ints, inD_I, Bool.eq_iff_iff, List.contains_iff_mem, List.contains_iff_mem, List.mem_map]
    exact ⟨fun ⟨q, hq, e⟩ => by obtain rfl : q = z := Int.ofNat.inj e; exact hq, fun q => ⟨z, q, rfl⟩⟩
  rw [if_neg Bool.false_ne_true, e]
  exact h
theorem sset_idl {μ : Sto} {a : Addr} {c : Cell} (h : μ a = some c) : sset μ a c = μ := by
  funext b
  by_cases e : b = a
  · rw [e, sset_same, h]
  · rw [sset_ne e]
def c__law_look_places : Con := fun ds μ Φ _ => ∃ (st : Addr) (ns : List Int) (c : List D) (ws : List Int) (n m : Nat), ds = [.hd (.ref st), .tup (ws.map .int), .int (n : Int), .int (m : Int)] ∧ μ st = some (.lst c) ∧ StC ns c ∧ WsOk ws ∧ n ≤ 8 ∧ 4 ≤ m ∧ m ≤ 256 ∧
  ∀ (ps : List Nat) c', ps.Nodup → (∀ p ∈ ps, p < 100) → ps.length ≤ n → (∀ i, i ≤ ps.length → wpl ws (ps.take i) ≤ m) → (1 ≤ n → ps ≠ []) → StC ns c' → Φ (.lst (nI ps)) (sset μ st (.lst c'))
theorem len__law_look_places {ds μ Φ Ψ} (h : c__law_look_places ds μ Φ Ψ) : ds.length = 4 := by obtain ⟨_, _, _, _, _, _, rfl, _⟩ := h; rfl
theorem ok__law_look_places {cx : CXT} (T : Txt P w K mg) : FnOk P w K mg base cx 2 T.f__law_look_places T.d__law_look_places ["_law_state", "_law_widths_here", "_law_count", "_law_most"] (spOf K c__law_look_places) := by
  refine def_okC T.F__law_look_places sc__law_look_places _ (fun ds μ Φ Ψ h => len__law_look_places h) (fun cdv A outer s H E B hW hr =>
    ⟨_, (pss_cons (ps_set (i := 4) sc__law_look_places.nd rfl (Or.inl rfl) (pe_lst pa_nil))
      (pss_cons (ps_set (i := 5) sc__law_look_places.nd rfl (Or.inl rfl) pe_int)
      (pss_cons (ps_for (passes_of rfl) rfl (pi_range1 rfl T.z_range (pa_cons (pv 2) pa_nil)) (pg_name (i := 6) sc__law_look_places.nd rfl (Or.inl rfl)) (pss_cons (ps_set (i := 7) sc__law_look_places.nd rfl (Or.inl rfl) (pe_call (ok__law_pick T) hr rfl T.g__law_pick T.F__law_pick.kp T.b__law_pick .nil passN (pa_cons (pv 0) (pa_cons (pe_ix ix_list (pe_lst (pa_cons pe_int (pa_cons pe_int (pa_cons pe_int pa_nil)))) (pe_call (ok__law_pick T) hr rfl T.g__law_pick T.F__law_pick.kp T.b__law_pick .nil passN (pa_cons (pv 0) (pa_cons pe_int pa_nil))) (fun _ _ => rfl)) pa_nil))))
      (pss_one (ps_if (PW.pt (pw_and (pt_cmpR op_notIn_seq (pv 7) (pv 4) (by with_unfolding_all rfl)) (pw_and1 (pt_cmpR op_le (pe_op op_mulX (pv 5) (pe_call (ok__law_width T) hr rfl T.g__law_width T.F__law_width.kp T.b__law_width .nil passN (pa_cons (pv 1) (pa_cons (pv 7) pa_nil)))) (pv 3) (nomark _))))) (pss_cons (ps_expr (pe_bm PySem.F.plainAttrs_list PySem.F.slot_list_append PySem.F.type_list_append mt_append (pv 4) (pa_cons (pv 7) pa_nil)))
      (pss_one (ps_set (i := 5) sc__law_look_places.nd rfl (Or.inl rfl) (pe_op op_mulX (pv 5) (pe_call (ok__law_width T) hr rfl T.g__law_width T.F__law_width.kp T.b__law_width .nil passN (pa_cons (pv 1) (pa_cons (pv 7) pa_nil))))))) pss_nil))))
      (pss_one (ps_ret (pv 4)))))),
      (sSeq (sAsg (sOwn sNil) sName)
      (sSeq (sAsg sInt sName)
      (sSeq (sFor (siR1 sVar) (fun _ _ _ => sName) (fun _ _ _ => (sSeq (sAsg (sCall (sCons sVar (sCons (sOp roIxL (sLst (sCons sInt (sCons sInt (sCons sInt sNil)))) (sCall (sCons sVar (sCons sInt sNil)))) sNil))) sName)
      (sIfS (sAnd (sTest (sOp (roIn (neg := true)) sVar sVar)) (sTest (sOp roBl0 (sOp roInt sVar (sCall (sCons sVar (sCons sVar sNil)))) sVar))) (sSeq (sDrop (sApp sVar sVar))
      (sAsg (sOp roInt sVar (sCall (sCons sVar (sCons sVar sNil)))) sName)) sNext))))
      (sRet sRest))))⟩) (fun ds μ Φ Ψ h => ?hv)
  case hv =>
    obtain ⟨st, ns, c, ws, n, m, rfl, hc, sc, hw, hn, m1, m2, h⟩ := h
    refine seq_cut fun M hM => ?_
    walk_at "wp"
    refine ⟨by omega, fun p hp => ?_⟩
    have hps : p ≠ st := fun z => by rw [z, hc] at hp; cases hp
    rw [hM]; clear hM M
    walk_at "wps"
    refine ⟨by omega, by omega, fun i δ' μ' => ∃ (acc : List Nat) (c' : List D) (x y : Option D), δ' = [some (.hd (.ref st)), some (.tup (ws.map .int)), some (.int (n : Int)), some (.int (m : Int)), some (.hd (.ref p)), some (.int ((wpl ws acc : Nat) : Int)), x, y] ∧ μ' p = some (.lst (nI acc)) ∧ μ' st = some (.lst c') ∧ (∀ a, a ≠ p → a ≠ st → μ' a = μ a) ∧ StC ns c' ∧ acc.Nodup ∧ (∀ q ∈ acc, q < 100) ∧ acc.length ≤ i ∧ (∀ j, j ≤ acc.length → wpl ws (acc.take j) ≤ m) ∧ (1 ≤ i → acc ≠ []), ⟨[], c, none, none, rfl, sset_same, by rw [sset_ne hps.symm, hc], fun a a1 a2 => sset_ne a1, sc, List.nodup_nil, by simp, Nat.le_refl _, fun j hj => by rw [List.take_nil]; show 1 ≤ m; omega, fun z => by omega⟩, ?_, ?_⟩
    · rintro i d δ' μ' hi ⟨acc, c2, x, y, rfl, w1, w2, w3, w4, w5, w6, w7, w8, w9⟩
      obtain ⟨hj, rfl⟩ := rngD_get hi
      walk_at "wp"
      refine ⟨by decide, st, ns, c2, 3, rfl, w2, w4, by decide, by decide, fun y c3 y0 y1 sc => ?_⟩
      obtain ⟨l, hl, l1, l100⟩ : ∃ l : Nat, atI [D.int 4, D.int 9, D.int 100] y = some (.int l) ∧ 1 ≤ l ∧ l ≤ 100 := by
        obtain ⟨q, rfl⟩ : ∃ q : Nat, y = (q : Int) := ⟨y.toNat, by omega⟩
        rcases (show q = 0 ∨ q = 1 ∨ q = 2 by omega) with rfl | rfl | rfl
        · exact ⟨4, atI_nat (j := 0) rfl, by decide, by decide⟩
        · exact ⟨9, atI_nat (j := 1) rfl, by decide, by decide⟩
        · exact ⟨100, atI_nat (j := 2) rfl, by decide, by decide⟩
      walk_at "wp"
      refine ⟨_, hl, st, ns, c3, l, rfl, sset_same, sc, by omega, log_small (by omega), fun y c4 y0 y1 sc => ?_⟩
      rw [sset_sset]
      obtain ⟨pl, rfl⟩ : ∃ pl : Nat, y = (pl : Int) := ⟨y.toNat, by omega⟩
      have hw1 := hw.wd1 pl
      have hpr : wpl ws acc ≤ 256 := by have := w8 acc.length (Nat.le_refl _); rw [List.take_length] at this; omega
      have hp4 : (sset μ' st (.lst c4)) p = some (.lst (nI acc)) := by rw [sset_ne hps, w1]
      have stay : ∀ (a : Addr), a ≠ p → a ≠ st → (sset μ' st (.lst c4)) a = μ a := fun a a1 a2 => by rw [sset_ne a2, w3 a a1 a2]
      walk_at "wp"
      refine nin_N ⟨.own hp4, ?_⟩
      refine ⟨_, rfl, fun q => ?_, fun q => ?_⟩
      · have hnin : pl ∉ acc := by simpa using q
        refine ⟨ws, pl, rfl, hw, ?_⟩
        walk_at "wp"
        refine ⟨mulx 10 4 (by omega) (by omega) (by decide), fun q2 => ?_, fun q2 => ?_⟩
        · refine ⟨_, hp4, _, hp4, by rw [nI_len]; omega, ws, pl, rfl, hw, ?_⟩
          walk_at "wp"
          refine ⟨mulx 10 4 (by omega) (by omega) (by decide), acc ++ [pl], c4, _, _, by rw [wpl_snoc]; rfl, by unfold nI; rw [List.map_append]; rfl, by rw [sset_ne hps.symm, sset_same], fun a a1 a2 => by rw [sset_ne a1, stay a a1 a2], sc, ?_, ?_, by rw [List.length_append]; simp; omega, fun j hj => ?_, fun _ z => by simp at z⟩
          · exact List.nodup_append.mpr ⟨w5, by simp, fun a ha b hb => by rw [List.mem_singleton.mp hb]; exact fun e => hnin (e ▸ ha)⟩
          · intro q hq
            rcases List.mem_append.mp hq with z | z
            · exact w6 q z
            · rw [List.mem_singleton.mp z]; omega
          · rw [List.length_append, List.length_singleton] at hj
            by_cases z : j ≤ acc.length
            · rw [List.take_append_of_le_length z]; exact w8 j z
            · have e : j = (acc ++ [pl]).length := by rw [List.length_append, List.length_singleton]; omega
              rw [e, List.take_length, wpl_snoc]
              have : ((wpl ws acc * wd ws pl : Nat) : Int) ≤ (m : Int) := by rw [Int.natCast_mul]; exact q2
              omega
        · refine ⟨acc, c4, _, _, rfl, hp4, rfl, stay, sc, w5, w6, by omega, w8, fun _ z => ?_⟩
          subst z
          apply q2
          show ((1 : Nat) : Int) * (wd ws pl : Int) ≤ (m : Int)
          omega
      · have hin : pl ∈ acc := by simpa using q
        exact ⟨acc, c4, _, _, rfl, hp4, sset_same, stay, sc, w5, w6, by omega, w8, fun _ z => by rw [z] at hin; cases hin⟩
    · rintro δ' μ' ⟨acc, c2, x, y, rfl, w1, w2, w3, w4, w5, w6, w7, w8, w9⟩
      walk_at "wps"
      refine ⟨nI acc, w1, sset μ st (.lst c2), fun a x e => ?_, h acc c2 w5 w6 w7 w8 w9 w4⟩
      by_cases as : a = st
      · subst as
        rw [sset_same] at e
        cases e
        rw [sset_ne hps.symm, w2]
      · rw [sset_ne as] at e
        have ap : a ≠ p := fun z => by rw [z, hp] at e; cases e
        rw [sset_ne ap, w3 a ap as, e]
/-- how many looks a term of so many levels has at most -/
def lkN : Nat → Nat
  | 0 => 0
  | n + 1 => 1 + 4 * lkN n
def c__law_query_term (n : Nat) : Con := fun ds μ Φ _ => ∃ (st : Addr) (ns : List Int) (c : List D) (ws : List Int) (oc lv : Nat) (ps : List Nat), ds = [.hd (.ref st), .lst [.tup (ws.map .int), .int (oc : Int)], .lst (nI ps), .int (lv : Int)] ∧ μ st = some (.lst c) ∧ StC ns c ∧ WsOk ws ∧ 1 ≤ oc ∧ oc ≤ 4 ∧ ps ≠ [] ∧ ps.length ≤ 8 ∧ (∀ p ∈ ps, p < 100) ∧ lv < n ∧ lv ≤ 20 ∧
  ∀ t c', QOk ws oc t → qDep t ≤ lv → (∀ q ∈ qPl t, q ∈ ps) → (qPl t).length ≤ lkN lv → StC ns c' → Φ (qD t) (sset μ st (.lst c'))
theorem len__law_query_term {n ds μ Φ Ψ} (h : c__law_query_term n ds μ Φ Ψ) : ds.length = 4 := by obtain ⟨_, _, _, _, _, _, _, rfl, _⟩ := h; rfl
theorem step__law_query_term (T : Txt P w K mg) {k : Nat} (hk : 2 ≤ k) (n : Nat) (ih__law_query_term : FnOk P w K mg base (L2N.CX P w) k T.f__law_query_term T.d__law_query_term ["_law_state", "_law_size", "_law_places", "_law_levels"] (spOf K (c__law_query_term n))) : FnOk P w K mg base (L2N.CX P w) (k + 1) T.f__law_query_term T.d__law_query_term ["_law_state", "_law_size", "_law_places", "_law_levels"] (spOf K (c__law_query_term (n + 1))) := by
  refine def_okC T.F__law_query_term sc__law_query_term _ (fun ds μ Φ Ψ h => len__law_query_term h) (fun cdv A outer s H E B hW hr =>
    have tk : L2N.Takes (cxOf (L2N.CX P w) P w K mg base N__law_query_term "_law_query_term" (defScope s__law_query_term) T.f__law_query_term cdv A outer s H E) (fun cls d _ H => E cls d H) := L2N.takes_of rfl rfl rfl rfl
    ⟨_, (pss_cons (ps_if (PW.pt (pw_or (pt_cmpR op_eq (pv 3) pe_int (nomark _)) (pw_or1 (pt_cmpR op_eq (pe_call (ok__law_pick T) (hr.mono (by omega)) rfl T.g__law_pick T.F__law_pick.kp T.b__law_pick .nil passN (pa_cons (pv 0) (pa_cons pe_int pa_nil))) pe_int (nomark _))))) (pss_one (ps_ret (pe_tupN (pa_cons pe_str (pa_cons (pe_call (ok__law_pick T) (hr.mono (by omega)) rfl T.g__law_pick T.F__law_pick.kp T.b__law_pick .nil passN (pa_cons (pv 0) (pa_cons (pe_ix ix_list (pv 1) pe_int (fun _ _ => rfl)) pa_nil))) pa_nil))))) pss_nil)
      (pss_cons (ps_set (i := 4) sc__law_query_term.nd rfl (Or.inl rfl) (pe_ix ix_list (pv 2) (pe_call (ok__law_pick T) (hr.mono (by omega)) rfl T.g__law_pick T.F__law_pick.kp T.b__law_pick .nil passN (pa_cons (pv 0) (pa_cons (pe_callB call_len_seq (by rfl) T.z_len PySem.boot_len (pa_cons (pv 2) pa_nil)) pa_nil))) (fun _ _ => rfl)))
      (pss_cons (ps_set (i := 5) sc__law_query_term.nd rfl (Or.inl rfl) (pe_call (ok__law_width T) (hr.mono (by omega)) rfl T.g__law_width T.F__law_width.kp T.b__law_width .nil passN (pa_cons (pe_ix ix_list (pv 1) pe_int (fun _ _ => rfl)) (pa_cons (pv 4) pa_nil))))
      (pss_one (ps_ret (pe_op op_catN (pe_tupN (pa_cons pe_str (pa_cons (pv 4) pa_nil))) (pe_callTy call_tupleN (by rfl) T.z_tuple (by decide +kernel) (pa_cons (pe_lc (own := [("_law_x", 6)]) rfl sc__law_query_term.nd (pi_range1 rfl T.z_range (pa_cons (pv 5) pa_nil)) (blkOk_by (N := N__law_query_term) (sc := defScope s__law_query_term) (by decide +kernel)) (fun _ _ _ _ _ => (pg_name (i := 6) sc__law_query_term.nd rfl (Or.inl rfl))) (fun _ _ _ _ _ => pts_nil) (fun _ _ _ _ _ => (pe_call ih__law_query_term hr rfl T.g__law_query_term T.F__law_query_term.kp T.b__law_query_term .nil passN (pa_cons (pv 0) (pa_cons (pv 1) (pa_cons (pv 2) (pa_cons (pe_op op_sub (pv 3) pe_int) pa_nil))))))) pa_nil)))))))),
      (sSeq (sIfS (sOr (sTest (sOp roEq sVar sInt)) (sTest (sOp roEq (sCall (sCons sVar (sCons sInt sNil))) sInt))) (sRet (sTup (sCons sStr (sCons (sCall (sCons sVar (sCons (sOp roIxL sVar sInt) sNil))) sNil)))) sNext)
      (sSeq (sAsg (sOp roIxL sVar (sCall (sCons sVar (sCons (sCB rcLen (sCons sVar sNil)) sNil)))) sName)
      (sSeq (sAsg (sCall (sCons (sOp roIxL sVar sInt) (sCons sVar sNil))) sName)
      (sRet (sOp roCatT (sTup (sCons sStr (sCons sVar sNil))) (sCB rcTuple (sCons (sLc (siR1 sVar) (gwName List.mem_cons_self) (fun _ _ _ => sName) (fun _ _ _ => sYes) (fun _ _ _ => (sCall (sCons sVar (sCons sVar (sCons sVar (sCons (sOp roInt0 sVar sInt) sNil))))))) sNil)))))))⟩) (fun ds μ Φ Ψ h => ?hv)
  case hv =>
    obtain ⟨st, ns, c, ws, oc, lv, ps, rfl, hc, sc, hw, o1, o4, hne, h8, h100, hn, h20, h⟩ := h
    have hpl : 0 < ps.length := List.length_pos_iff.mpr hne
    have tell : ∀ (μ1 : Sto) (c1 : List D), (∀ c2, sset μ1 st (.lst c2) = sset μ st (.lst c2)) → μ1 st = some (.lst c1) → StC ns c1 → c__law_pick [.hd (.ref st), .int (oc : Int)] μ1 (fun y μ' => 2 ≤ 100000 ∧ ∃ μ2, DW.Sub μ2 μ' ∧ Φ (.tup [.str "tell", y]) μ2) fun _ _ => False := fun μ1 c1 hm hs sc => by
      refine ⟨st, ns, c1, oc, rfl, hs, sc, by omega, log_small (by omega), fun y c2 y0 y1 sc => ⟨by omega, ?_⟩⟩
      rw [hm]
      obtain ⟨o, rfl⟩ : ∃ o : Nat, y = (o : Int) := ⟨y.toNat, by omega⟩
      exact ret_same (h (.tell o) c2 (show o < oc by omega) (Nat.zero_le _) (fun q z => by simp [qPl] at z) (Nat.zero_le _) sc)
    refine seq_cut fun M hM => ?_
    walk_at "wp"
    refine ⟨fun _ => tell μ c (fun _ => rfl) hc sc, fun q => ⟨st, ns, c, 5, rfl, hc, sc, by decide, by decide, fun y c1 y0 y1 sc => ?_⟩⟩
    walk_at "wp"
    refine ⟨fun _ => tell _ c1 (fun _ => sset_sset) sset_same sc, fun _ => ?_⟩
    obtain ⟨lw, rfl⟩ : ∃ lw : Nat, lv = lw + 1 := ⟨lv - 1, by omega⟩
    rw [hM]; clear hM M tell
    refine seq_cut fun M hM => ?_
    walk_at "wp"
    refine ⟨st, ns, c1, ps.length, by rw [nI_len], sset_same, sc, by omega, log_small (by omega), fun y c2 y0 y1 sc => ?_⟩
    rw [sset_sset]
    obtain ⟨i, rfl⟩ : ∃ i : Nat, y = (i : Int) := ⟨y.toNat, by omega⟩
    have hi : i < ps.length := by omega
    have hw1 := hw.wd1 ps[i]
    have hp100 := h100 _ (List.getElem_mem hi)
    walk_at "wp"
    refine ⟨_, atI_nat (v := .int ((ps[i] : Nat) : Int)) (by unfold nI; rw [List.getElem?_map, List.getElem?_eq_getElem hi]; rfl), ?_⟩
    generalize hpi : ps[i] = p at *
    rw [hM]; clear hM M
    refine seq_cut fun M hM => ?_
    walk_at "wp"
    refine ⟨ws, p, rfl, hw, ?_⟩
    rw [hM]; clear hM M
    walk_at "wps"
    refine ⟨by omega, by omega, by omega, lcG_drawN (StC ns) (fun i acc => ∃ ts : List QT, acc = qDs ts ∧ ts.length = i ∧ (∀ t ∈ ts, QOk ws oc t ∧ qDep t ≤ lw ∧ (∀ q ∈ qPl t, q ∈ ps) ∧ (qPl t).length ≤ lkN lw)) (by rw [rngD_len]; omega) sset_same sc ⟨[], rfl, rfl, by simp⟩ (fun i d μ2 X acc c3 hi hs2 sc ⟨ts, e, hl, hT⟩ hla hx => ?_) (fun acc c3 ⟨ts, e, hl, hT⟩ hla sc => ?_)⟩
    · obtain ⟨hj, rfl⟩ := rngD_get hi
      walk_at "wps"
      refine ⟨st, ns, c3, ws, oc, lw, ps, by rw [show ((lw + 1 : Nat) : Int) - 1 = (lw : Int) by omega], hs2, sc, hw, o1, o4, hne, h8, h100, by omega, by omega, fun t c4 a b cc dd sc4 => hx _ c4 sc4 ⟨ts ++ [t], by rw [e, qDs_map, qDs_map, List.map_append]; rfl, by rw [List.length_append, hl]; rfl, fun s hs => ?_⟩⟩
      rcases List.mem_append.mp hs with z | z
      · exact hT s z
      · rw [List.mem_singleton.mp z]; exact ⟨a, b, cc, dd⟩
    · rw [rngD_len] at hl
      rw [sset_sset, e]
      have b1 := qpls_bound (k := lkN lw + 1) ts fun t ht => by have := (hT t ht).2.2.2; omega
      have b2 := qdeps_bound (k := lw) ts fun t ht => (hT t ht).2.1
      have b3 : ts.length * lkN lw ≤ 4 * lkN lw := Nat.mul_le_mul_right _ (by omega)
      rw [Nat.mul_add, Nat.mul_one] at b1
      refine ⟨_, .lst _, by rw [qDs_len]; omega, ret_same (h (.look p ts) c3 ⟨hp100, hl, qoks_iff.mpr fun t ht => (hT t ht).1⟩ (by rw [qDep]; omega) (fun q hq => ?_) (by rw [qPl, List.length_cons, lkN]; omega) sc)⟩
      rw [qPl] at hq
      rcases List.mem_cons.mp hq with z | z
      · rw [z, ← hpi]; exact List.getElem_mem _
      · obtain ⟨t, ht, hq2⟩ := qpls_mem.mp z
        exact (hT t ht).2.2.1 q hq2
end
section
variable {P : Program} {w : World} {K : Fg} {mg : Str → Option Value} {base : Heap}
theorem perm_erase : ∀ (l : List Nat) (q : Nat) (h : q < l.length), (l[q] :: l.eraseIdx q).Perm l
  | x :: l, 0, _ => List.Perm.refl _
  | x :: l, q + 1, h => by
    rw [List.eraseIdx_cons_succ, List.getElem_cons_succ]
    exact (List.Perm.swap _ _ _).trans ((perm_erase l q (by simpa using h)).cons x)
theorem nI_erase (l : List Nat) (q : Nat) : (nI l).eraseIdx q = nI (l.eraseIdx q) := by
  unfold nI
  rw [List.eraseIdx_eq_take_drop_succ, List.eraseIdx_eq_take_drop_succ, List.map_append, List.map_take, List.map_drop]
def c__law_shuffled : Con := fun ds μ Φ _ => ∃ (st : Addr) (ns : List Int) (c : List D) (ps : List Nat), ds = [.hd (.ref st), .lst (nI ps)] ∧ μ st = some (.lst c) ∧ StC ns c ∧ ps.length ≤ 8 ∧ ∀ qs c', qs.Perm ps → StC ns c' → Φ (.lst (nI qs)) (sset μ st (.lst c'))
theorem len__law_shuffled {ds μ Φ Ψ} (h : c__law_shuffled ds μ Φ Ψ) : ds.length = 2 := by obtain ⟨_, _, _, _, rfl, _⟩ := h; rfl
theorem ok__law_shuffled {cx : CXT} (T : Txt P w K mg) : FnOk P w K mg base cx 2 T.f__law_shuffled T.d__law_shuffled ["_law_state", "_law_places"] (spOf K c__law_shuffled) := by
  refine def_okC T.F__law_shuffled sc__law_shuffled _ (fun ds μ Φ Ψ h => len__law_shuffled h) (fun cdv A outer s H E B hW hr =>
    ⟨_, (pss_cons (ps_set (i := 2) sc__law_shuffled.nd rfl (Or.inr rfl) (pe_callTy call_list_of (by rfl) T.z_list (by decide +kernel) (pa_cons (pv 1) pa_nil)))
      (pss_one (ps_ret (pe_lc (own := [("_law_k", 3)]) rfl sc__law_shuffled.nd (pi_range1 rfl T.z_range (pa_cons (pe_callB call_len_seq (by rfl) T.z_len PySem.boot_len (pa_cons (pv 1) pa_nil)) pa_nil)) (blkOk_by (N := N__law_shuffled) (sc := defScope s__law_shuffled) (by decide +kernel)) (fun _ _ _ _ _ => (pg_name (i := 3) sc__law_shuffled.nd rfl (Or.inl rfl))) (fun _ _ _ _ _ => pts_nil) (fun _ _ _ _ _ => (pe_bm PySem.F.plainAttrs_list PySem.F.slot_list_pop PySem.F.type_list_pop mt_popAt (pv 2) (by exact pa_cons (pe_call (ok__law_pick T) hr rfl T.g__law_pick T.F__law_pick.kp T.b__law_pick .nil passN (pa_cons (pv 0) (pa_cons (pe_callB call_len_seq (by rfl) T.z_len PySem.boot_len (pa_cons (pv 2) pa_nil)) pa_nil))) pa_nil))))))),
      (sSeq (sAsg (sCB rcListOwn (sCons sVar sNil)) sName)
      (sRet (sLc (siR1 (sCB rcLen (sCons sVar sNil))) (gwName List.mem_cons_self) (fun _ _ _ => sName) (fun _ _ _ => sYes) (fun _ _ _ => (sPopAt sVar (sCall (sCons sVar (sCons (sCB rcLen (sCons sVar sNil)) sNil))))))))⟩) (fun ds μ Φ Ψ h => ?hv)
  case hv =>
    obtain ⟨st, ns, c, ps, rfl, hc, sc, hl, h⟩ := h
    refine seq_cut fun M hM => ?_
    walk_at "wp"
    intro p hp
    have hps : p ≠ st := fun z => by rw [z, hc] at hp; cases hp
    rw [hM]; clear hM M
    walk_at "wps"
    rw [nI_len]
    refine ⟨by omega, by omega, fun p0 hp0 => ?_⟩
    have h0p : p0 ≠ p := fun z => by rw [z, sset_same] at hp0; cases hp0
    have hp0' : μ p0 = none := by rw [sset_ne h0p] at hp0; exact hp0
    have h0s : p0 ≠ st := fun z => by rw [z, hc] at hp0'; cases hp0'
    refine ⟨fun i μ' => ∃ (acc rest : List Nat) (c' : List D), μ' p0 = some (.lst (nI acc)) ∧ μ' p = some (.lst (nI rest)) ∧ μ' st = some (.lst c') ∧ (∀ a, a ≠ p0 → a ≠ p → a ≠ st → μ' a = μ a) ∧ StC ns c' ∧ (acc ++ rest).Perm ps ∧ acc.length = i, ⟨[], ps, c, sset_same, by rw [sset_ne h0p.symm, sset_same], by rw [sset_ne h0s.symm, sset_ne hps.symm, hc], fun a a1 a2 a3 => by rw [sset_ne a1, sset_ne a2], sc, List.Perm.refl _, rfl⟩, ?_, ?_⟩
    · rintro i d μ2 hi ⟨acc, rest, c2, w1, w2, w3, w4, w5, w6, w7⟩
      obtain ⟨hj, rfl⟩ := rngD_get hi
      have hlen := w6.length_eq
      rw [List.length_append] at hlen
      refine ⟨fun _ => ?_, fun z => nomatch z⟩
      walk_at "wps"
      refine ⟨_, w2, .inl ⟨_, w2, st, ns, c2, rest.length, by rw [nI_len], w3, w5, by omega, log_small (by omega), fun y c3 y0 y1 sc3 => ?_⟩⟩
      obtain ⟨q, rfl⟩ : ∃ q : Nat, y = (q : Int) := ⟨y.toNat, by omega⟩
      have hq : q < rest.length := by omega
      have g : (nI rest)[q]? = some (.int ((rest[q] : Nat) : Int)) := by unfold nI; rw [List.getElem?_map, List.getElem?_eq_getElem hq]; rfl
      refine ⟨nI rest, by rw [sset_ne hps, w2], by rw [nI_len]; omega, q, _, rfl, g, nI acc, by rw [sset_ne h0p, sset_ne h0s, w1], by rw [nI_len]; omega, acc ++ [rest[q]], rest.eraseIdx q, c3, ?_, ?_, ?_, fun a a1 a2 a3 => by rw [sset_ne a1, sset_ne a2, sset_ne a3, w4 a a1 a2 a3], sc3, ?_, by rw [List.length_append, w7]; rfl⟩
      · unfold nI; rw [List.map_append]; rfl
      · rw [sset_ne h0p.symm, sset_same, nI_erase]
      · rw [sset_ne h0s.symm, sset_ne hps.symm, sset_same]
      · rw [List.append_assoc]
        exact ((perm_erase rest q hq).append_left acc).trans w6
    · rintro μ2 ⟨acc, rest, c2, w1, w2, w3, w4, w5, w6, w7⟩
      rw [rngD_len] at w7
      have hlen := w6.length_eq
      rw [List.length_append] at hlen
      obtain rfl : rest = [] := List.eq_nil_of_length_eq_zero (by omega)
      rw [List.append_nil] at w6
      refine ⟨_, w1, sset μ st (.lst c2), fun a x e => ?_, h acc c2 w6 w5⟩
      by_cases as : a = st
      · subst as
        rw [sset_same] at e
        cases e
        unfold sdel
        rw [if_neg h0s.symm, w3]
      · rw [sset_ne as] at e
        have a0 : a ≠ p0 := fun z => by rw [z, hp0'] at e; cases e
        have ap : a ≠ p := fun z => by rw [z, hp] at e; cases e
        unfold sdel
        rw [if_neg a0, w4 a a0 ap as, e]
/-- how many looks a tree over these places has at most -/
def lkO (ws : List Int) : List Nat → Nat
  | [] => 0
  | p :: ps => 1 + wd ws p * lkO ws ps
/-- the answer is the sum over the marked places -/
def FQ (ws : List Int) (oc : Nat) (ps ms : List Nat) (tot : Int) (t : QT) : Prop := ms ≠ [] → ∀ f : Nat → Nat, (∀ q, f q < wd ws q) → ((qA f t : Nat) : Int) = (tot + (((ps.filter fun q => decide (q ∈ ms)).map f).sum : Nat)) % (oc : Int)
theorem FQ.look {ws : List Int} {oc p : Nat} {qs ms : List Nat} {tot : Int} {ts : List QT} (hl : ts.length = wd ws p) (h : ∀ j (hj : j < ts.length), FQ ws oc qs ms (if p ∈ ms then tot + (j : Int) else tot) ts[j]) : FQ ws oc (p :: qs) ms tot (.look p ts) := fun hm f hf => by
  have hj : f p < ts.length := by rw [hl]; exact hf p
  rw [qA_look (t := ts[f p]) (List.getElem?_eq_getElem hj), h _ hj hm f hf]
  by_cases c : p ∈ ms
  · rw [if_pos c, List.filter_cons_of_pos (by simpa using c), List.map_cons, List.sum_cons]
    congr 1
    omega
  · rw [if_neg c, List.filter_cons_of_neg (by simpa using c)]
def c__law_full_query (n : Nat) : Con := fun ds μ Φ _ => ∃ (st : Addr) (ns : List Int) (c : List D) (ws : List Int) (oc : Nat) (ps ms : List Nat) (tot : Int), ds = [.hd (.ref st), .lst [.tup (ws.map .int), .int (oc : Int)], .lst (nI ps), .lst (nI ms), .int tot] ∧ μ st = some (.lst c) ∧ StC ns c ∧ WsOk ws ∧ 1 ≤ oc ∧ oc ≤ 4 ∧ ps.length ≤ 8 ∧ ms.length ≤ 8 ∧ (∀ p ∈ ps, p < 100) ∧ ps.length < n ∧
  ∀ t c', QOk ws oc t → qDep t ≤ ps.length → (∀ q ∈ qPl t, q ∈ ps) → (qPl t).length ≤ lkO ws ps → StC ns c' → FQ ws oc ps ms tot t → Φ (qD t) (sset μ st (.lst c'))
theorem len__law_full_query {n ds μ Φ Ψ} (h : c__law_full_query n ds μ Φ Ψ) : ds.length = 5 := by obtain ⟨_, _, _, _, _, _, _, _, rfl, _⟩ := h; rfl
theorem step__law_full_query (T : Txt P w K mg) {k : Nat} (hk : 2 ≤ k) (n : Nat) (ih__law_full_query : FnOk P w K mg base (L2N.CX P w) k T.f__law_full_query T.d__law_full_query ["_law_state", "_law_size", "_law_order", "_law_marked", "_law_total"] (spOf K (c__law_full_query n))) : FnOk P w K mg base (L2N.CX P w) (k + 1) T.f__law_full_query T.d__law_full_query ["_law_state", "_law_size", "_law_order", "_law_marked", "_law_total"] (spOf K (c__law_full_query (n + 1))) := by
  refine def_okC T.F__law_full_query sc__law_full_query _ (fun ds μ Φ Ψ h => len__law_full_query h) (fun cdv A outer s H E B hW hr =>
    have tk : L2N.Takes (cxOf (L2N.CX P w) P w K mg base N__law_full_query "_law_full_query" (defScope s__law_full_query) T.f__law_full_query cdv A outer s H E) (fun cls d _ H => E cls d H) := L2N.takes_of rfl rfl rfl rfl
    ⟨_, (pss_cons (ps_if (pt_cmpR op_eq (pe_callB call_len_seq (by rfl) T.z_len PySem.boot_len (pa_cons (pv 2) pa_nil)) pe_int (nomark _)) (pss_cons (ps_if (pt_cmpR op_eq (pe_callB call_len_seq (by rfl) T.z_len PySem.boot_len (pa_cons (pv 3) pa_nil)) pe_int (nomark _)) (pss_one (ps_ret (pe_tupN (pa_cons pe_str (pa_cons (pe_call (ok__law_pick T) (hr.mono (by omega)) rfl T.g__law_pick T.F__law_pick.kp T.b__law_pick .nil passN (pa_cons (pv 0) (pa_cons (pe_ix ix_list (pv 1) pe_int (fun _ _ => rfl)) pa_nil))) pa_nil))))) pss_nil)
      (pss_one (ps_ret (pe_tupN (pa_cons pe_str (pa_cons (pe_op op_mod (pe_callTy call_int1 (by rfl) T.z_int (by decide +kernel) (pa_cons (pv 4) pa_nil)) (pe_ix ix_list (pv 1) pe_int (fun _ _ => rfl))) pa_nil)))))) pss_nil)
      (pss_cons (ps_set (i := 5) sc__law_full_query.nd rfl (Or.inl rfl) (pe_ix ix_list (pv 2) pe_int (fun _ _ => rfl)))
      (pss_cons (ps_set (i := 6) sc__law_full_query.nd rfl (Or.inl rfl) (pe_lst pa_nil))
      (pss_cons (ps_for (passes_of rfl) rfl (pi_range1 rfl T.z_range (pa_cons (pe_call (ok__law_width T) (hr.mono (by omega)) rfl T.g__law_width T.F__law_width.kp T.b__law_width .nil passN (pa_cons (pe_ix ix_list (pv 1) pe_int (fun _ _ => rfl)) (pa_cons (pv 5) pa_nil))) pa_nil)) (pg_name (i := 7) sc__law_full_query.nd rfl (Or.inl rfl)) (pss_cons (ps_set (i := 8) sc__law_full_query.nd rfl (Or.inl rfl) (pv 4))
      (pss_cons (ps_if (pt_cmpR op_in_seq (pv 5) (pv 3) (by with_unfolding_all rfl)) (pss_one (ps_set (i := 8) sc__law_full_query.nd rfl (Or.inl rfl) (pe_op op_add (pv 4) (pv 7)))) pss_nil)
      (pss_one (ps_expr (pe_bm PySem.F.plainAttrs_list PySem.F.slot_list_append PySem.F.type_list_append mt_append (pv 6) (pa_cons (pe_call ih__law_full_query hr rfl T.g__law_full_query T.F__law_full_query.kp T.b__law_full_query .nil passN (pa_cons (pv 0) (pa_cons (pv 1) (pa_cons (pe_slice sl_list (pv 2) (po_some pe_int) po_none) (pa_cons (pv 3) (pa_cons (pv 8) pa_nil)))))) pa_nil)))))))
      (pss_one (ps_ret (pe_op op_catN (pe_tupN (pa_cons pe_str (pa_cons (pv 5) pa_nil))) (pe_callTy call_tupleN (by rfl) T.z_tuple (by decide +kernel) (pa_cons (pv 6) pa_nil))))))))),
      (sSeq (sIfS (sTest (sOp roEq (sCB rcLen (sCons sVar sNil)) sInt)) (sSeq (sIfS (sTest (sOp roEq (sCB rcLen (sCons sVar sNil)) sInt)) (sRet (sTup (sCons sStr (sCons (sCall (sCons sVar (sCons (sOp roIxL sVar sInt) sNil))) sNil)))) sNext)
      (sRet (sTup (sCons sStr (sCons (sOp roInt (sCB rcInt (sCons sVar sNil)) (sOp roIxL sVar sInt)) sNil))))) sNext)
      (sSeq (sAsg (sOp roIxL sVar sInt) sName)
      (sSeq (sAsg (sOwn sNil) sName)
      (sSeq (sFor (siR1 (sCall (sCons (sOp roIxL sVar sInt) (sCons sVar sNil)))) (fun _ _ _ => sName) (fun _ _ _ => (sSeq (sAsg sVar sName)
      (sSeq (sIfS (sTest (sOp (roIn (neg := false)) sVar sVar)) (sAsg (sOp roInt0 sVar sVar) sName) sNext)
      (sDrop (sApp sVar (sCall (sCons sVar (sCons sVar (sCons (sSlL sVar (sPart sInt) sNoPart) (sCons sVar (sCons sVar sNil))))))))))))
      (sRet (sOp roCatT (sTup (sCons sStr (sCons sVar sNil))) (sCB rcTuple (sCons sVar sNil))))))))⟩) (fun ds μ Φ Ψ h => ?hv)
  case hv =>
    obtain ⟨st, ns, c, ws, oc, ps, ms, tot, rfl, hc, sc, hw, o1, o4, h8, hm8, h100, hn, h⟩ := h
    refine seq_cut fun M hM => ?_
    walk_at "wp"
    rw [nI_len]
    refine ⟨fun q => ?_, fun q => ?_⟩
    · have hps : ps = [] := List.eq_nil_of_length_eq_zero (by omega)
      have tell : ∀ (o : Nat) c2, o < oc → StC ns c2 → (ms ≠ [] → (o : Int) = tot % (oc : Int)) → Φ (.tup [.str "tell", .int (o : Int)]) (sset μ st (.lst c2)) := fun o c2 ho sc hm => h (.tell o) c2 ho (Nat.zero_le _) (fun q z => by simp [qPl] at z) (Nat.zero_le _) sc fun hm2 f hf => by rw [hps]; show (o : Int) = (tot + 0) % (oc : Int); rw [Int.add_zero]; exact hm hm2
      refine seq_cut fun N hN => ?_
      walk_at "wp"
      refine ⟨fun mz => ⟨st, ns, c, oc, rfl, hc, sc, by omega, log_small (by omega), fun y c2 y0 y1 sc => ⟨by omega, ?_⟩⟩, fun _ => ?_⟩
      · obtain ⟨o, rfl⟩ : ∃ o : Nat, y = (o : Int) := ⟨y.toNat, by omega⟩
        exact ret_same (tell o c2 (by omega) sc fun hm2 => absurd mz (by
          rw [nI_len]
          have := List.length_pos_iff.mpr hm2
          omega))
      · rw [hN]; clear hN N
        walk_at "wp"
        have z0 := Int.emod_nonneg tot (show (oc : Int) ≠ 0 by omega)
        have z1 := Int.emod_lt_of_pos tot (show (0 : Int) < (oc : Int) by omega)
        obtain ⟨o, ho⟩ : ∃ o : Nat, tot % (oc : Int) = (o : Int) := ⟨_, (Int.toNat_of_nonneg z0).symm⟩
        rw [ho]
        have t2 := tell o c (by omega) sc fun _ => ho.symm
        rw [sset_idl hc] at t2
        exact ⟨by omega, by omega, ret_same t2⟩
    · obtain ⟨p, qs, rfl⟩ : ∃ p qs, ps = p :: qs := by
        cases ps with
        | nil => exact absurd rfl q
        | cons p qs => exact ⟨p, qs, rfl⟩
      have hw1 := hw.wd1 p
      have hp100 := h100 p List.mem_cons_self
      rw [hM]; clear hM M
      refine seq_cut fun M hM => ?_
      walk_at "wp"
      refine ⟨_, atI_nat (j := 0) (v := .int (p : Int)) rfl, ?_⟩
      rw [hM]; clear hM M
      refine seq_cut fun M hM => ?_
      walk_at "wp"
      refine ⟨by omega, fun b hb => ?_⟩
      have hbs : b ≠ st := fun z => by rw [z, hc] at hb; cases hb
      rw [hM]; clear hM M
      refine seq_cut fun M hM => ?_
      walk_at "wp"
      refine ⟨ws, p, rfl, hw, _, rfl, by omega, by omega, ?_⟩
      rw [show ((wd ws p : Nat) : Int).toNat = wd ws p by omega]
      refine ⟨fun i δ' μ' => ∃ (ts : List QT) (c' : List D) (x y : Option D), δ' = [some (.hd (.ref st)), some (.lst [.tup (ws.map .int), .int (oc : Int)]), some (.lst (nI (p :: qs))), some (.lst (nI ms)), some (.int tot), some (.int (p : Int)), some (.hd (.ref b)), x, y] ∧ μ' b = some (.lst (qDs ts)) ∧ μ' st = some (.lst c') ∧ (∀ a, a ≠ b → a ≠ st → μ' a = μ a) ∧ StC ns c' ∧ ts.length = i ∧ (∀ j (hj : j < ts.length), FQ ws oc qs ms (if p ∈ ms then tot + (j : Int) else tot) ts[j]) ∧ ∀ t ∈ ts, QOk ws oc t ∧ qDep t ≤ qs.length ∧ (∀ q ∈ qPl t, q ∈ qs) ∧ (qPl t).length ≤ lkO ws qs, ⟨[], c, none, none, rfl, sset_same, by rw [sset_ne hbs.symm, hc], fun a a1 a2 => sset_ne a1, sc, rfl, fun j hj => absurd hj (Nat.not_lt_zero j), by simp⟩, ?_, ?_⟩
      · rintro i d δ' μ' hi ⟨ts, c2, x, y, rfl, w1, w2, w3, w4, w5, w7, w6⟩
        obtain ⟨hj, rfl⟩ := rngD_get hi
        refine seq_cut fun N hN => ?_
        walk_at "wp"
        rw [hN]; clear hN N
        refine seq_cut fun N hN => ?_
        have fin : ∀ more : Int, more = (if p ∈ ms then tot + (i : Int) else tot) → N [some (.hd (.ref st)), some (.lst [.tup (ws.map .int), .int (oc : Int)]), some (.lst (nI (p :: qs))), some (.lst (nI ms)), some (.int tot), some (.int (p : Int)), some (.hd (.ref b)), some (.int (i : Int)), some (.int more)] μ' := fun more hmore => by
          rw [hN]; clear hN N
          walk_at "wp"
          have ec : DW.cutD (nI (p :: qs)) (some 1) none = nI qs := by rw [show (1 : Int) = ((1 : Nat) : Int) from rfl, cut_from]; rfl
          rw [ec]
          refine ⟨_, w1, st, ns, c2, ws, oc, qs, ms, more, rfl, w2, w4, hw, o1, o4, by rw [List.length_cons] at h8; omega, hm8, fun q hq => h100 q (List.mem_cons_of_mem _ hq), by rw [List.length_cons] at hn; omega, fun t c3 a1 a2 a3 a4 sc3 a5 => ?_⟩
          have hb3 : (sset μ' st (.lst c3)) b = some (.lst (qDs ts)) := by rw [sset_ne hbs, w1]
          refine ⟨_, hb3, by rw [qDs_len]; omega, ts ++ [t], c3, _, _, rfl, ?_, by rw [sset_ne hbs.symm, sset_same], fun a b1 b2 => by rw [sset_ne b1, sset_ne b2, w3 a b1 b2], sc3, by rw [List.length_append, w5]; rfl, fun j hj => ?_, fun s hs => ?_⟩
          · rw [qDs_map, qDs_map, List.map_append]; rfl
          · rw [List.length_append, List.length_singleton] at hj
            by_cases c : j < ts.length
            · rw [List.getElem_append_left c]; exact w7 j c
            · obtain rfl : j = ts.length := by omega
              rw [List.getElem_append_right (Nat.le_refl _)]
              simp only [Nat.sub_self, List.getElem_cons_zero]
              rw [w5, ← hmore]
              exact a5
          · rcases List.mem_append.mp hs with z | z
            · exact w6 s z
            · rw [List.mem_singleton.mp z]; exact ⟨a1, a2, a3, a4⟩
        walk_at "wp"
        refine in_N ⟨.lst _, ?_⟩
        refine ⟨_, rfl, fun z => ?_, fun z => ?_⟩
        · have hin : p ∈ ms := by simpa using z
          walk_at "wp"
          exact fin _ (by rw [if_pos hin])
        · have hin : p ∉ ms := by simpa using z
          exact fin _ (by rw [if_neg hin])
      · rintro δ' μ' ⟨ts, c2, x, y, rfl, w1, w2, w3, w4, w5, w7, w6⟩
        have b1 := qpls_bound (k := lkO ws qs + 1) ts fun t ht => by have := (w6 t ht).2.2.2; omega
        have b2 := qdeps_bound (k := qs.length) ts fun t ht => (w6 t ht).2.1
        rw [Nat.mul_add, Nat.mul_one, w5] at b1
        rw [hM]; clear hM M
        walk_at "wp"
        refine ⟨by omega, .inl ⟨_, w1, by rw [qDs_len]; omega, sset μ st (.lst c2), fun a x e => ?_, h (.look p ts) c2 ⟨hp100, w5, qoks_iff.mpr fun t ht => (w6 t ht).1⟩ (by rw [qDep, List.length_cons]; omega) (fun q hq => ?_) (by rw [qPl, List.length_cons, lkO]; omega) w4 (FQ.look w5 w7)⟩⟩
        · by_cases as : a = st
          · subst as
            rw [sset_same] at e
            cases e
            exact w2
          · rw [sset_ne as] at e
            have ap : a ≠ b := fun z => by rw [z, hb] at e; cases e
            rw [w3 a ap as, e]
        · rw [qPl] at hq
          rcases List.mem_cons.mp hq with z | z
          · rw [z]; exact List.mem_cons_self
          · obtain ⟨t, ht, hq2⟩ := qpls_mem.mp z
            exact List.mem_cons_of_mem _ ((w6 t ht).2.2.1 q hq2)
def headsD (hs : List (List Nat)) : List D := hs.map fun l => .lst (nI l)
theorem longer_len (n : Nat) : ∀ hs : List (List Nat), (longer hs n).length = hs.length * n
  | [] => by simp [longer]
  | l :: hs => by
    have := longer_len n hs
    unfold longer at this ⊢
    rw [List.flatMap_cons, List.length_append, this, List.length_map, List.length_range, List.length_cons, Nat.add_mul, Nat.one_mul, Nat.add_comm]
theorem longer_snoc (hs : List (List Nat)) (l : List Nat) (n : Nat) : longer (hs ++ [l]) n = longer hs n ++ (List.range n).map fun x => l ++ [x] := by
  unfold longer
  rw [List.flatMap_append, List.flatMap_cons, List.flatMap_nil, List.append_nil]
theorem heads_snoc (hs : List (List Nat)) (l : List Nat) (x : Nat) : headsD (hs ++ [l ++ [x]]) = headsD hs ++ [.lst (nI l ++ [.int (x : Int)])] := by
  unfold headsD nI
  rw [List.map_append, List.map_singleton, List.map_append, List.map_singleton]
def c__law_longer : Con := fun ds μ Φ _ => ∃ (hs : List (List Nat)) (n : Nat), ds = [.lst (headsD hs), .int (n : Int)] ∧ n ≤ 4 ∧ hs.length ≤ 256 ∧ (∀ l ∈ hs, l.length ≤ 1000) ∧ Φ (.lst (headsD (longer hs n))) μ
theorem len__law_longer {ds μ Φ Ψ} (h : c__law_longer ds μ Φ Ψ) : ds.length = 2 := by obtain ⟨_, _, rfl, _⟩ := h; rfl
theorem ok__law_longer {cx : CXT} (T : Txt P w K mg) : FnOk P w K mg base cx 1 T.f__law_longer T.d__law_longer ["_law_heads_here", "_law_options"] (spOf K c__law_longer) := by
  refine def_okC T.F__law_longer sc__law_longer _ (fun ds μ Φ Ψ h => len__law_longer h) (fun cdv A outer s H E B hW hr =>
    ⟨_, (pss_cons (ps_set (i := 2) sc__law_longer.nd rfl (Or.inl rfl) (pe_lst pa_nil))
      (pss_cons (ps_for (passes_of rfl) rfl (pi_list (pv 0)) (pg_name (i := 3) sc__law_longer.nd rfl (Or.inl rfl)) (pss_one (ps_for (passes_of rfl) rfl (pi_range1 rfl T.z_range (pa_cons (pv 1) pa_nil)) (pg_name (i := 4) sc__law_longer.nd rfl (Or.inl rfl)) (pss_one (ps_expr (pe_bm PySem.F.plainAttrs_list PySem.F.slot_list_append PySem.F.type_list_append mt_append (pv 2) (pa_cons (pe_op op_cat (pv 3) (pe_lst (pa_cons (pv 4) pa_nil))) pa_nil)))))))
      (pss_one (ps_ret (pv 2))))),
      (sSeq (sAsg (sOwn sNil) sName)
      (sSeq (sFor (siL sVar) (fun _ _ _ => sName) (fun _ _ _ => (sFor (siR1 sVar) (fun _ _ _ => sName) (fun _ _ _ => (sDrop (sApp sVar (sOp roCatL sVar (sLst (sCons sVar sNil)))))))))
      (sRet sRest)))⟩) (fun ds μ Φ Ψ h => ?hv)
  case hv =>
    obtain ⟨hs, n, rfl, hn, hl, hb, h⟩ := h
    refine seq_cut fun M hM => ?_
    walk_at "wp"
    refine ⟨by omega, fun p hp => ?_⟩
    rw [hM]; clear hM M
    walk_at "wps"
    refine ⟨fun i δ' μ' => ∃ x y, δ' = [some (.lst (headsD hs)), some (.int (n : Int)), some (.hd (.ref p)), x, y] ∧ μ' = sset μ p (.lst (headsD (longer (hs.take i) n))), ⟨none, none, rfl, rfl⟩, ?_, ?_⟩
    · rintro i d δ' μ' hi ⟨x, y, rfl, rfl⟩
      obtain ⟨hil, rfl⟩ : ∃ hil : i < hs.length, d = .lst (nI hs[i]) := by
        unfold headsD at hi
        rw [List.getElem?_map] at hi
        have hil : i < hs.length := by
          refine Classical.byContradiction fun z => ?_
          rw [List.getElem?_eq_none (by omega)] at hi
          cases hi
        rw [List.getElem?_eq_getElem hil] at hi
        cases hi
        exact ⟨hil, rfl⟩
      walk_at "wps"
      refine ⟨by omega, by omega, fun j δ' μ' => ∃ y, δ' = [some (.lst (headsD hs)), some (.int (n : Int)), some (.hd (.ref p)), some (.lst (nI hs[i])), y] ∧ μ' = sset μ p (.lst (headsD (longer (hs.take i) n ++ (List.range j).map fun x => hs[i] ++ [x]))), ⟨y, rfl, by rw [List.range_zero, List.map_nil, List.append_nil]⟩, ?_, ?_⟩
      · rintro j d δ' μ' hj ⟨y, rfl, rfl⟩
        obtain ⟨hj, rfl⟩ := rngD_get hj
        walk_at "wps"
        have hb2 := hb _ (List.getElem_mem hil)
        have hmul : min i hs.length * n ≤ 256 * 4 := Nat.mul_le_mul (by omega) hn
        refine ⟨by omega, by rw [nI_len]; omega, by unfold headsD; rw [List.length_map, List.length_append, longer_len, List.length_take, List.length_map, List.length_range]; omega, _, rfl, ?_⟩
        rw [List.range_succ, List.map_append, List.map_singleton, ← List.append_assoc, heads_snoc]
      · rintro δ' μ' ⟨y, rfl, rfl⟩
        refine ⟨_, _, rfl, ?_⟩
        rw [List.take_succ, List.getElem?_eq_getElem hil, Option.toList_some, longer_snoc]
    · rintro δ' μ' ⟨x, y, rfl, rfl⟩
      walk_at "wps"
      rw [show (headsD hs).length = hs.length by unfold headsD; rw [List.length_map], List.take_length]
      exact ⟨μ, Sub.set Sub.refl hp, h⟩
theorem heads_snoc2 (ws : List Int) (ps : List Nat) (p : Nat) : heads ws (ps ++ [p]) = longer (heads ws ps) (wd ws p) := by
  unfold heads
  rw [List.foldl_append, List.foldl_cons, List.foldl_nil]
theorem heads_len0 (ws : List Int) : ∀ (ps : List Nat) (hs : List (List Nat)) (a : Nat), hs.length = a → (ps.foldl (fun hs p => longer hs (wd ws p)) hs).length = ps.foldl (fun a p => a * wd ws p) a
  | [], hs, a, h => h
  | p :: ps, hs, a, h => by
    rw [List.foldl_cons, List.foldl_cons]
    exact heads_len0 ws ps _ _ (by rw [longer_len, h])
theorem heads_len (ws : List Int) (ps : List Nat) : (heads ws ps).length = wpl ws ps := heads_len0 ws ps _ _ rfl
/-- a way to choose options of places -/
def HG (ws : List Int) (qs l : List Nat) : Prop := l.length = qs.length ∧ ∀ i, i < qs.length → l.getD i 0 < wd ws (qs.getD i 0)
theorem HG.snoc {ws : List Int} {qs l : List Nat} {p x : Nat} (h : HG ws qs l) (hx : x < wd ws p) : HG ws (qs ++ [p]) (l ++ [x]) := by
  refine ⟨by rw [List.length_append, List.length_append, h.1]; rfl, fun i hi => ?_⟩
  rw [List.length_append, List.length_singleton] at hi
  rw [List.getD_eq_getElem?_getD, List.getD_eq_getElem?_getD]
  by_cases z : i < qs.length
  · rw [List.getElem?_append_left (by rw [h.1]; exact z), List.getElem?_append_left z]
    have := h.2 i z
    rwa [List.getD_eq_getElem?_getD, List.getD_eq_getElem?_getD] at this
  · have e : i = qs.length := by omega
    subst e
    rw [List.getElem?_append_right (by rw [h.1]; exact Nat.le_refl _), List.getElem?_append_right (Nat.le_refl _), h.1, Nat.sub_self]
    exact hx
theorem heads_each0 (ws : List Int) : ∀ (ps qs : List Nat) (hs : List (List Nat)), (∀ l ∈ hs, HG ws qs l) → ∀ l ∈ ps.foldl (fun hs p => longer hs (wd ws p)) hs, HG ws (qs ++ ps) l
  | [], qs, hs, h => by rw [List.append_nil]; exact h
  | p :: ps, qs, hs, h => by
    rw [List.foldl_cons, show qs ++ p :: ps = (qs ++ [p]) ++ ps by simp]
    refine heads_each0 ws ps _ _ fun l hl => ?_
    obtain ⟨l0, h0, hl⟩ := List.mem_flatMap.mp hl
    obtain ⟨x, hx, rfl⟩ := List.mem_map.mp hl
    exact (h l0 h0).snoc (List.mem_range.mp hx)
theorem heads_each (ws : List Int) (ps : List Nat) : ∀ l ∈ heads ws ps, HG ws ps l := heads_each0 ws ps [] [[]] fun l hl => by
  rw [List.mem_singleton.mp hl]
  exact ⟨rfl, fun i hi => by simp at hi⟩
def c__law_heads : Con := fun ds μ Φ _ => ∃ (ws : List Int) (ps : List Nat), ds = [.tup (ws.map .int), .lst (nI ps)] ∧ WsOk ws ∧ ps.length ≤ 8 ∧ (∀ i, i ≤ ps.length → wpl ws (ps.take i) ≤ 256) ∧ Φ (.lst (headsD (heads ws ps))) μ
theorem len__law_heads {ds μ Φ Ψ} (h : c__law_heads ds μ Φ Ψ) : ds.length = 2 := by obtain ⟨_, _, rfl, _⟩ := h; rfl
theorem ok__law_heads {cx : CXT} (T : Txt P w K mg) : FnOk P w K mg base cx 2 T.f__law_heads T.d__law_heads ["_law_widths_here", "_law_places"] (spOf K c__law_heads) := by
  refine def_okC T.F__law_heads sc__law_heads _ (fun ds μ Φ Ψ h => len__law_heads h) (fun cdv A outer s H E B hW hr =>
    ⟨_, (pss_cons (ps_set (i := 2) sc__law_heads.nd rfl (Or.inl rfl) (pe_lst (pa_cons (pe_lst pa_nil) pa_nil)))
      (pss_cons (ps_for (passes_of rfl) rfl (pi_list (pv 1)) (pg_name (i := 3) sc__law_heads.nd rfl (Or.inl rfl)) (pss_one (ps_set (i := 2) sc__law_heads.nd rfl (Or.inl rfl) (pe_call (ok__law_longer T) hr rfl T.g__law_longer T.F__law_longer.kp T.b__law_longer .nil passN (pa_cons (pv 2) (pa_cons (pe_call (ok__law_width T) hr rfl T.g__law_width T.F__law_width.kp T.b__law_width .nil passN (pa_cons (pv 0) (pa_cons (pv 3) pa_nil))) pa_nil))))))
      (pss_one (ps_ret (pv 2))))),
      (sSeq (sAsg (sLst (sCons (sLst sNil) sNil)) sName)
      (sSeq (sFor (siL sVar) (fun _ _ _ => sName) (fun _ _ _ => (sAsg (sCall (sCons sVar (sCons (sCall (sCons sVar (sCons sVar sNil))) sNil))) sName)))
      (sRet sVar)))⟩) (fun ds μ Φ Ψ h => ?hv)
  case hv =>
    obtain ⟨ws, ps, rfl, hw, hl, hb, h⟩ := h
    refine seq_cut fun M hM => ?_
    walk_at "wp"
    refine ⟨by omega, by omega, ?_⟩
    rw [hM]; clear hM M
    walk_at "wps"
    refine ⟨fun i δ' μ' => μ' = μ ∧ ∃ x, δ' = [some (.tup (ws.map .int)), some (.lst (nI ps)), some (.lst (headsD (heads ws (ps.take i)))), x], ⟨rfl, none, rfl⟩, ?_, ?_⟩
    · rintro i d δ' μ' hi ⟨rfl, x, rfl⟩
      obtain ⟨hil, rfl⟩ := nI_get hi
      have hw1 := hw.wd1 ps[i]
      walk_at "wps"
      refine ⟨ws, ps[i], rfl, hw, heads ws (ps.take i), wd ws ps[i], rfl, by omega, by rw [heads_len]; exact hb i (by omega), fun l hl2 => ?_, ?_⟩
      · have := (heads_each ws _ l hl2).1
        rw [List.length_take] at this
        omega
      · rw [List.take_succ, List.getElem?_eq_getElem hil, Option.toList_some, heads_snoc2]
        exact ⟨rfl, _, rfl⟩
    · rintro δ' μ' ⟨rfl, x, rfl⟩
      rw [nI_len, List.take_length]
      walk_at "wps"
      exact ret_same h
theorem idx_first {α : Type} [BEq α] [LawfulBEq α] {l : List α} {x : α} {m : Nat} {y : α} (hm : m < l.idxOf x) (hy : l[m]? = some y) : y ≠ x := fun e => by
  subst e
  have := List.not_of_lt_findIdx (p := (· == y)) (xs := l) hm
  obtain ⟨h1, h2⟩ := List.getElem?_eq_some_iff.mp hy
  simp [h2] at this
def c__law_tell : Con := fun ds μ Φ _ => ∃ (ws : List Int) (oc : Nat) (t : QT) (ps l : List Nat), ds = [qD t, .lst (nI ps), .lst (nI l)] ∧ WsOk ws ∧ QOk ws oc t ∧ qDep t ≤ 20 ∧ ps.length ≤ 8 ∧ l ∈ hs ws ps ∧ Φ (.int (tl t ps l : Int)) μ
theorem len__law_tell {ds μ Φ Ψ} (h : c__law_tell ds μ Φ Ψ) : ds.length = 3 := by obtain ⟨_, _, _, _, _, rfl, _⟩ := h; rfl
theorem ok__law_tell {cx : CXT} (T : Txt P w K mg) : FnOk P w K mg base cx 1 T.f__law_tell T.d__law_tell ["_law_term", "_law_places", "_law_head"] (spOf K c__law_tell) := by
  refine def_okC T.F__law_tell sc__law_tell _ (fun ds μ Φ Ψ h => len__law_tell h) (fun cdv A outer s H E B hW hr =>
    ⟨_, (pss_cons (ps_for (passes_of rfl) rfl (pi_range1 rfl T.z_range (pa_cons pe_int pa_nil)) (pg_name (i := 3) sc__law_tell.nd rfl (Or.inl rfl)) (pss_cons (ps_if (pt_cmpR op_eq (pe_ix ix_tup (pv 0) pe_int (fun _ _ => rfl)) pe_str (nomark _)) (pss_one (ps_ret (pe_ix ix_tup (pv 0) pe_int (fun _ _ => rfl)))) pss_nil)
      (pss_cons (ps_set (i := 4) sc__law_tell.nd rfl (Or.inl rfl) pe_int)
      (pss_cons (ps_if (pt_cmpR op_in_seq (pe_ix ix_tup (pv 0) pe_int (fun _ _ => rfl)) (pv 1) (by with_unfolding_all rfl)) (pss_one (ps_set (i := 4) sc__law_tell.nd rfl (Or.inl rfl) (pe_ix ix_list (pv 2) (pe_bm PySem.F.plainAttrs_list PySem.F.slot_list_index PySem.F.type_list_index mt_index (pv 1) (pa_cons (pe_ix ix_tup (pv 0) pe_int (fun _ _ => rfl)) pa_nil)) (fun _ _ => rfl)))) pss_nil)
      (pss_one (ps_set (i := 0) sc__law_tell.nd rfl (Or.inl rfl) (pe_ix ix_tup (pv 0) (pe_op op_add pe_int (pv 4)) (fun _ _ => rfl))))))))
      (pss_one (ps_ret pe_non))),
      (sSeq (sFor (siR1 sInt) (fun _ _ _ => sName) (fun _ _ _ => (sSeq (sIfS (sTest (sOp roEq (sOp roIxT sVar sInt) sStr)) (sRet (sOp roIxT sVar sInt)) sNext)
      (sSeq (sAsg sInt sName)
      (sSeq (sIfS (sTest (sOp (roIn (neg := false)) (sOp roIxT sVar sInt) sVar)) (sAsg (sOp roIxL sVar (sIdx sVar (sOp roIxT sVar sInt))) sName) sNext)
      (sAsg (sOp roIxT sVar (sOp roInt0 sInt sVar)) sName))))))
      (sRet sNon))⟩) (fun ds μ Φ Ψ h => ?hv)
  case hv =>
    obtain ⟨ws, oc, t, ps, l, rfl, hw, ht, hd, h8, hl, h⟩ := h
    have hlt := rd_lt hw hl
    have hll := (hs_mem.mp hl).1
    refine seq_cut fun M0 hM0 => ?_
    walk_at "wp"
    refine ⟨by omega, by omega, fun i δ' μ' => μ' = μ ∧ ∃ (s : QT) (x y : Option D), δ' = [some (qD s), some (.lst (nI ps)), some (.lst (nI l)), x, y] ∧ QOk ws oc s ∧ qA (rd ps l) s = tl t ps l ∧ qDep s + i ≤ 20, ⟨rfl, t, none, none, rfl, ht, rfl, by omega⟩, ?_, ?_⟩
    · rintro i d δ' μ' hi ⟨rfl, s, x, y, rfl, hs, ha, hds⟩
      obtain ⟨hj, rfl⟩ := rngD_get hi
      cases s with
      | tell o =>
        rw [qD]
        refine seq_cut fun M hM => ?_
        walk_at "wp"
        exact ⟨ret_same (by rw [← ha] at h; exact h), fun z => absurd trivial z⟩
      | look p ts =>
        obtain ⟨hp1, hlen, hts⟩ := hs
        rw [qoks_iff] at hts
        rw [qDep] at hds
        have hop : rd ps l p < ts.length := by rw [hlen]; exact hlt p
        have hdl := qdeps_le (List.getElem_mem hop)
        have ei : (2 : Int) + ((rd ps l p : Nat) : Int) = ((rd ps l p + 1 + 1 : Nat) : Int) := by omega
        have fin : ∃ d, atI (D.str "look" :: D.int (p : Int) :: qDs ts) (2 + ((rd ps l p : Nat) : Int)) = some d ∧ ∃ s, d = qD s ∧ QOk ws oc s ∧ qA (rd ps l) s = tl t ps l ∧ qDep s + (i + 1) ≤ 20 :=
          ⟨qD ts[rd ps l p], by
            rw [ei]
            exact atI_nat (by rw [List.getElem?_cons_succ, List.getElem?_cons_succ, qDs_map, List.getElem?_map, List.getElem?_eq_getElem hop]; rfl), _, rfl, hts _ (List.getElem_mem hop), by rw [← ha]; exact (qA_look (List.getElem?_eq_getElem hop)).symm, by omega⟩
        rw [qD]
        refine seq_cut fun M hM => ?_
        walk_at "wp"
        refine ⟨fun q => absurd q (by decide), fun _ => ?_⟩
        rw [hM]; clear hM M
        refine seq_cut fun M hM => ?_
        walk_at "wp"
        rw [hM]; clear hM M
        refine seq_cut fun M hM => ?_
        have go : M [some (qD (.look p ts)), some (.lst (nI ps)), some (.lst (nI l)), some (.int (i : Int)), some (.int ((rd ps l p : Nat) : Int))] μ' := by
          rw [hM]
          rw [qD]
          walk_at "wp"
          obtain ⟨d, h1, s2, rfl, h2⟩ := fin
          exact ⟨_, h1, s2, _, _, rfl, h2⟩
        walk_at "wp"
        rw [qD] at go
        refine in_N ⟨.lst _, ?_⟩
        refine ⟨_, rfl, fun q => ?_, fun q => ?_⟩
        · have hpin : p ∈ ps := by simpa using q
          have hj2 := List.idxOf_lt_length_iff.mpr hpin
          have hpj := List.getElem_idxOf hj2
          have hjl : ps.idxOf p < l.length := by rw [hll]; exact hj2
          refine ⟨rfl, by rw [nI_ints]; exact flat_I _, ps.idxOf p, .int (p : Int), by unfold nI; rw [List.getElem?_map, List.getElem?_eq_getElem hj2, hpj]; rfl, by simp [eqF], fun m z' hm hz => ?_, .int ((rd ps l p : Nat) : Int), ?_, go⟩
          · obtain ⟨hm2, rfl⟩ := nI_get hz
            have : ps[m] ≠ p := idx_first hm (List.getElem?_eq_getElem hm2)
            have : ¬ ((ps[m] : Nat) : Int) = (p : Int) := fun e => this (Int.ofNat.inj e)
            simp [eqF, this]
          · refine atI_nat ?_
            unfold nI rd
            rw [List.getElem?_map, List.getD_eq_getElem?_getD, List.getElem?_eq_getElem hjl]; rfl
        · have hpn : p ∉ ps := by simpa using q
          have e0 : rd ps l p = 0 := by
            unfold rd
            have hn : ¬ ps.idxOf p < ps.length := fun y => hpn (List.idxOf_lt_length_iff.mp y)
            rw [List.getD_eq_getElem?_getD, List.getElem?_eq_none (by omega)]
            rfl
          rw [e0] at go
          exact go
    · rintro δ' μ' ⟨rfl, s, x, y, rfl, hs, ha, hds⟩
      exact absurd hds (by have : Int.toNat 120 = 120 := rfl; omega)
end
section
variable {P : Program} {w : World} {K : Fg} {mg : Str → Option Value} {base : Heap}
def c_require_same_outcomes (C S : Addr) : Con := fun ds μ Φ Ψ => ∃ (ws ws' : List Int) (oc oc' : Nat) (t t' : QT), ds = [qO C t ws oc, .tup [qO C t' ws' oc']] ∧ (oc' = oc → Φ .non μ) ∧ (oc' ≠ oc → Ψ (.mk S none) μ)
theorem len_require_same_outcomes {C S ds μ Φ Ψ} (h : c_require_same_outcomes C S ds μ Φ Ψ) : ds.length = 2 := by obtain ⟨_, _, _, _, _, _, rfl, _⟩ := h; rfl
theorem ok_require_same_outcomes (T : Txt P w K mg) : FnOk P w K mg base (L2N.CX P w) 1 T.f_require_same_outcomes T.d_require_same_outcomes ["first", "others"] (spOf K (c_require_same_outcomes T.c_Query T.c_SizeMismatch)) := by
  refine def_okC T.F_require_same_outcomes sc_require_same_outcomes _ (fun ds μ Φ Ψ h => len_require_same_outcomes h) (fun cdv A outer s H E B hW hr =>
    have tk : L2N.Takes (cxOf (L2N.CX P w) P w K mg base N_require_same_outcomes "require_same_outcomes" (defScope s_require_same_outcomes) T.f_require_same_outcomes cdv A outer s H E) (fun cls d _ H => E cls d H) := L2N.takes_of rfl rfl rfl rfl
    ⟨_, (pss_one (ps_for (passes_of rfl) rfl (pi_tup (pv 1)) (pg_name (i := 2) sc_require_same_outcomes.nd rfl (Or.inl rfl)) (pss_one (ps_if (pt_cmpR op_ne (pe_fld (pv 2) rfl) (pe_fld (pv 0) rfl) (nomark _)) (pss_one (L2N.ps_raise rfl tk (L2N.pmk_own PySem.F.excBase_ValueError T.x_SizeMismatch T.g_SizeMismatch T.k_SizeMismatch (raises_own T.e_SizeMismatch T.t_SizeMismatch) rfl))) pss_nil)))),
      (sFor (siT sVar) (fun _ _ _ => sName) (fun _ _ _ => (sIfS (sTest (sOp roNe (sFldO (NS := NS_Query) (i := 2) T.cls_Query T.na_Query_outcomes rfl (by decide) sVar) (sFldO (NS := NS_Query) (i := 2) T.cls_Query T.na_Query_outcomes rfl (by decide) sVar))) (sRaise0W (W := fun cls d _ H => E cls d H) (C := T.c_SizeMismatch) (by exact hW)) sNext)))⟩) (fun ds μ Φ Ψ h => ?hv)
  case hv =>
    obtain ⟨ws, ws', oc, oc', t, t', rfl, h1, h2⟩ := h
    unfold qO
    walk_at "wps"
    refine ⟨fun i δ' μ' => μ' = μ ∧ ((i = 0 → ∃ x, δ' = [some (.obj T.c_Query NS_Query [qD t, .tup (ws.map .int), .int (oc : Int)]), some (.tup [.obj T.c_Query NS_Query [qD t', .tup (ws'.map .int), .int (oc' : Int)]]), x]) ∧ (i = 1 → oc' = oc)), ⟨rfl, fun _ => ⟨none, rfl⟩, fun z => by cases z⟩, ?_, ?_⟩
    · rintro i d δ' μ' hi ⟨rfl, w1, w2⟩
      obtain rfl : i = 0 := by
        cases i with
        | zero => rfl
        | succ i => simp at hi
      obtain ⟨x, rfl⟩ := w1 rfl
      cases hi
      walk_at "wps"
      refine ⟨fun z => ⟨_, Sub.refl, h2 fun e => ?_⟩, fun z => ?_⟩
      · simp [e] at z
      · simp at z; omega
    · rintro δ' μ' ⟨rfl, w1, w2⟩
      exact ret_same (h1 (w2 rfl))
theorem memzI {l : List Nat} {q : Nat} : (q : Int) ∈ zI l ↔ q ∈ l := by
  unfold zI
  rw [List.mem_map]
  exact ⟨fun ⟨x, hx, e⟩ => by obtain rfl : x = q := Int.ofNat.inj e; exact hx, fun h => ⟨q, h, rfl⟩⟩
def c_ascending : Con := fun ds μ Φ _ => ∃ (l ps : List Nat), ds = [.lst (nI l)] ∧ l.length ≤ 1000 ∧ ps.length < 64 ∧ (∀ q ∈ l, q ∈ ps) ∧ ∀ ms : List Nat, ms.Pairwise (· < ·) → (∀ q, q ∈ ms ↔ q ∈ l) → Φ (.tup (nI ms)) μ
theorem len_ascending {ds μ Φ Ψ} (h : c_ascending ds μ Φ Ψ) : ds.length = 1 := by obtain ⟨_, _, rfl, _⟩ := h; rfl
theorem ok_ascending {cx : CXT} (T : Txt P w K mg) : FnOk P w K mg base cx 1 T.f_ascending T.d_ascending ["numbers"] (spOf K c_ascending) := by
  refine def_okC T.F_ascending sc_ascending _ (fun ds μ Φ Ψ h => len_ascending h) (fun cdv A outer s H E B hW hr =>
    ⟨_, (pss_one (ps_ret (pe_callTy call_tupleN (by rfl) T.z_tuple (by decide +kernel) (pa_cons (pe_sortSet rfl T.z_sorted rfl T.z_set (pv 0)) pa_nil)))),
      (sRet (sCB rcTuple (sCons (sSortSet sVar) sNil)))⟩) (fun ds μ Φ Ψ h => ?hv)
  case hv =>
    obtain ⟨l, ps, rfl, hl, h64, hp, h⟩ := h
    walk_at "wps"
    refine ⟨zI l, by rw [nI_ints]; exact .lst _, ⟨by rw [zI, List.length_map]; exact hl, zI ps, by rw [zI, List.length_map]; exact h64, fun z hz => ?_⟩, fun ks hs hk => ?_⟩
    · obtain ⟨q, hq, rfl⟩ := List.mem_map.mp hz
      exact memzI.mpr (hp q hq)
    obtain ⟨ms, rfl⟩ : ∃ ms : List Nat, ks = zI ms := ⟨ks.map Int.toNat, by
      unfold zI
      rw [List.map_map]
      refine (List.map_id _).symm.trans (List.map_congr_left fun k hk2 => ?_)
      obtain ⟨q, _, rfl⟩ := List.mem_map.mp ((hk k).mp hk2)
      rfl⟩
    have := h ms ((List.pairwise_map.mp hs).imp fun z => by omega) fun q => by rw [← memzI, hk, memzI]
    rw [nI_ints] at this
    exact ret_same this
theorem eqD_two (p q : Int) : eqD (.tup [.str (Str.ofString "look"), .int q]) (.tup [.str (Str.ofString "look"), .int p]) = decide (q = p) := by
  rw [Bool.eq_iff_iff, decide_eq_true_eq]
  unfold eqD
  simp only [toPy, toPys, PyData.eqv, PyData.eqvAll, Bool.and_true]
  simp
theorem eqD_tell (p q : Int) : eqD (.tup [.str (Str.ofString "tell"), .int q]) (.tup [.str (Str.ofString "look"), .int p]) = false := by
  unfold eqD
  simp only [toPy, toPys, PyData.eqv, PyData.eqvAll, Bool.and_true]
  rw [Bool.and_eq_false_iff]
  left
  decide
theorem side_two (w : Str) (hw : PyData.strOk w = true) (p : Int) : EqSide (.tup [.str w, .int p]) := ⟨by simp only [eqOk, eqOks, Bool.and_true]; exact hw, by simp [dpt, dpts]⟩
def c_part_behind : Con := fun ds μ Φ _ => ∃ (ws : List Int) (oc lo p x : Nat) (t : QT), ds = [qD t, .int (p : Int), .int (x : Int)] ∧ IsS ws oc lo t ∧ x < wd ws p ∧ Φ (qD (pb p x t)) μ
theorem len_part_behind {ds μ Φ Ψ} (h : c_part_behind ds μ Φ Ψ) : ds.length = 3 := by obtain ⟨_, _, _, _, _, _, rfl, _⟩ := h; rfl
theorem ok_part_behind {cx : CXT} (T : Txt P w K mg) : FnOk P w K mg base cx 1 T.f_part_behind T.d_part_behind ["term", "place", "option"] (spOf K c_part_behind) := by
  refine def_okC T.F_part_behind sc_part_behind _ (fun ds μ Φ Ψ h => len_part_behind h) (fun cdv A outer s H E B hW hr =>
    ⟨_, (pss_one (ps_ret (pe_ifExp (pt_cmpR (op_eqD hr.units) (pe_slice sl_tupN (pv 0) po_none (po_some (pe_glob (v := .int 2) rfl T.g_ITEMS_BEFORE.choose_spec ⟨_, rfl⟩))) (pe_tupN (pa_cons pe_str (pa_cons (pv 1) pa_nil))) (nomark _)) (pe_ix ix_tup (pv 0) (pe_op op_add (pe_glob (v := .int 2) rfl T.g_ITEMS_BEFORE.choose_spec ⟨_, rfl⟩) (pv 2)) (fun _ _ => rfl)) (pv 0)))),
      (sRet (sIf (sTest (sOp roEqD (sSlT sVar sNoPart (sPart sInt)) (sTup (sCons sStr (sCons sVar sNil))))) (sOp roIxT sVar (sOp roInt0 sInt sVar)) sVar))⟩) (fun ds μ Φ Ψ h => ?hv)
  case hv =>
    obtain ⟨ws, oc, lo, p, x, t, rfl, ht, hx, h⟩ := h
    cases t with
    | tell o =>
      rw [qD]
      walk_at "wps"
      refine ⟨by omega, side_two _ (by decide +kernel) _, side_two _ (by decide +kernel) _, _, rfl, fun z => ?_, fun _ => ret_same h⟩
      rw [show DW.cutD [D.str (Str.ofString "tell"), D.int (o : Int)] none (some 2) = [D.str (Str.ofString "tell"), D.int (o : Int)] from rfl, eqD_tell] at z
      cases z
    | look q ts =>
      have hl := ht.len
      rw [qD]
      walk_at "wps"
      rw [show DW.cutD (D.str (Str.ofString "look") :: D.int (q : Int) :: qDs ts) none (some 2) = [D.str (Str.ofString "look"), D.int (q : Int)] from by rw [show (2 : Int) = ((2 : Nat) : Int) from rfl, cut_to]; rfl]
      refine ⟨by omega, side_two _ (by decide +kernel) _, side_two _ (by decide +kernel) _, _, rfl, fun z => ?_, fun z => ?_⟩
      · rw [eqD_two, decide_eq_true_eq] at z
        have z : q = p := by omega
        subst z
        have hx' : x < ts.length := by rw [hl]; exact hx
        rw [pb, if_pos rfl, List.getD_eq_getElem?_getD, List.getElem?_eq_getElem hx'] at h
        refine ⟨_, ?_, ret_same h⟩
        rw [show (2 : Int) + (x : Int) = ((x + 1 + 1 : Nat) : Int) by omega]
        exact atI_nat (by rw [List.getElem?_cons_succ, List.getElem?_cons_succ, qDs_map, List.getElem?_map, List.getElem?_eq_getElem hx']; rfl)
      · rw [eqD_two, decide_eq_false_iff_not] at z
        rw [pb, if_neg (fun e => z (by rw [e])), qD] at h
        exact ret_same h
def c_needed_places (C : Addr) : Con := fun ds μ Φ _ => ∃ (ws : List Int) (oc : Nat) (ps : List Nat) (t : QT), ds = [qO C t ws oc] ∧ QFit ws oc ps t ∧ ∀ ms : List Nat, ms.Pairwise (· < ·) → (∀ q, q ∈ ms ↔ q ∈ qPl (stl ws t)) → Φ (.tup (nI ms)) μ
theorem len_needed_places {C ds μ Φ Ψ} (h : c_needed_places C ds μ Φ Ψ) : ds.length = 1 := by obtain ⟨_, _, _, _, rfl, _⟩ := h; rfl
theorem ok_needed_places (T : Txt P w K mg) : FnOk P w K mg base (L2N.CX P w) 62 T.f_needed_places T.d_needed_places ["query"] (spOf K (c_needed_places T.c_Query)) := by
  refine def_okC T.F_needed_places sc_needed_places _ (fun ds μ Φ Ψ h => len_needed_places h) (fun cdv A outer s H E B hW hr =>
    have tk : L2N.Takes (cxOf (L2N.CX P w) P w K mg base N_needed_places "needed_places" (defScope s_needed_places) T.f_needed_places cdv A outer s H E) (fun cls d _ H => E cls d H) := L2N.takes_of rfl rfl rfl rfl
    ⟨_, (pss_one (ps_ret (pe_call (ok_ascending T) (hr.mono (by decide)) rfl T.g_ascending T.F_ascending.kp T.b_ascending .nil passN (pa_cons (pe_call (ok_places_of T) (hr.mono (by decide)) rfl T.g_places_of T.F_places_of.kp T.b_places_of .nil passN (pa_cons (pe_call (ok_settled_term T) hr rfl T.g_settled_term T.F_settled_term.kp T.b_settled_term .nil passN (pa_cons (pv 0) pa_nil)) pa_nil)) pa_nil)))),
      (sRet (sCall (sCons (sCall (sCons (sCall (sCons sVar sNil)) sNil)) sNil)))⟩) (fun ds μ Φ Ψ h => ?hv)
  case hv =>
    obtain ⟨ws, oc, ps, t, rfl, hf, h⟩ := h
    have S := stl_of hf
    walk_at "wps"
    refine ⟨ws, oc, ps, t, rfl, hf, ws, oc, stl ws t, rfl, S.is.ok, by have := S.dp; omega, by have := S.ln; omega, qPl (stl ws t), ps, rfl, by have := S.ln; omega, by have := hf.most; omega, fun q hq => hf.pl q (S.pl q hq), fun ms h1 h2 => ret_same (h ms h1 h2)⟩
/-- a way, as data -/
def pthD (path : List (Nat × Nat)) : D := .tup (path.map fun z => .tup [.int (z.1 : Int), .int (z.2 : Int)])
def optP : Option (List (Nat × Nat)) → D
  | none => .non
  | some path => pthD path
def c_path_to (n : Nat) : Con := fun ds μ Φ _ => ∃ (ws : List Int) (oc lo r : Nat) (t : QT), ds = [qD t, .tup [.int (r : Int)]] ∧ WsOk ws ∧ IsS ws oc lo t ∧ qDep t < n ∧ qDep t ≤ 20 ∧ Φ (optP (pth r t)) μ
theorem len_path_to {n ds μ Φ Ψ} (h : c_path_to n ds μ Φ Ψ) : ds.length = 2 := by obtain ⟨_, _, _, _, _, rfl, _⟩ := h; rfl
theorem pick_at {p : Nat} : ∀ {L : List (Option (List (Nat × Nat)))} {k i : Nat} {q : List (Nat × Nat)}, (∀ y, y < i → L[y]? = some none) → L[i]? = some (some q) → pickP p k L = some ((p, k + i) :: q)
  | [], k, i, q, h1, h2 => by simp at h2
  | a :: l, k, 0, q, h1, h2 => by
    obtain rfl : a = some q := by simpa using h2
    rfl
  | a :: l, k, i + 1, q, h1, h2 => by
    obtain rfl : a = none := by simpa using h1 0 (by omega)
    rw [pickP, pick_at (i := i) (q := q) (fun y hy => by simpa using h1 (y + 1) (by omega)) (by simpa using h2), show k + 1 + i = k + (i + 1) by omega]
theorem pth_len {r : Nat} : ∀ (t : QT) (path : List (Nat × Nat)), pth r t = some path → path.length ≤ qDep t := fun t => by
  induction t using QT.ind with
  | h1 o =>
    intro path h
    rw [pth] at h
    split at h
    · cases h; exact Nat.le_refl _
    · cases h
  | h2 p ts ih =>
    intro path h
    rw [pth, pths_map] at h
    obtain ⟨x, q, h1, rfl, _⟩ := pickP_cases h
    rw [List.getElem?_map] at h1
    obtain ⟨t, ht, e⟩ := Option.map_eq_some_iff.mp h1
    have := ih t (List.mem_of_getElem? ht) q e
    have := qdeps_le (List.mem_of_getElem? ht)
    rw [qDep, List.length_cons]
    omega
theorem pick_none {p : Nat} : ∀ {L : List (Option (List (Nat × Nat)))} {k : Nat}, (∀ y, y < L.length → L[y]? = some none) → pickP p k L = none
  | [], k, h => rfl
  | a :: l, k, h => by
    obtain rfl : a = none := by simpa using h 0 (by simp)
    rw [pickP]
    exact pick_none fun y hy => by simpa using h (y + 1) (by simpa using hy)
theorem step_path_to (T : Txt P w K mg) {k : Nat} (hk : 4 ≤ k) (n : Nat) (ih_path_to : FnOk P w K mg base (L2N.CX P w) k T.f_path_to T.d_path_to ["term", "outcomes"] (spOf K (c_path_to n))) : FnOk P w K mg base (L2N.CX P w) (k + 1) T.f_path_to T.d_path_to ["term", "outcomes"] (spOf K (c_path_to (n + 1))) := by
  refine def_okC T.F_path_to sc_path_to _ (fun ds μ Φ Ψ h => len_path_to h) (fun cdv A outer s H E B hW hr =>
    have tk : L2N.Takes (cxOf (L2N.CX P w) P w K mg base N_path_to "path_to" (defScope s_path_to) T.f_path_to cdv A outer s H E) (fun cls d _ H => E cls d H) := L2N.takes_of rfl rfl rfl rfl
    ⟨_, (pss_cons (ps_if (pt_cmpR op_eq (pe_ix ix_tup (pv 0) pe_int (fun _ _ => rfl)) pe_str (nomark _)) (pss_one (ps_ret (pe_ifExp (pt_cmpR op_in_seq (pe_ix ix_tup (pv 0) pe_int (fun _ _ => rfl)) (pv 1) (by with_unfolding_all rfl)) (pe_tupN pa_nil) pe_non))) pss_nil)
      (pss_cons (ps_for (passes_of rfl) rfl (pi_enumT (by rfl) T.z_enumerate (pa_cons (pe_call (ok_terms_behind T) (hr.mono (by omega)) rfl T.g_terms_behind T.F_terms_behind.kp T.b_terms_behind .nil passN (pa_cons (pv 0) pa_nil)) pa_nil)) (pg_tup (n := 2) rfl (pgs_cons (pg_name (i := 2) sc_path_to.nd rfl (Or.inl rfl)) (pgs_cons (pg_name (i := 3) sc_path_to.nd rfl (Or.inl rfl)) pgs_nil))) (pss_cons (ps_set (i := 4) sc_path_to.nd rfl (Or.inl rfl) (pe_call ih_path_to hr rfl T.g_path_to T.F_path_to.kp T.b_path_to .nil passN (pa_cons (pv 3) (pa_cons (pv 1) pa_nil))))
      (pss_one (ps_if (pt_cmpR op_notN (pv 4) pe_non (nomark _)) (pss_one (ps_ret (pe_op op_catN (pe_tupN (pa_cons (pe_tupN (pa_cons (pe_ix ix_tup (pv 0) pe_int (fun _ _ => rfl)) (pa_cons (pv 2) pa_nil))) pa_nil)) (pv 4)))) pss_nil))))
      (pss_one (ps_ret pe_non)))),
      (sSeq (sIfS (sTest (sOp roEq (sOp roIxT sVar sInt) sStr)) (sRet (sIf (sTest (sOp (roIn (neg := false)) (sOp roIxT sVar sInt) sVar)) (sTup sNil) sNon)) sNext)
      (sSeq (sFor (siEnumT (sCall (sCons sVar sNil))) (fun _ _ _ => (sgTup (sgCons sName (sgCons sName sgNil)))) (fun _ _ _ => (sSeq (sAsg (sCall (sCons sVar (sCons sVar sNil))) sName)
      (sIfS (sTest (sOp roNotN sVar sNon)) (sRet (sOp roCatT (sTup (sCons (sTup (sCons (sOp roIxT sVar sInt) (sCons sVar sNil))) sNil)) sVar)) sNext))))
      (sRet sNon)))⟩) (fun ds μ Φ Ψ h => ?hv)
  case hv =>
    obtain ⟨ws, oc, lo, r, t, rfl, hw, ht, hn, h20, h⟩ := h
    cases t with
    | tell o =>
      rw [qD]
      refine seq_cut fun M hM => ?_
      walk_at "wp"
      refine ⟨?_, fun z => absurd trivial z⟩
      rw [pth] at h
      show oIn false (.int (o : Int)) (.tup ([(r : Int)].map .int)) _ _
      refine in_I ?_
      refine ⟨_, rfl, fun z => ?_, fun z => ?_⟩
      · have z : o = r := Int.ofNat.inj (by simpa using z)
        rw [if_pos z] at h
        exact ⟨by omega, ret_same h⟩
      · have z : o ≠ r := fun e => by rw [e] at z; simp at z
        rw [if_neg z] at h
        exact ret_same h
    | look p ts =>
      have hl := ht.len
      have hw4 := hw.wd1 p
      rw [pth, pths_map] at h
      rw [qDep] at hn h20
      rw [qD]
      refine seq_cut fun M hM => ?_
      walk_at "wp"
      refine ⟨fun z => absurd z (by decide), fun _ => ?_⟩
      rw [hM]; clear hM M
      refine seq_cut fun M hM => ?_
      walk_at "wp"
      refine ⟨_, rfl, ?_⟩
      rw [List.drop_succ_cons, List.drop_succ_cons, List.drop_zero]
      refine ⟨_, rfl, ?_⟩
      rw [qDs_len]
      refine ⟨fun i δ' μ' => μ' = μ ∧ (∃ x2 x3 x4, δ' = [some (.tup (.str "look" :: .int (p : Int) :: qDs ts)), some (.tup [.int (r : Int)]), x2, x3, x4]) ∧ ∀ y, y < i → (ts.map (pth r))[y]? = some none, ⟨rfl, ⟨none, none, none, rfl⟩, fun y hy => by omega⟩, ?_, ?_⟩
      · rintro i d δ' μ' hi ⟨rfl, ⟨x2, x3, x4, rfl⟩, hy⟩
        rw [List.getElem?_map] at hi
        obtain ⟨k, hk, rfl⟩ := Option.map_eq_some_iff.mp hi
        obtain ⟨hil, rfl⟩ := List.getElem?_eq_some_iff.mp hk
        rw [List.length_range] at hil
        rw [List.getElem_range]
        have hts : ts[i]? = some ts[i] := List.getElem?_eq_getElem hil
        have hm := List.getElem_mem hil
        have hdl := qdeps_le hm
        have e1 : (qDs ts).getD i .non = qD ts[i] := by rw [List.getD_eq_getElem?_getD, qDs_map, List.getElem?_map, hts]; rfl
        rw [e1]
        refine ⟨_, rfl, rfl, _, _, rfl, _, _, rfl, rfl, ?_⟩
        refine seq_cut fun N hN => ?_
        walk_at "wp"
        refine ⟨ws, oc, _, r, ts[i], rfl, hw, ht.sub hm, by omega, by omega, ?_⟩
        show N _ μ'
        rw [hN]; clear hN N
        have hp : (ts.map (pth r))[i]? = some (pth r ts[i]) := by rw [List.getElem?_map, hts]; rfl
        cases e : pth r ts[i] with
        | none =>
          rw [e] at hp
          unfold optP
          walk_at "wp"
          refine ⟨⟨_, _, _, rfl⟩, fun y hy2 => ?_⟩
          by_cases c : y = i
          · rw [c]; exact hp
          · exact hy y (by omega)
        | some path =>
          rw [e] at hp
          rw [pick_at hy hp, Nat.zero_add] at h
          have pl := pth_len _ _ e
          unfold optP pthD
          walk_at "wp"
          exact ⟨by omega, by omega, by omega, ret_same h⟩
      · rintro δ' μ' ⟨rfl, ⟨x2, x3, x4, rfl⟩, hy⟩
        rw [List.length_range] at hy
        rw [pick_none (by rw [List.length_map]; exact hy)] at h
        rw [hM]; clear hM M
        walk_at "wps"
        exact ret_same h
end
section
variable {P : Program} {w : World} {K : Fg} {mg : Str → Option Value} {base : Heap}
section
variable {P : Program} {w : World} {K : Fg} {mg : Str → Option Value} {base : Heap}
theorem okN_path_to (T : Txt P w K mg) : ∀ n, FnOk P w K mg base (L2N.CX P w) (4 + n) T.f_path_to T.d_path_to ["term", "outcomes"] (spOf K (c_path_to n))
  | 0 => fn_never fun ds μ Φ Ψ h => by obtain ⟨_, _, _, _, _, _, _, _, h, _⟩ := h; omega
  | n + 1 => step_path_to T (k := 4 + n) (by omega) n (okN_path_to T n)
theorem ok_path_to (T : Txt P w K mg) : FnOk P w K mg base (L2N.CX P w) 30 T.f_path_to T.d_path_to ["term", "outcomes"] (spOf K (c_path_to 21)) := (okN_path_to T 21).mono (by decide)
end
/-- the row of a way -/
def rowO (C : Addr) (f : Nat → Nat) : D := rwO C ⟨(rowE f).map fun (n : Nat) => (n : Int), [0]⟩
def optR (C : Addr) : Option (List (Nat × Nat)) → D
  | none => .non
  | some path => rowO C (pf path)
structure PthOk (path : List (Nat × Nat)) : Prop where
  nd : (path.map (·.1)).Nodup
  lt : ∀ z ∈ path, z.1 < 100
  len : path.length ≤ 100
def c_first_row (C : Addr) : Con := fun ds μ Φ _ => ∃ (o : Option (List (Nat × Nat))), ds = [optP o] ∧ (∀ path, o = some path → PthOk path) ∧ Φ (optR C o) μ
theorem len_first_row {C ds μ Φ Ψ} (h : c_first_row C ds μ Φ Ψ) : ds.length = 1 := by obtain ⟨_, rfl, _⟩ := h; rfl
def zz (z : Nat × Nat) : Int × Int := ((z.1 : Int), (z.2 : Int))
theorem look_zz (path : List (Nat × Nat)) (q : Nat) : ((path.map zz).lookup (q : Int)).getD 0 = ((pf path q : Nat) : Int) := by
  induction path with
  | nil => rfl
  | cons z path ih =>
    obtain ⟨a, b⟩ := z
    rw [List.map_cons, zz, List.lookup_cons]
    by_cases c : q = a
    · subst c
      rw [pf_cons]
      simp
    · rw [pf_ne c, ← ih]
      have : ((q : Int) == (a : Int)) = false := by rw [beq_eq_false_iff_ne]; exact fun e => c (Int.ofNat.inj e)
      rw [this]
theorem ok_first_row (T : Txt P w K mg) : FnOk P w K mg base (L2N.CX P w) 6 T.f_first_row T.d_first_row ["path"] (spOf K (c_first_row T.c_Row)) := by
  refine def_okC T.F_first_row sc_first_row _ (fun ds μ Φ Ψ h => len_first_row h) (fun cdv A outer s H E B hW hr =>
    have tk : L2N.Takes (cxOf (L2N.CX P w) P w K mg base N_first_row "first_row" (defScope s_first_row) T.f_first_row cdv A outer s H E) (fun cls d _ H => E cls d H) := L2N.takes_of rfl rfl rfl rfl
    ⟨_, (pss_cons (ps_if (pt_cmpR op_isN (pv 0) pe_non (nomark _)) (pss_one (ps_ret pe_non)) pss_nil)
      (pss_cons (ps_set (i := 1) sc_first_row.nd rfl (Or.inr rfl) (pe_dc (own := [("place", 3), ("option", 4)]) rfl sc_first_row.nd (pi_tup (pv 0)) (blkOk_by (N := N_first_row) (sc := defScope s_first_row) (by decide +kernel)) (fun _ _ _ _ _ => (pg_tup (n := 2) rfl (pgs_cons (pg_name (i := 3) sc_first_row.nd rfl (Or.inl rfl)) (pgs_cons (pg_name (i := 4) sc_first_row.nd rfl (Or.inl rfl)) pgs_nil)))) (fun _ _ _ _ _ => pts_nil) (fun _ _ _ _ _ => (pv 3)) (fun _ _ _ _ _ => (pv 4))))
      (pss_cons (ps_set (i := 2) sc_first_row.nd rfl (Or.inl rfl) (pe_op op_add (pe_maxD rfl T.z_max rfl hr (pe_callTy (call_listD rfl) (by rfl) T.z_list (by decide +kernel) (pa_cons (pv 1) pa_nil)) (pe_un un_neg pe_int)) pe_int))
      (pss_one (ps_ret (pe_methX0 (pl := _) (pe_makeSD T.mk_Row (ok_Row___init__ T) (hr.mono (by decide)) rfl T.g_Row T.bd_Row___init__.choose_spec.2 T.bd_Row___init__.choose_spec.1 (fun σ => L2N.passAt tk σ) (pa_cons (pe_callTy call_tupleN (by rfl) T.z_tuple (by decide +kernel) (pa_cons (pe_lc (own := [("place", 3)]) rfl sc_first_row.nd (pi_range1 rfl T.z_range (pa_cons (pv 2) pa_nil)) (blkOk_by (N := N_first_row) (sc := defScope s_first_row) (by decide +kernel)) (fun _ _ _ _ _ => (pg_name (i := 3) sc_first_row.nd rfl (Or.inl rfl))) (fun _ _ _ _ _ => pts_nil) (fun _ _ _ _ _ => (pe_dget2 (units1 hr) (pv 1) (pv 3) pe_int ⟨rfl, rfl, rfl, rfl⟩))) pa_nil)) pa_nil)) T.cls_Row T.me_Row_least (ok_Row_least T) (hr.mono (by decide)) T.b_Row_least (fun σ => L2N.passAt tk σ))))))),
      (sSeq (sIfS (sTest (sOp roIsN sVar sNon)) (sRet sNon) sNext)
      (sSeq (sAsg (sDc (siT sVar) (gwTup (gwConsN List.mem_cons_self (gwConsN (List.mem_cons_of_mem _ List.mem_cons_self) gwNil))) (fun _ _ _ => (sgTup (sgCons sName (sgCons sName sgNil)))) (fun _ _ _ => sVar) (fun _ _ _ => sVar)) sName)
      (sSeq (sAsg (sOp roInt0 (sMaxD (sCB rcListD (sCons sVar sNil)) (sUn ruInt sInt)) sInt) sName)
      (sRet (sMethXW (NS := NS_Row) (W := fun cls d _ H => E cls d H) (by decide) (by exact hW) (sMakeSD (W := fun cls d _ H => E cls d H) (by exact hW) (dfl_tup T.q_Row___init__) (sCons (sCB rcTuple (sCons (sLc (siR1 sVar) (gwName List.mem_cons_self) (fun _ _ _ => sName) (fun _ _ _ => sYes) (fun _ _ _ => (sGet2 sVar sVar sInt))) sNil)) sNil)) sNil)))))⟩) (fun ds μ Φ Ψ h => ?hv)
  case hv =>
    obtain ⟨o, rfl, ho, h⟩ := h
    cases o with
    | none =>
      unfold optP
      walk_at "wps"
      exact ret_same h
    | some path =>
      have P := ho path rfl
      unfold optP pthD
      refine seq_cut fun M hM => ?_
      walk_at "wp"
      rw [hM]; clear hM M
      refine seq_cut fun M hM => ?_
      walk_at "wp"
      intro p hp
      refine ⟨fun i μ2 => μ2 = sset μ p (.dct ((path.take i).map zz)), rfl, fun i d μ2 hi hμ => ?_, fun μ2 hμ => ?_⟩
      · subst hμ
        rw [List.getElem?_map] at hi
        obtain ⟨z, hz, rfl⟩ := Option.map_eq_some_iff.mp hi
        have hil := (List.getElem?_eq_some_iff.mp hz).1
        refine ⟨_, rfl, rfl, _, _, rfl, _, _, rfl, rfl, _, (z.1 : Int), (z.2 : Int), rfl, rfl, sset_same, by rw [List.length_map, List.length_take]; have := P.len; omega, fun q hq => ?_, ?_⟩
        · obtain ⟨y, hy, rfl⟩ := List.mem_map.mp hq
          intro e
          have e : y.1 = z.1 := Int.ofNat.inj e
          obtain ⟨j, hj, hyj⟩ := List.mem_iff_getElem.mp hy
          rw [List.length_take] at hj
          rw [List.getElem_take] at hyj
          have nd := List.pairwise_iff_getElem.mp P.nd j i (by rw [List.length_map]; omega) (by rw [List.length_map]; exact hil) (by omega)
          rw [List.getElem_map, List.getElem_map, hyj, (List.getElem?_eq_some_iff.mp hz).2] at nd
          exact nd e
        · rw [sset_sset]
          congr 2
          rw [List.take_add_one, hz, List.map_append]
          rfl
      · subst hμ
        rw [List.take_length]
        rw [hM]; clear hM M
        refine seq_cut fun M hM => ?_
        walk_at "wp"
        refine w_listD rfl ⟨sset_same, ?_⟩
        have ek : ((path.map zz).map (·.1)) = zI (path.map (·.1)) := by unfold zI; rw [List.map_map, List.map_map]; rfl
        rw [ek]
        have mid : M [some (.tup (path.map fun z => D.tup [.int (z.1 : Int), .int (z.2 : Int)])), some (.hd (.ref p)), some (.int (rch (path.map (·.1)) : Int)), none, none] (sset μ p (.dct (path.map zz))) := by
          rw [hM]; clear hM M
          walk_at "wps"
          have rl : rch (path.map (·.1)) ≤ 100 := rch_le fun q hq => by
            obtain ⟨z, hz, rfl⟩ := List.mem_map.mp hq
            exact P.lt z hz
          have rz : ∀ q, rch (path.map (·.1)) ≤ q → pf path q = 0 := fun q hq => pf_out fun z hz e => by
            have := rch_lt (List.mem_map.mpr ⟨z, hz, rfl⟩ : z.1 ∈ path.map (·.1))
            omega
          generalize rch (path.map (·.1)) = R at *
          refine ⟨by omega, by omega, ?_⟩
          refine lcR (fun q => .int ((pf path q : Nat) : Int)) (by omega) (fun q μ2 X hq hsub hx => ?_) ?_
          · walk_at "wp"
            have lk := look_zz path q
            refine ⟨p, _, rfl, hsub _ _ sset_same, _, hsub _ _ sset_same, fun v hv => ?_, fun hv => ?_⟩
            · rw [hv] at lk
              have lk : v = ((pf path q : Nat) : Int) := lk
              rw [lk]; exact hx
            · rw [hv] at lk
              have lk : (0 : Int) = ((pf path q : Nat) : Int) := lk
              rw [lk]; exact hx
          refine ⟨_, .lst _, fun x hx => ?_⟩
          have el : ((List.range R).map fun q => D.int ((pf path q : Nat) : Int)) = ((ER (pf path) R).map fun (n : Nat) => (n : Int)).map D.int := by unfold ER; rw [List.map_map, List.map_map]; rfl
          rw [el]
          have ok : RwOk ⟨(ER (pf path) R).map fun (n : Nat) => (n : Int), [0]⟩ := ⟨by simp, by simp [ER]; omega, by simp, fun y hy => by
            obtain ⟨n, _, rfl⟩ := List.mem_map.mp hy
            omega, fun y hy => by rw [List.mem_singleton.mp hy]; exact Int.le_refl _⟩
          refine ⟨x, _, [0], rfl, ok.hl, ok.cl, sset_same, fun z => absurd ⟨ok.c0, fun y hy => (List.mem_append.mp hy).elim (ok.hp y) (ok.cp y)⟩ z, fun _ => ⟨rfl, _, _, sset_same, _, rfl, ⟨_, [0]⟩, rfl, ok, fun a ha => ?_⟩⟩
          rw [least_rowE rl rz ha, sset_sset, sdel_sset hx]
          exact ⟨μ, Sub.set Sub.refl hp, h⟩
        refine ⟨_, rfl, fun e => ?_, fun m hm hmax => ?_⟩
        · have e2 : path.map (·.1) = [] := List.map_eq_nil_iff.mp e
          rw [e2] at mid
          walk_at "wp"
          exact mid
        · obtain ⟨q, hq, rfl⟩ := List.mem_map.mp hm
          rw [rch_max hq fun z hz => by have := hmax _ (List.mem_map.mpr ⟨z, hz, rfl⟩); omega] at mid
          walk_at "wp"
          exact mid
end
section
variable {P : Program} {w : World} {K : Fg} {mg : Str → Option Value} {base : Heap}
theorem pth_inc {ws : List Int} {oc r : Nat} : ∀ (t : QT) (lo : Nat) (path : List (Nat × Nat)), IsS ws oc lo t → pth r t = some path → (path.map (·.1)).Pairwise (· < ·) ∧ ∀ z ∈ path, lo ≤ z.1 := fun t => by
  induction t using QT.ind with
  | h1 o =>
    intro lo path h e
    rw [pth] at e
    split at e
    · cases e; exact ⟨.nil, fun z hz => by cases hz⟩
    · cases e
  | h2 p ts ih =>
    intro lo path h e
    rw [pth, pths_map] at e
    obtain ⟨x, q, h1, rfl, _⟩ := pickP_cases e
    rw [List.getElem?_map] at h1
    obtain ⟨t, ht, e⟩ := Option.map_eq_some_iff.mp h1
    have hm := List.mem_of_getElem? ht
    obtain ⟨a, b⟩ := ih t hm _ q (h.sub hm) e
    have hge := h.ge
    refine ⟨List.pairwise_cons.mpr ⟨fun y hy => ?_, a⟩, fun z hz => ?_⟩
    · obtain ⟨z, hz, rfl⟩ := List.mem_map.mp hy
      have := b z hz
      show p < _
      omega
    · rcases List.mem_cons.mp hz with e2 | e2
      · rw [e2]; exact hge
      · have := b z e2; omega
theorem pth_ok {ws : List Int} {oc r lo : Nat} {t : QT} (h : IsS ws oc lo t) (hd : qDep t ≤ 20) {path : List (Nat × Nat)} (e : pth r t = some path) : PthOk path :=
  ⟨(pth_inc t lo path h e).1.imp fun z => by omega, fun z hz => IsS.p100 t h _ (pth_keys t path e z hz), by have := pth_len t path e; omega⟩
def c_least_row (C R O : Addr) : Con := fun ds μ Φ Ψ => ∃ (ws : List Int) (oc : Nat) (ps : List Nat) (t : QT) (o : Int), ds = [qO C t ws oc, .int o] ∧ QFit ws oc ps t ∧ (¬ (0 ≤ o ∧ o < (oc : Int)) → Ψ (.mk O none) μ) ∧ ∀ r : Nat, o = (r : Int) → r < oc → Φ (optR R (pth r (stl ws t))) μ
theorem len_least_row {C R O ds μ Φ Ψ} (h : c_least_row C R O ds μ Φ Ψ) : ds.length = 2 := by obtain ⟨_, _, _, _, _, rfl, _⟩ := h; rfl
theorem ok_least_row (T : Txt P w K mg) : FnOk P w K mg base (L2N.CX P w) 63 T.f_least_row T.d_least_row ["query", "outcome"] (spOf K (c_least_row T.c_Query T.c_Row T.c_OutOfRange)) := by
  refine def_okC T.F_least_row sc_least_row _ (fun ds μ Φ Ψ h => len_least_row h) (fun cdv A outer s H E B hW hr =>
    have tk : L2N.Takes (cxOf (L2N.CX P w) P w K mg base N_least_row "least_row" (defScope s_least_row) T.f_least_row cdv A outer s H E) (fun cls d _ H => E cls d H) := L2N.takes_of rfl rfl rfl rfl
    ⟨_, (pss_cons (ps_expr (pe_callS (ok_require_outcome T) (hr.mono (by decide)) rfl T.g_require_outcome T.F_require_outcome.kp T.b_require_outcome (fun σ => L2N.passAt tk σ) (pa_cons (pv 0) (pa_cons (pv 1) pa_nil))))
      (pss_one (ps_ret (pe_call (ok_first_row T) (hr.mono (by decide)) rfl T.g_first_row T.F_first_row.kp T.b_first_row .nil passN (pa_cons (pe_call (ok_path_to T) (hr.mono (by decide)) rfl T.g_path_to T.F_path_to.kp T.b_path_to .nil passN (pa_cons (pe_call (ok_settled_term T) (hr.mono (by decide)) rfl T.g_settled_term T.F_settled_term.kp T.b_settled_term .nil passN (pa_cons (pv 0) pa_nil)) (pa_cons (pe_tupN (pa_cons (pv 1) pa_nil)) pa_nil))) pa_nil))))),
      (sSeq (sDrop (sCallSW (W := fun cls d _ H => E cls d H) (by exact hW) (sCons sVar (sCons sVar sNil))))
      (sRet (sCall (sCons (sCall (sCons (sCall (sCons sVar sNil)) (sCons (sTup (sCons sVar sNil)) sNil))) sNil))))⟩) (fun ds μ Φ Ψ h => ?hv)
  case hv =>
    obtain ⟨ws, oc, ps, t, o, rfl, hf, h1, h2⟩ := h
    have S := stl_of hf
    have d8 := S.dp
    refine seq_cut fun M hM => ?_
    walk_at "wp"
    refine ⟨ws, oc, t, o, rfl, fun c => ?_, fun c => ⟨_, Sub.refl, h1 c⟩⟩
    obtain ⟨r, rfl⟩ : ∃ r : Nat, o = (r : Int) := ⟨o.toNat, by omega⟩
    have h2 := h2 r rfl (by omega)
    show M _ μ
    rw [hM]; clear hM M
    walk_at "wps"
    refine ⟨ws, oc, ps, t, rfl, hf, by omega, ws, oc, 0, r, stl ws t, rfl, hf.w, S.is, by omega, by omega, ?_⟩
    exact ⟨pth r (stl ws t), rfl, fun path e => pth_ok S.is (by omega) e, ret_same h2⟩
def c_parting_path (n : Nat) : Con := fun ds μ Φ _ => ∃ (ws : List Int) (oc lo lo' : Nat) (nd : List Nat) (s u : QT), ds = [.tup [qD s, qD u], .tup (nI nd), .tup (ws.map .int)] ∧ WsOk ws ∧ IsS ws oc lo s ∧ IsS ws oc lo' u ∧ (∀ q ∈ qPl s, q ∈ nd) ∧ (∀ q ∈ qPl u, q ∈ nd) ∧ nd.Pairwise (· < ·) ∧ nd.length < n ∧ nd.length ≤ 20 ∧ qDep s ≤ 20 ∧ qDep u ≤ 20 ∧ Φ (optP (pp ws nd s u)) μ
theorem len_parting_path {n ds μ Φ Ψ} (h : c_parting_path n ds μ Φ Ψ) : ds.length = 3 := by obtain ⟨_, _, _, _, _, _, _, rfl, _⟩ := h; rfl
theorem pb_dep (p x : Nat) (t : QT) : qDep (pb p x t) ≤ qDep t := by
  cases t with
  | tell o => exact Nat.le_refl _
  | look q ts =>
    rw [pb]
    split
    · rw [List.getD_eq_getElem?_getD]
      cases e : ts[x]? with
      | none => exact Nat.zero_le _
      | some t => have := qdeps_le (List.mem_of_getElem? e); rw [qDep]; show qDep t ≤ _; omega
    · exact Nat.le_refl _
theorem pp_len {ws : List Int} : ∀ (nd : List Nat) (s u : QT) (path : List (Nat × Nat)), pp ws nd s u = some path → path.length ≤ nd.length
  | [], s, u, path, h => by
    rw [pp] at h
    split at h
    · cases h
    · cases h; exact Nat.le_refl _
  | p :: nd, s, u, path, h => by
    rw [pp] at h
    split at h
    · cases h
    · obtain ⟨x, q, h1, rfl, _⟩ := pickP_cases h
      rw [List.getElem?_map] at h1
      obtain ⟨y, hy, e⟩ := Option.map_eq_some_iff.mp h1
      have := pp_len nd _ _ q e
      rw [List.length_cons, List.length_cons]
      omega
theorem step_parting_path (T : Txt P w K mg) {k : Nat} (hk : 4 ≤ k) (n : Nat) (ih_parting_path : FnOk P w K mg base (L2N.CX P w) k T.f_parting_path T.d_parting_path ["terms", "needed", "widths"] (spOf K (c_parting_path n))) : FnOk P w K mg base (L2N.CX P w) (k + 1) T.f_parting_path T.d_parting_path ["terms", "needed", "widths"] (spOf K (c_parting_path (n + 1))) := by
  refine def_okC T.F_parting_path sc_parting_path _ (fun ds μ Φ Ψ h => len_parting_path h) (fun cdv A outer s H E B hW hr =>
    have tk : L2N.Takes (cxOf (L2N.CX P w) P w K mg base N_parting_path "parting_path" (defScope s_parting_path) T.f_parting_path cdv A outer s H E) (fun cls d _ H => E cls d H) := L2N.takes_of rfl rfl rfl rfl
    ⟨_, (pss_cons (ps_if (pt_cmpR (op_eqD hr.units) (pe_ix ix_tup (pv 0) pe_int (fun _ _ => rfl)) (pe_ix ix_tup (pv 0) pe_int (fun _ _ => rfl)) (nomark _)) (pss_one (ps_ret pe_non)) pss_nil)
      (pss_cons (ps_if (pt_cmpR op_eq (pe_callB call_len_seq (by rfl) T.z_len PySem.boot_len (pa_cons (pv 1) pa_nil)) pe_int (nomark _)) (pss_one (ps_ret (pe_tupN pa_nil))) pss_nil)
      (pss_cons (ps_set (i := 3) sc_parting_path.nd rfl (Or.inr rfl) (pe_ix ix_tup (pv 1) pe_int (fun _ _ => rfl)))
      (pss_cons (ps_for (passes_of rfl) rfl (pi_range1 rfl T.z_range (pa_cons (pe_call (ok_width_at T) (hr.mono (by omega)) rfl T.g_width_at T.F_width_at.kp T.b_width_at .nil passN (pa_cons (pv 2) (pa_cons (pv 3) pa_nil))) pa_nil)) (pg_name (i := 4) sc_parting_path.nd rfl (Or.inr rfl)) (pss_cons (ps_set (i := 5) sc_parting_path.nd rfl (Or.inl rfl) (pe_callTy call_tupleN (by rfl) T.z_tuple (by decide +kernel) (pa_cons (pe_lc (own := [("term", 7)]) rfl sc_parting_path.nd (pi_tup (pv 0)) (blkOk_by (N := N_parting_path) (sc := defScope s_parting_path) (by decide +kernel)) (fun _ _ _ _ _ => (pg_name (i := 7) sc_parting_path.nd rfl (Or.inl rfl))) (fun _ _ _ _ _ => pts_nil) (fun _ _ _ _ _ => (pe_call (ok_part_behind T) (hr.mono (by omega)) rfl T.g_part_behind T.F_part_behind.kp T.b_part_behind .nil passN (pa_cons (pv 7) (pa_cons (pv 3) (pa_cons (pv 4) pa_nil)))))) pa_nil)))
      (pss_cons (ps_set (i := 6) sc_parting_path.nd rfl (Or.inl rfl) (pe_call ih_parting_path hr rfl T.g_parting_path T.F_parting_path.kp T.b_parting_path .nil passN (pa_cons (pv 5) (pa_cons (pe_slice sl_tupN (pv 1) (po_some pe_int) po_none) (pa_cons (pv 2) pa_nil)))))
      (pss_one (ps_if (pt_cmpR op_notN (pv 6) pe_non (nomark _)) (pss_one (ps_ret (pe_op op_catN (pe_tupN (pa_cons (pe_tupN (pa_cons (pv 3) (pa_cons (pv 4) pa_nil))) pa_nil)) (pv 6)))) pss_nil)))))
      (pss_one (ps_ret pe_non)))))),
      (sSeq (sIfS (sTest (sOp roEqD (sOp roIxT sVar sInt) (sOp roIxT sVar sInt))) (sRet sNon) sNext)
      (sSeq (sIfS (sTest (sOp roEq (sCB rcLen (sCons sVar sNil)) sInt)) (sRet (sTup sNil)) sNext)
      (sSeq (sAsg (sOp roIxT sVar sInt) sName)
      (sSeq (sFor (siR1 (sCall (sCons sVar (sCons sVar sNil)))) (fun _ _ _ => sName) (fun _ _ _ => (sSeq (sAsg (sCB rcTuple (sCons (sLc (siT sVar) (gwName List.mem_cons_self) (fun _ _ _ => sName) (fun _ _ _ => sYes) (fun _ _ _ => (sCall (sCons sVar (sCons sVar (sCons sVar sNil)))))) sNil)) sName)
      (sSeq (sAsg (sCall (sCons sVar (sCons (sSlT sVar (sPart sInt) sNoPart) (sCons sVar sNil)))) sName)
      (sIfS (sTest (sOp roNotN sVar sNon)) (sRet (sOp roCatT (sTup (sCons (sTup (sCons sVar (sCons sVar sNil))) sNil)) sVar)) sNext)))))
      (sRet sNon)))))⟩) (fun ds μ Φ Ψ h => ?hv)
  case hv =>
    obtain ⟨ws, oc, lo, lo', nd, s, u, rfl, hw, hs, hu, ps, pu, hnd, hn, h20, d1, d2, h⟩ := h
    have side : ∀ t : QT, qDep t ≤ 20 → EqSide (qD t) := fun t ht => ⟨eqOk_q t, by have := dpt_q t; omega⟩
    refine seq_cut fun M hM => ?_
    walk_at "wp"
    refine ⟨side s d1, side u d2, _, rfl, fun e => ?_, fun e => ?_⟩
    · rw [eqD_q] at e
      have e := @of_decide_eq_true _ (_) e
      rw [e, pp_same] at h
      exact ret_same h
    rw [eqD_q] at e
    have e := @of_decide_eq_false _ (_) e
    rw [hM]; clear hM M
    refine seq_cut fun M hM => ?_
    walk_at "wp"
    rw [nI_len]
    cases nd with
    | nil =>
      rw [pp, if_neg e] at h
      refine ⟨fun _ => ⟨by omega, ret_same h⟩, fun z => absurd rfl z⟩
    | cons p nd =>
      have hw4 := hw.wd1 p
      rw [pp, if_neg e] at h
      refine ⟨fun z => by simp at z; omega, fun _ => ?_⟩
      rw [hM]; clear hM M
      refine seq_cut fun M hM => ?_
      walk_at "wp"
      refine ⟨_, atI_nat (j := 0) (v := .int (p : Int)) rfl, ?_⟩
      rw [hM]; clear hM M
      refine seq_cut fun M hM => ?_
      walk_at "wp"
      obtain ⟨nd1, nd2⟩ := List.pairwise_cons.mp hnd
      have pps : ∀ q ∈ p :: nd, p ≤ q := fun q hq => by
        rcases List.mem_cons.mp hq with z | z
        · omega
        · have := nd1 q z; omega
      refine ⟨ws, p, rfl, hw, _, rfl, by omega, by omega, ?_⟩
      rw [Int.toNat_natCast]
      rw [List.length_cons] at hn h20
      refine ⟨fun i δ' μ' => μ' = μ ∧ (∃ x4 x5 x6 x7, δ' = [some (.tup [qD s, qD u]), some (.tup (nI (p :: nd))), some (.tup (ws.map .int)), some (.int (p : Int)), x4, x5, x6, x7]) ∧ ∀ y, y < i → ((List.range (wd ws p)).map fun x => pp ws nd (pb p x s) (pb p x u))[y]? = some none, ⟨rfl, ⟨none, none, none, none, rfl⟩, fun y hy => by omega⟩, ?_, ?_⟩
      · rintro x d δ' μ' hi ⟨rfl, ⟨x4, x5, x6, x7, rfl⟩, hy⟩
        obtain ⟨hx, rfl⟩ := rngD_get hi
        obtain ⟨a1, a2⟩ := pb_is hs hx fun q hq => pps q (ps q hq)
        obtain ⟨b1, b2⟩ := pb_is hu hx fun q hq => pps q (pu q hq)
        have h1 := pb_dep p x s
        have h2 := pb_dep p x u
        refine seq_cut fun N hN => ?_
        walk_at "wp"
        refine lcM (l := [(s, lo), (u, lo')]) (G := fun z => qD z.1) (fun z => qD (pb p x z.1)) (by simp) (fun z μ2 X hz hsub hx2 => ?_) ?_
        · walk_at "wp"
          rcases List.mem_cons.mp hz with e | e
          · subst e; exact ⟨ws, oc, _, p, x, _, rfl, hs, hx, hx2⟩
          · rw [List.mem_singleton] at e; subst e; exact ⟨ws, oc, _, p, x, _, rfl, hu, hx, hx2⟩
        refine ⟨_, .lst _, ?_⟩
        rw [hN]; clear hN N
        refine seq_cut fun N hN => ?_
        walk_at "wp"
        have ec : DW.cutD (nI (p :: nd)) (some 1) none = nI nd := by rw [show (1 : Int) = ((1 : Nat) : Int) from rfl, cut_from]; rfl
        rw [ec]
        refine ⟨ws, oc, _, _, nd, pb p x s, pb p x u, rfl, hw, a1, b1, fun q hq => ?_, fun q hq => ?_, nd2, by omega, by omega, by omega, by omega, ?_⟩
        · rcases List.mem_cons.mp (ps q (a2 q hq).1) with z | z
          · exact absurd z (a2 q hq).2
          · exact z
        · rcases List.mem_cons.mp (pu q (b2 q hq).1) with z | z
          · exact absurd z (b2 q hq).2
          · exact z
        show N _ μ'
        rw [hN]; clear hN N
        have hp : ((List.range (wd ws p)).map fun x => pp ws nd (pb p x s) (pb p x u))[x]? = some (pp ws nd (pb p x s) (pb p x u)) := by rw [List.getElem?_map, List.getElem?_range hx]; rfl
        cases e2 : pp ws nd (pb p x s) (pb p x u) with
        | none =>
          rw [e2] at hp
          unfold optP
          walk_at "wp"
          refine ⟨⟨_, _, _, _, rfl⟩, fun y hy2 => ?_⟩
          by_cases c : y = x
          · rw [c]; exact hp
          · exact hy y (by omega)
        | some path =>
          rw [e2] at hp
          rw [pick_at hy hp, Nat.zero_add] at h
          have pl := pp_len _ _ _ _ e2
          unfold optP pthD
          walk_at "wp"
          exact ⟨by omega, by omega, by omega, ret_same h⟩
      · rintro δ' μ' ⟨rfl, ⟨x4, x5, x6, x7, rfl⟩, hy⟩
        rw [pick_none (by rw [List.length_map, List.length_range]; exact hy)] at h
        rw [hM]; clear hM M
        walk_at "wps"
        exact ret_same h
section
variable {P : Program} {w : World} {K : Fg} {mg : Str → Option Value} {base : Heap}
theorem okN_parting_path (T : Txt P w K mg) : ∀ n, FnOk P w K mg base (L2N.CX P w) (4 + n) T.f_parting_path T.d_parting_path ["terms", "needed", "widths"] (spOf K (c_parting_path n))
  | 0 => fn_never fun ds μ Φ Ψ h => by obtain ⟨_, _, _, _, _, _, _, _, _, _, _, _, _, _, h, _⟩ := h; omega
  | n + 1 => step_parting_path T (k := 4 + n) (by omega) n (okN_parting_path T n)
theorem ok_parting_path (T : Txt P w K mg) : FnOk P w K mg base (L2N.CX P w) 30 T.f_parting_path T.d_parting_path ["terms", "needed", "widths"] (spOf K (c_parting_path 21)) := (okN_parting_path T 21).mono (by decide)
end
def c_parting_row (C R S L : Addr) : Con := fun ds μ Φ Ψ => ∃ (ws ws' : List Int) (oc oc' : Nat) (ps ps' : List Nat) (t t' : QT), ds = [qO C t ws oc, qO C t' ws' oc'] ∧ QFit ws oc ps t ∧ QFit ws' oc' ps' t' ∧
  (ws ≠ ws' → Ψ (.mk S none) μ) ∧ (ws = ws' → oc' ≠ oc → Ψ (.mk S none) μ) ∧ (ws = ws' → oc' = oc → ∀ nd : List Nat, nd.Pairwise (· < ·) → (∀ q, q ∈ nd ↔ q ∈ qPl (stl ws t) ∨ q ∈ qPl (stl ws t')) →
    (256 < wpr ws nd → Ψ (.mk L none) μ) ∧ (wpr ws nd ≤ 256 → Φ (optR R (pp ws nd (stl ws t) (stl ws t'))) μ))
theorem len_parting_row {C R S L ds μ Φ Ψ} (h : c_parting_row C R S L ds μ Φ Ψ) : ds.length = 2 := by obtain ⟨_, _, _, _, _, _, _, _, rfl, _⟩ := h; rfl
theorem nodup_leN : ∀ {l m : List Nat}, l.Nodup → (∀ x ∈ l, x ∈ m) → l.length ≤ m.length
  | [], m, _, _ => Nat.zero_le _
  | x :: l, m, nd, h => by
    have hx := h x List.mem_cons_self
    obtain ⟨n1, n2⟩ := List.nodup_cons.mp nd
    have := nodup_leN (m := m.erase x) n2 fun y hy => (List.mem_erase_of_ne (fun (e : y = x) => n1 (by rw [← e]; exact hy))).mpr (h y (List.mem_cons_of_mem _ hy))
    rw [List.length_erase_of_mem hx] at this
    have := List.length_pos_of_mem hx
    rw [List.length_cons]
    omega
theorem wpr_le {ws : List Int} (hw : WsOk ws) : ∀ l : List Nat, wpr ws l ≤ 4 ^ l.length
  | [] => Nat.le_refl _
  | p :: l => by
    have := wpr_le hw l
    have h4 := (hw.wd1 p).2
    rw [wpr, List.length_cons, Nat.pow_succ, Nat.mul_comm (4 ^ l.length)]
    exact Nat.mul_le_mul h4 this
theorem pp_inc {ws : List Int} : ∀ (nd : List Nat) (s u : QT) (path : List (Nat × Nat)), nd.Pairwise (· < ·) → pp ws nd s u = some path → (path.map (·.1)).Pairwise (· < ·)
  | [], s, u, path, hn, h => by
    rw [pp] at h
    split at h
    · cases h
    · cases h; exact .nil
  | p :: nd, s, u, path, hn, h => by
    obtain ⟨n1, n2⟩ := List.pairwise_cons.mp hn
    rw [pp] at h
    split at h
    · cases h
    · obtain ⟨x, q, h1, rfl, _⟩ := pickP_cases h
      rw [List.getElem?_map] at h1
      obtain ⟨y, hy, e⟩ := Option.map_eq_some_iff.mp h1
      refine List.pairwise_cons.mpr ⟨fun a ha => ?_, pp_inc nd _ _ q n2 e⟩
      obtain ⟨z, hz, rfl⟩ := List.mem_map.mp ha
      exact n1 _ (pp_keys nd _ _ q e z hz)
theorem ok_parting_row (T : Txt P w K mg) : FnOk P w K mg base (L2N.CX P w) 63 T.f_parting_row T.d_parting_row ["first", "second"] (spOf K (c_parting_row T.c_Query T.c_Row T.c_SizeMismatch T.c_TooLarge)) := by
  refine def_okC T.F_parting_row sc_parting_row _ (fun ds μ Φ Ψ h => len_parting_row h) (fun cdv A outer s H E B hW hr =>
    have tk : L2N.Takes (cxOf (L2N.CX P w) P w K mg base N_parting_row "parting_row" (defScope s_parting_row) T.f_parting_row cdv A outer s H E) (fun cls d _ H => E cls d H) := L2N.takes_of rfl rfl rfl rfl
    ⟨_, (pss_cons (ps_expr (pe_callS (ok_require_same_widths T) (hr.mono (by decide)) rfl T.g_require_same_widths T.F_require_same_widths.kp T.b_require_same_widths (fun σ => L2N.passAt tk σ) (pa_cons (pv 0) (pa_cons (pv 1) pa_nil))))
      (pss_cons (ps_expr (pe_callS (ok_require_same_outcomes T) (hr.mono (by decide)) rfl T.g_require_same_outcomes T.F_require_same_outcomes.kp T.b_require_same_outcomes (fun σ => L2N.passAt tk σ) (pa_cons (pv 0) (pa_cons (pe_tupN (pa_cons (pv 1) pa_nil)) pa_nil))))
      (pss_cons (ps_set (i := 2) sc_parting_row.nd rfl (Or.inl rfl) (pe_tupN (pa_cons (pe_call (ok_settled_term T) (hr.mono (by decide)) rfl T.g_settled_term T.F_settled_term.kp T.b_settled_term .nil passN (pa_cons (pv 0) pa_nil)) (pa_cons (pe_call (ok_settled_term T) (hr.mono (by decide)) rfl T.g_settled_term T.F_settled_term.kp T.b_settled_term .nil passN (pa_cons (pv 1) pa_nil)) pa_nil))))
      (pss_cons (ps_set (i := 3) sc_parting_row.nd rfl (Or.inl rfl) (pe_call (ok_ascending T) (hr.mono (by decide)) rfl T.g_ascending T.F_ascending.kp T.b_ascending .nil passN (pa_cons (pe_lc2 (own := [("term", 4), ("place", 5)]) (vs1 := [5]) rfl sc_parting_row.nd (pi_tup (pv 2)) (blkOk_by (N := N_parting_row) (sc := defScope s_parting_row) (by decide +kernel)) (by decide) (fun _ _ _ _ _ => (pg_name (i := 4) sc_parting_row.nd rfl (Or.inl rfl))) (fun _ _ _ _ _ => pts_nil) (fun _ _ _ _ _ => (pi_list (pe_call (ok_places_of T) (hr.mono (by decide)) (by rfl) T.g_places_of T.F_places_of.kp T.b_places_of .nil passN (pa_cons (pv 4) pa_nil)))) (fun _ _ _ _ _ => (pg_name (i := 5) sc_parting_row.nd rfl (Or.inl rfl))) (fun _ _ _ _ _ => pts_nil) (fun _ _ _ _ _ => (pv 5))) pa_nil)))
      (pss_cons (ps_if (pt_cmpR op_gt (pe_call (ok_count_choices_L T) (hr.mono (by decide)) rfl T.g_count_choices T.F_count_choices.kp T.b_count_choices .nil passN (pa_cons (pe_lc (own := [("place", 5)]) rfl sc_parting_row.nd (pi_tup (pv 3)) (blkOk_by (N := N_parting_row) (sc := defScope s_parting_row) (by decide +kernel)) (fun _ _ _ _ _ => (pg_name (i := 5) sc_parting_row.nd rfl (Or.inl rfl))) (fun _ _ _ _ _ => pts_nil) (fun _ _ _ _ _ => (pe_call (ok_width_at T) (hr.mono (by decide)) rfl T.g_width_at T.F_width_at.kp T.b_width_at .nil passN (pa_cons (pe_fld (pv 0) rfl) (pa_cons (pv 5) pa_nil))))) pa_nil)) (ClX.pe_cval (pe_glob (v := .ref T.c_Query) rfl T.g_Query rfl)) (nomark _)) (pss_one (L2N.ps_raise rfl tk (L2N.pmk_own PySem.F.excBase_ValueError T.x_TooLarge T.g_TooLarge T.k_TooLarge (raises_own T.e_TooLarge T.t_TooLarge) rfl))) pss_nil)
      (pss_one (ps_ret (pe_call (ok_first_row T) (hr.mono (by decide)) rfl T.g_first_row T.F_first_row.kp T.b_first_row .nil passN (pa_cons (pe_call (ok_parting_path T) (hr.mono (by decide)) rfl T.g_parting_path T.F_parting_path.kp T.b_parting_path .nil passN (pa_cons (pv 2) (pa_cons (pv 3) (pa_cons (pe_fld (pv 0) rfl) pa_nil)))) pa_nil))))))))),
      (sSeq (sDrop (sCallSW (W := fun cls d _ H => E cls d H) (by exact hW) (sCons sVar (sCons sVar sNil))))
      (sSeq (sDrop (sCallSW (W := fun cls d _ H => E cls d H) (by exact hW) (sCons sVar (sCons (sTup (sCons sVar sNil)) sNil))))
      (sSeq (sAsg (sTup (sCons (sCall (sCons sVar sNil)) (sCons (sCall (sCons sVar sNil)) sNil))) sName)
      (sSeq (sAsg (sCall (sCons (sLc2 (siT sVar) (gwName List.mem_cons_self) (gwName List.mem_cons_self) (fun _ _ _ => sName) (fun _ _ _ => sYes) (fun _ _ _ => (siL (sCall (sCons sVar sNil)))) (fun _ _ _ => sName) (fun _ _ _ => sYes) (fun _ _ _ => sVar)) sNil)) sName)
      (sSeq (sIfS (sTest (sOp roBl0 (sCall (sCons (sLc (siT sVar) (gwName List.mem_cons_self) (fun _ _ _ => sName) (fun _ _ _ => sYes) (fun _ _ _ => (sCall (sCons (sFldO (NS := NS_Query) (i := 1) T.cls_Query T.na_Query_widths rfl (by decide) sVar) (sCons sVar sNil))))) sNil)) (sCVal (n := 256) T.rd_Query T.cv_Query_MOST_CHOICES sHd))) (sRaise0W (W := fun cls d _ H => E cls d H) (C := T.c_TooLarge) (by exact hW)) sNext)
      (sRet (sCall (sCons (sCall (sCons sVar (sCons sVar (sCons (sFldO (NS := NS_Query) (i := 1) T.cls_Query T.na_Query_widths rfl (by decide) sVar) sNil)))) sNil))))))))⟩) (fun ds μ Φ Ψ h => ?hv)
  case hv =>
    obtain ⟨ws, ws', oc, oc', ps, ps', t, t', rfl, hf, hf', h1, h2, h3⟩ := h
    have S1 := stl_of hf
    have d8 := S1.dp
    refine seq_cut fun M hM => ?_
    walk_at "wp"
    refine ⟨ws, ws', oc, oc', t, t', rfl, fun e => ?_, fun e => ⟨_, Sub.refl, h1 e⟩⟩
    subst e
    have h2 := h2 rfl
    have h3 := h3 rfl
    have S2 := stl_of hf'
    have d8' := S2.dp
    have ln1 := S1.ln
    have ln2 := S2.ln
    have m1 := hf.most
    have m2 := hf'.most
    show M _ μ
    rw [hM]; clear hM M
    refine seq_cut fun M hM => ?_
    walk_at "wp"
    refine ⟨by omega, ws, ws, oc, oc', t, t', rfl, fun e => ?_, fun e => ⟨_, Sub.refl, h2 e⟩⟩
    subst e
    have h3 := h3 rfl
    show M _ μ
    rw [hM]; clear hM M
    refine seq_cut fun M hM => ?_
    walk_at "wp"
    refine ⟨ws, oc', ps, t, rfl, hf, ws, oc', ps', t', rfl, hf', by omega, ?_⟩
    rw [hM]; clear hM M
    refine seq_cut fun M hM => ?_
    walk_at "wp"
    generalize hts : [stl ws t, stl ws t'] = ts
    have e0 : [qD (qSt ws 300 t), qD (qSt ws 300 t')] = qDs ts := by rw [← hts]; rfl
    have tl2 : ts.length = 2 := by rw [← hts]; rfl
    have tsI : ∀ u ∈ ts, QOk ws oc' u ∧ qDep u ≤ 20 ∧ (qPl u).length ≤ 255 := fun u hu => by
      rw [← hts] at hu
      rcases List.mem_cons.mp hu with z | z
      · rw [z]; exact ⟨S1.is.ok, by omega, ln1⟩
      · rw [List.mem_singleton.mp z]; exact ⟨S2.is.ok, by omega, ln2⟩
    have eall : qPl.qPls ts = qPl (stl ws t) ++ qPl (stl ws t') := by rw [← hts, qPl.qPls, qPl.qPls, qPl.qPls, List.append_nil]
    have lall : (qPl.qPls ts).length ≤ 510 := by rw [eall, List.length_append]; omega
    rw [e0]
    have e1 : (qDs ts).length = ts.length := qDs_len ts
    have hcol : ∀ i, i < ts.length → (qPl (ts.getD i (.tell 0))).length ≤ 255 := fun i hi => by
      rw [List.getD_eq_getElem?_getD, List.getElem?_eq_getElem hi]
      exact (tsI _ (List.getElem_mem hi)).2.2
    refine lcG2_pure (fun i => nI (qPl (ts.getD i (.tell 0)))) (fun i j => .int (((qPl (ts.getD i (.tell 0))).getD j 0 : Nat) : Int)) (fun i hi => ?_) (fun i => ?_) (fun i d μ2 X hi hsub hx => ?_) (fun i d j d1 μ2 X hi hj hsub hx => ?_) ?_
    · rw [e1] at hi
      rw [nI_flat ts i hi, nI_len]
      have := qpls_take ts i
      omega
    · rw [nI_len]
      by_cases hi : i < ts.length
      · have := hcol i hi
        omega
      · rw [List.getD_eq_getElem?_getD, List.getElem?_eq_none (by omega)]
        show ([] : List Nat).length ≤ 50000
        decide
    · obtain ⟨hil, rfl⟩ := qDs_get hi
      obtain ⟨q1, q2, q3⟩ := tsI _ (List.getElem_mem hil)
      walk_at "wps"
      refine ⟨ws, oc', ts[i], rfl, q1, by omega, by omega, ?_⟩
      rw [List.getD_eq_getElem?_getD, List.getElem?_eq_getElem hil] at hx
      exact ⟨_, rfl, hx⟩
    · obtain ⟨hjl, rfl⟩ := nI_get hj
      walk_at "wps"
      rw [List.getD_eq_getElem?_getD, List.getElem?_eq_getElem hjl] at hx
      exact hx
    rw [e1, nI_flat ts _ (Nat.le_refl _), List.take_length, eall]
    refine ⟨_, ps ++ ps', rfl, by rw [List.length_append]; omega, by rw [List.length_append]; omega, fun q hq => ?_, fun nd n1 n2 => ?_⟩
    · rcases List.mem_append.mp hq with z | z
      · exact List.mem_append_left _ (hf.pl q (S1.pl q z))
      · exact List.mem_append_right _ (hf'.pl q (S2.pl q z))
    have n3 : ∀ q, q ∈ nd ↔ q ∈ qPl (stl ws t) ∨ q ∈ qPl (stl ws t') := fun q => by rw [n2, List.mem_append]
    obtain ⟨h4, h5⟩ := h3 nd n1 n3
    have ndl : nd.length ≤ 16 := by
      have nn : nd.Nodup := n1.imp fun z => by omega
      have := nodup_leN nn (m := ps ++ ps') fun q hq => by
        rcases (n3 q).mp hq with z | z
        · exact List.mem_append_left _ (hf.pl q (S1.pl q z))
        · exact List.mem_append_right _ (hf'.pl q (S2.pl q z))
      rw [List.length_append] at this
      omega
    show M _ μ
    rw [hM]; clear hM M
    refine seq_cut fun M hM => ?_
    unfold qO
    walk_at "wp"
    have hw := hf.w
    have wl := wpr_le hw nd
    have w2 : 4 ^ nd.length ≤ 4 ^ 16 := Nat.pow_le_pow_right (by decide) ndl
    refine lcM (l := nd) (G := fun (p : Nat) => D.int (p : Int)) (fun p => .int (wd ws p : Int)) (by omega) (fun p μ2 X hp hsub hx => ?_) ?_
    · walk_at "wp"
      exact ⟨ws, p, rfl, hw, hx⟩
    refine ⟨nd.map fun (p : Nat) => (wd ws p : Int), by rw [List.map_map]; rfl, fun i z hz => ?_, ?_⟩
    · rw [List.getElem?_map] at hz
      obtain ⟨q, _, rfl⟩ := Option.map_eq_some_iff.mp hz
      rw [← List.map_take, prod_wpr]
      have h1 := wpr_le hw (nd.take i)
      have h2 : 4 ^ (nd.take i).length ≤ 4 ^ 16 := Nat.pow_le_pow_right (by decide) (by rw [List.length_take]; omega)
      have h3 := hw.wd1 q
      have h6 : (4 : Nat) ^ 16 < 2 ^ 40 := by decide
      exact mulx 40 3 (by omega) (by omega) (by decide)
    rw [prod_wpr]
    walk_at "wp"
    refine ⟨fun z => ⟨_, Sub.refl, h4 (by omega)⟩, fun z => ?_⟩
    have h5 := h5 (by omega)
    rw [hM]; clear hM M
    walk_at "wps"
    subst hts
    have pin : ∀ q ∈ nd, q < 100 := fun q hq => by
      rcases (n3 q).mp hq with z | z
      · exact S1.p100 q z
      · exact S2.p100 q z
    refine ⟨ws, oc', 0, 0, nd, stl ws t, stl ws t', rfl, hw, S1.is, S2.is, fun q hq => (n3 q).mpr (.inl hq), fun q hq => (n3 q).mpr (.inr hq), n1, by omega, by omega, by omega, by omega, ?_⟩
    exact ⟨pp ws nd (stl ws t) (stl ws t'), rfl, fun path e => ⟨(pp_inc nd _ _ path n1 e).imp fun z => by omega, fun z hz => pin _ (pp_keys nd _ _ path e z hz), by have := pp_len nd _ _ path e; omega⟩, ret_same h5⟩
end
section
variable {P : Program} {w : World} {K : Fg} {mg : Str → Option Value} {base : Heap}
theorem nI_at {ss : List Nat} {i : Nat} (h : i < ss.length) : atI (nI ss) (i : Int) = some (.int ((ss[i] : Nat) : Int)) := by
  rw [atI_nat]
  unfold nI
  rw [List.getElem?_map, List.getElem?_eq_getElem h]; rfl
theorem nI_map {α : Type} (f : α → Nat) (l : List α) : nI (l.map f) = l.map fun a => D.int ((f a : Nat) : Int) := by unfold nI; rw [List.map_map]; rfl
/-- the needed places, as the law finds them -/
def ndl (ws : List Int) (T : List Nat) : List Nat → List Nat
  | [] => []
  | p :: B => if (List.range T.length).any (ndB (fun q => T.getD q 0) (wd ws p) (hs ws B).length) then p :: ndl ws T B else ndl ws T B
def c__law_needed : Con := fun ds μ Φ _ => ∃ (ws : List Int) (ps T : List Nat), ds = [.tup (ws.map .int), .lst (nI ps), .lst (nI T)] ∧ WsOk ws ∧ ps.length ≤ 8 ∧ T.length = (hs ws ps).length ∧ T.length ≤ 256 ∧ Φ (.tup (nI (ndl ws T ps))) μ
theorem len__law_needed {ds μ Φ Ψ} (h : c__law_needed ds μ Φ Ψ) : ds.length = 3 := by obtain ⟨_, _, _, rfl, _⟩ := h; rfl
theorem nd_in {q n w A : Nat} (hn : 0 < n) (hw : 0 < w) (hq : q < A * (w * n)) (hx : (q / n) % w < w - 1) : q + n < A * (w * n) := by
  have h1 : q / n < A * w := by rw [Nat.div_lt_iff_lt_mul hn, Nat.mul_assoc]; exact hq
  have h2 : q / n / w < A := (Nat.div_lt_iff_lt_mul hw).mpr h1
  have e1 := Nat.div_add_mod q n
  have e2 := Nat.div_add_mod (q / n) w
  have h3 := Nat.mod_lt q hn
  generalize q / n = Q at *
  generalize q % n = b at *
  generalize Q / w = D at *
  have h4 : w * (D + 1) ≤ w * A := Nat.mul_le_mul_left _ h2
  rw [Nat.mul_add, Nat.mul_one] at h4
  have h5 : n * (Q + 2) ≤ n * (w * A) := Nat.mul_le_mul_left _ (by omega)
  rw [Nat.mul_add] at h5
  have e3 : A * (w * n) = n * (w * A) := by rw [Nat.mul_comm A, Nat.mul_comm w n, Nat.mul_assoc]
  rw [e3]
  omega
theorem any_lc {n : Nat} {p : Nat → Bool} {μ : Sto} {Φ : DK} (h : Φ (.bl ((List.range n).any p)) μ) : cAny [.lst ((List.range n).map fun q => D.bl (p q))] μ Φ := by
  rw [show ((List.range n).map fun q => D.bl (p q)) = ((List.range n).map p).map D.bl by rw [List.map_map]; rfl, w_any, List.any_map]
  exact h
theorem ok__law_needed {cx : CXT} (T : Txt P w K mg) : FnOk P w K mg base cx 2 T.f__law_needed T.d__law_needed ["_law_widths_here", "_law_places", "_law_told"] (spOf K c__law_needed) := by
  refine def_okC T.F__law_needed sc__law_needed _ (fun ds μ Φ Ψ h => len__law_needed h) (fun cdv A outer s H E B hW hr =>
    ⟨_, (pss_cons (ps_set (i := 3) sc__law_needed.nd rfl (Or.inl rfl) (pe_lst pa_nil))
      (pss_cons (ps_set (i := 4) sc__law_needed.nd rfl (Or.inr rfl) (pe_callB call_len_seq (by rfl) T.z_len PySem.boot_len (pa_cons (pv 2) pa_nil)))
      (pss_cons (ps_for (passes_of rfl) rfl (pi_list (pv 1)) (pg_name (i := 5) sc__law_needed.nd rfl (Or.inl rfl)) (pss_cons (ps_set (i := 6) sc__law_needed.nd rfl (Or.inr rfl) (pe_call (ok__law_width T) hr rfl T.g__law_width T.F__law_width.kp T.b__law_width .nil passN (pa_cons (pv 0) (pa_cons (pv 5) pa_nil))))
      (pss_cons (ps_set (i := 4) sc__law_needed.nd rfl (Or.inr rfl) (pe_op op_fdivW (pv 4) (pv 6)))
      (pss_one (ps_if (pt_val (pe_callB (cr_any rfl) (by rfl) T.z_any (by decide +kernel) (pa_cons (pe_lc (own := [("_law_p", 7)]) rfl sc__law_needed.nd (pi_range1 rfl T.z_range (pa_cons (pe_callB call_len_seq (by rfl) T.z_len PySem.boot_len (pa_cons (pv 2) pa_nil)) pa_nil)) (blkOk_by (N := N__law_needed) (sc := defScope s__law_needed) (by decide +kernel)) (fun _ _ _ _ _ => (pg_name (i := 7) sc__law_needed.nd rfl (Or.inl rfl))) (fun _ _ _ _ _ => pts_nil) (fun _ _ _ _ _ => (pe_and (pe_cmpR op_lt (pe_op op_mod (pe_callTy call_int1 (by rfl) T.z_int (by decide +kernel) (pa_cons (pe_op op_fdivW (pv 7) (pv 4)) pa_nil)) (pv 6)) (pe_op op_sub (pv 6) pe_int) (nomark _)) (pe_one (pe_cmpR op_ne (pe_ix ix_list (pv 2) (pv 7) (fun _ _ => rfl)) (pe_ix ix_list (pv 2) (pe_op op_add (pv 7) (pv 4)) (fun _ _ => rfl)) (nomark _)))))) pa_nil))) (pss_one (ps_expr (pe_bm PySem.F.plainAttrs_list PySem.F.slot_list_append PySem.F.type_list_append mt_append (pv 3) (pa_cons (pv 5) pa_nil)))) pss_nil)))))
      (pss_one (ps_ret (pe_callTy call_tupleN (by rfl) T.z_tuple (by decide +kernel) (pa_cons (pv 3) pa_nil))))))),
      (sSeq (sAsg (sOwn sNil) sName)
      (sSeq (sAsg (sCB rcLen (sCons sVar sNil)) sName)
      (sSeq (sFor (siL sVar) (fun _ _ _ => sName) (fun _ _ _ => (sSeq (sAsg (sCall (sCons sVar (sCons sVar sNil))) sName)
      (sSeq (sAsg (sOp roInt sVar sVar) sName)
      (sIfS (sB (sCB rcAny (sCons (sLc (siR1 (sCB rcLen (sCons sVar sNil))) (gwName List.mem_cons_self) (fun _ _ _ => sName) (fun _ _ _ => sYes) (fun _ _ _ => (sAndV (sOp roBl0 (sOp roInt (sCB rcInt (sCons (sOp roInt sVar sVar) sNil)) sVar) (sOp roInt0 sVar sInt)) (sOp roNe (sOp roIxL sVar sVar) (sOp roIxL sVar (sOp roInt0 sVar sVar)))))) sNil))) (sDrop (sApp sVar sVar)) sNext)))))
      (sRet (sCB rcTuple (sCons sVar sNil))))))⟩) (fun ds μ Φ Ψ h => ?hv)
  case hv =>
    obtain ⟨ws, ps, T', rfl, hw, h8, hT, hT2, h⟩ := h
    refine seq_cut fun M hM => ?_
    walk_at "wp"
    refine ⟨by omega, fun a ha => ?_⟩
    rw [hM]; clear hM M
    refine seq_cut fun M hM => ?_
    walk_at "wp"
    rw [hM]; clear hM M
    refine seq_cut fun M hM => ?_
    walk_at "wp"
    refine ⟨fun i δ' μ' => ∃ (acc : List Nat) (x5 x6 x7 : Option D), δ' = [some (.tup (ws.map .int)), some (.lst (nI ps)), some (.lst (nI T')), some (.hd (.ref a)), some (.int ((hs ws (ps.drop i)).length : Int)), x5, x6, x7] ∧ μ' = sset μ a (.lst (nI acc)) ∧ acc ++ ndl ws T' (ps.drop i) = ndl ws T' ps ∧ acc.length ≤ i,
      ⟨[], none, none, none, by rw [List.drop_zero, nI_len, hT], rfl, rfl, Nat.le_refl _⟩, ?_, ?_⟩
    · rintro i d δ' μ' hi ⟨acc, x5, x6, x7, rfl, rfl, he, hal⟩
      obtain ⟨hil, rfl⟩ := nI_get hi
      have ed : ps.drop i = ps[i] :: ps.drop (i + 1) := List.drop_eq_getElem_cons hil
      have hw1 := hw.wd1 ps[i]
      have pB := hs_pos hw (ps.drop (i + 1))
      have hN : T'.length = (hs ws (ps.take i)).length * (wd ws ps[i] * (hs ws (ps.drop (i + 1))).length) := by
        rw [hT, ← hs_len_cons, ← ed, ← hs_len_app, List.take_append_drop]
      rw [ed, hs_len_cons]
      rw [ed, ndl] at he
      generalize hB : (hs ws (ps.drop (i + 1))).length = n at *
      generalize hwd : wd ws ps[i] = wp at *
      have hmul : wp * n ≤ 256 := by
        have h1 : 1 * (wp * n) ≤ (hs ws (ps.take i)).length * (wp * n) := Nat.mul_le_mul_right _ (hs_pos hw _)
        omega
      have hn256 : n ≤ 256 := Nat.le_trans (Nat.le_mul_of_pos_left n (by omega)) hmul
      have hdiv : ((wp * n : Nat) : Int) / (wp : Int) = (n : Int) := by
        rw [← Int.natCast_ediv, Nat.mul_div_cancel_left _ (by omega)]
      refine seq_cut fun N hN2 => ?_
      walk_at "wp"
      refine ⟨ws, ps[i], rfl, hw, ?_⟩
      rw [hwd]
      show N _ _
      rw [hN2]; clear hN2 N
      refine seq_cut fun N hN2 => ?_
      walk_at "wp"
      rw [hdiv]
      refine ⟨⟨by omega, log_small (by omega)⟩, ?_⟩
      rw [hN2]; clear hN2 N
      walk_at "wp"
      rw [nI_len]
      refine ⟨by omega, by omega, ?_⟩
      refine lcR (fun q => .bl (ndB (fun q => T'.getD q 0) wp n q)) (by omega) (fun q μ2 X hq hsub hx => ?_) ?_
      · walk_at "wp"
        have ec : ((q : Int) / (n : Int)) % (wp : Int) = (((q / n) % wp : Nat) : Int) := by rw [Int.natCast_emod, Int.natCast_ediv]
        rw [ec]
        refine ⟨⟨by omega, log_small (n := n) (by omega)⟩, by omega, fun c1 => ?_, fun c1 => ?_⟩
        · have c2 : (q / n) % wp < wp - 1 := by omega
          have hq2 : q + n < T'.length := by rw [hN] at hq ⊢; exact nd_in pB (by omega) hq c2
          refine ⟨_, nI_at hq, _, by rw [← Int.natCast_add]; exact nI_at hq2, ?_⟩
          rw [ndB, decide_eq_true c2, Bool.true_and, List.getD_eq_getElem?_getD, List.getElem?_eq_getElem hq, List.getD_eq_getElem?_getD, List.getElem?_eq_getElem hq2] at hx
          walk_at "wp"
          rw [show decide (((T'[q] : Nat) : Int) = ((T'[q + n] : Nat) : Int)) = decide (T'[q] = T'[q + n]) by rw [decide_eq_decide]; exact Int.ofNat_inj]
          simpa using hx
        · have c2 : ¬ (q / n) % wp < wp - 1 := fun z => c1 (by omega)
          rw [ndB, decide_eq_false c2, Bool.false_and] at hx
          exact hx
      · refine any_lc ?_
        refine ⟨_, rfl, fun c1 => ⟨_, sset_same, _, sset_same, by rw [nI_len]; omega, acc ++ [ps[i]], _, _, _, by rw [hB], ?_, ?_, by rw [List.length_append, List.length_singleton]; omega⟩, fun c1 => ⟨acc, _, _, _, by rw [hB], rfl, ?_, by omega⟩⟩
        · rw [sset_sset]
          unfold nI
          rw [List.map_append]
          rfl
        · rw [if_pos c1] at he
          rw [← he]
          simp
        · rw [if_neg (by rw [c1]; decide)] at he
          exact he
    · rintro δ' μ' ⟨acc, x5, x6, x7, rfl, rfl, he, hal⟩
      rw [nI_len, List.drop_length, ndl, List.append_nil] at he
      subst he
      rw [hM]; clear hM M
      walk_at "wps"
      exact ⟨μ, Sub.set Sub.refl ha, h⟩
theorem hs_snoc {ws : List Int} {A l : List Nat} {p x : Nat} (h : l ∈ hs ws A) (hx : x < wd ws p) : l ++ [x] ∈ hs ws (A ++ [p]) := by
  obtain ⟨h1, h2⟩ := hs_mem.mp h
  refine hs_mem.mpr ⟨by rw [List.length_append, List.length_append, h1]; rfl, fun i hi => ?_⟩
  rw [List.length_append, List.length_singleton] at hi
  rw [List.getD_eq_getElem?_getD]
  by_cases c : i < A.length
  · rw [List.getElem?_append_left (by omega), List.getElem_append_left c, ← List.getD_eq_getElem?_getD]; exact h2 i c
  · have e : i = A.length := by omega
    subst e
    rw [List.getElem?_append_right (by omega), List.getElem_append_right (by omega), h1]
    simp only [Nat.sub_self]
    exact hx
theorem qA_lt2 {ws : List Int} {oc : Nat} {f : Nat → Nat} (hf : ∀ q, f q < wd ws q) : ∀ (t : QT), QOk ws oc t → qA f t < oc := fun t => by
  induction t using QT.ind with
  | h1 o => intro h; exact h
  | h2 p ts ih =>
    intro h
    obtain ⟨_, h2, h3⟩ := h
    rw [qoks_iff] at h3
    have hx : f p < ts.length := by rw [h2]; exact hf p
    rw [qA_look (List.getElem?_eq_getElem hx)]
    exact ih _ (List.getElem_mem hx) (h3 _ (List.getElem_mem hx))
/-- a term told anew, place by place -/
def rtQ (ws : List Int) (t : QT) : List Nat → List Nat → List Nat → QT
  | A, [], l => .tell (tl t A l)
  | A, p :: B, l => .look p ((List.range (wd ws p)).map fun x => rtQ ws t (A ++ [p]) B (l ++ [x]))
def c__law_retold (n : Nat) : Con := fun ds μ Φ _ => ∃ (ws : List Int) (oc : Nat) (t : QT) (A B l : List Nat), ds = [.lst [.tup (ws.map .int), .int (oc : Int)], qD t, .lst (nI (A ++ B)), .lst (nI l)] ∧ WsOk ws ∧ QOk ws oc t ∧ qDep t ≤ 20 ∧ (A ++ B).length ≤ 8 ∧ l ∈ hs ws A ∧ (∀ q ∈ A ++ B, q < 100) ∧ B.length < n ∧ Φ (qD (rtQ ws t A B l)) μ
theorem len__law_retold {n ds μ Φ Ψ} (h : c__law_retold n ds μ Φ Ψ) : ds.length = 4 := by obtain ⟨_, _, _, _, _, _, rfl, _⟩ := h; rfl
theorem step__law_retold (T : Txt P w K mg) {k : Nat} (hk : 2 ≤ k) (n : Nat) (ih__law_retold : FnOk P w K mg base (L2N.CX P w) k T.f__law_retold T.d__law_retold ["_law_size", "_law_term", "_law_order", "_law_head"] (spOf K (c__law_retold n))) : FnOk P w K mg base (L2N.CX P w) (k + 1) T.f__law_retold T.d__law_retold ["_law_size", "_law_term", "_law_order", "_law_head"] (spOf K (c__law_retold (n + 1))) := by
  refine def_okC T.F__law_retold sc__law_retold _ (fun ds μ Φ Ψ h => len__law_retold h) (fun cdv A outer s H E B hW hr =>
    have tk : L2N.Takes (cxOf (L2N.CX P w) P w K mg base N__law_retold "_law_retold" (defScope s__law_retold) T.f__law_retold cdv A outer s H E) (fun cls d _ H => E cls d H) := L2N.takes_of rfl rfl rfl rfl
    ⟨_, (pss_cons (ps_if (pt_cmpR op_eq (pe_callB call_len_seq (by rfl) T.z_len PySem.boot_len (pa_cons (pv 3) pa_nil)) (pe_callB call_len_seq (by rfl) T.z_len PySem.boot_len (pa_cons (pv 2) pa_nil)) (nomark _)) (pss_one (ps_ret (pe_tupN (pa_cons pe_str (pa_cons (pe_call (ok__law_tell T) (hr.mono (by omega)) rfl T.g__law_tell T.F__law_tell.kp T.b__law_tell .nil passN (pa_cons (pv 1) (pa_cons (pv 2) (pa_cons (pv 3) pa_nil)))) pa_nil))))) pss_nil)
      (pss_cons (ps_set (i := 4) sc__law_retold.nd rfl (Or.inl rfl) (pe_ix ix_list (pv 2) (pe_callB call_len_seq (by rfl) T.z_len PySem.boot_len (pa_cons (pv 3) pa_nil)) (fun _ _ => rfl)))
      (pss_one (ps_ret (pe_op op_catN (pe_tupN (pa_cons pe_str (pa_cons (pv 4) pa_nil))) (pe_callTy call_tupleN (by rfl) T.z_tuple (by decide +kernel) (pa_cons (pe_lc (own := [("_law_x", 5)]) rfl sc__law_retold.nd (pi_range1 rfl T.z_range (pa_cons (pe_call (ok__law_width T) (hr.mono (by omega)) rfl T.g__law_width T.F__law_width.kp T.b__law_width .nil passN (pa_cons (pe_ix ix_list (pv 0) pe_int (fun _ _ => rfl)) (pa_cons (pv 4) pa_nil))) pa_nil)) (blkOk_by (N := N__law_retold) (sc := defScope s__law_retold) (by decide +kernel)) (fun _ _ _ _ _ => (pg_name (i := 5) sc__law_retold.nd rfl (Or.inl rfl))) (fun _ _ _ _ _ => pts_nil) (fun _ _ _ _ _ => (pe_call ih__law_retold hr rfl T.g__law_retold T.F__law_retold.kp T.b__law_retold .nil passN (pa_cons (pv 0) (pa_cons (pv 1) (pa_cons (pv 2) (pa_cons (pe_op op_cat (pv 3) (pe_lst (pa_cons (pv 5) pa_nil))) pa_nil))))))) pa_nil))))))),
      (sSeq (sIfS (sTest (sOp roEq (sCB rcLen (sCons sVar sNil)) (sCB rcLen (sCons sVar sNil)))) (sRet (sTup (sCons sStr (sCons (sCall (sCons sVar (sCons sVar (sCons sVar sNil)))) sNil)))) sNext)
      (sSeq (sAsg (sOp roIxL sVar (sCB rcLen (sCons sVar sNil))) sName)
      (sRet (sOp roCatT (sTup (sCons sStr (sCons sVar sNil))) (sCB rcTuple (sCons (sLc (siR1 (sCall (sCons (sOp roIxL sVar sInt) (sCons sVar sNil)))) (gwName List.mem_cons_self) (fun _ _ _ => sName) (fun _ _ _ => sYes) (fun _ _ _ => (sCall (sCons sVar (sCons sVar (sCons sVar (sCons (sOp roCatL sVar (sLst (sCons sVar sNil))) sNil))))))) sNil))))))⟩) (fun ds μ Φ Ψ h => ?hv)
  case hv =>
    obtain ⟨ws, oc, t, A, B, l, rfl, hw, ht, hd, h8, hl, h100, hn, h⟩ := h
    have hll := (hs_mem.mp hl).1
    refine seq_cut fun M hM => ?_
    walk_at "wp"
    rw [nI_len, nI_len]
    refine ⟨fun e => ?_, fun e => ?_⟩
    · have eB : B = [] := by
        have : l.length = (A ++ B).length := by omega
        rw [List.length_append] at this
        exact List.eq_nil_of_length_eq_zero (by omega)
      subst eB
      rw [List.append_nil] at h8 ⊢
      exact ⟨ws, oc, t, A, l, rfl, hw, ht, hd, h8, hl, by omega, ret_same h⟩
    · cases B with
      | nil => exact absurd (by rw [List.append_nil, hll]) e
      | cons p B =>
        have hp : (A ++ p :: B)[l.length]? = some p := by rw [List.getElem?_append_right (by omega), hll, Nat.sub_self]; rfl
        have hpl := (List.getElem?_eq_some_iff.mp hp).1
        have hpe := (List.getElem?_eq_some_iff.mp hp).2
        have hp100 := h100 p (by simp)
        have hw4 := hw.wd1 p
        rw [List.length_append, List.length_cons] at h8
        rw [List.length_cons] at hn
        rw [hM]; clear hM M
        refine seq_cut fun M hM => ?_
        walk_at "wp"
        rw [nI_len]
        refine ⟨_, nI_at hpl, ?_⟩
        rw [hpe]
        rw [hM]; clear hM M
        walk_at "wps"
        refine ⟨by omega, ws, p, rfl, hw, ?_⟩
        refine ⟨_, rfl, by omega, by omega, ?_⟩
        rw [Int.toNat_natCast]
        rw [rtQ, qD] at h
        refine lcR (fun x => qD (rtQ ws t (A ++ [p]) B (l ++ [x]))) (by omega) (fun x μ2 X hx hsub hx2 => ?_) ?_
        · walk_at "wp"
          rw [nI_len]
          have e1 : A ++ p :: B = (A ++ [p]) ++ B := by simp
          refine ⟨by omega, by omega, ws, oc, t, A ++ [p], B, l ++ [x], ?_, hw, ht, hd, by rw [← e1, List.length_append, List.length_cons]; exact h8, hs_snoc hl hx, by rw [← e1]; exact h100, by omega, hx2⟩
          rw [← e1]
          unfold nI
          rw [List.map_append, List.map_append]
          rfl
        refine ⟨_, .lst _, by rw [List.length_map, List.length_range]; omega, ret_same ?_⟩
        rw [qDs_map, List.map_map] at h
        exact h
end
section
variable {P : Program} {w : World} {K : Fg} {mg : Str → Option Value} {base : Heap}
def c__law_changed_tell (n : Nat) : Con := fun ds μ Φ _ => ∃ (st : Addr) (ns : List Int) (c : List D) (ws : List Int) (oc : Nat) (t : QT), ds = [.hd (.ref st), qD t, .int (oc : Int)] ∧ μ st = some (.lst c) ∧ StC ns c ∧ WsOk ws ∧ 1 ≤ oc ∧ QOk ws oc t ∧ qDep t < n ∧
  ∀ u c', QOk ws oc u → qDep u ≤ qDep t → (∀ q ∈ qPl u, q ∈ qPl t) → (qPl u).length = (qPl t).length → StC ns c' → Φ (qD u) (sset μ st (.lst c'))
theorem len__law_changed_tell {n ds μ Φ Ψ} (h : c__law_changed_tell n ds μ Φ Ψ) : ds.length = 3 := by obtain ⟨_, _, _, _, _, _, rfl, _⟩ := h; rfl
theorem qpls_set {t u : QT} : ∀ {ts : List QT} {y : Nat}, ts[y]? = some t → (qPl u).length = (qPl t).length → (qPl.qPls (ts.set y u)).length = (qPl.qPls ts).length
  | [], y, h, _ => by simp at h
  | a :: ts, 0, h, e => by
    obtain rfl : a = t := by simpa using h
    rw [List.set_cons_zero, qPl.qPls, qPl.qPls, List.length_append, List.length_append, e]
  | a :: ts, y + 1, h, e => by
    rw [List.set_cons_succ, qPl.qPls, qPl.qPls, List.length_append, List.length_append, qpls_set (ts := ts) (y := y) (by simpa using h) e]
theorem qdeps_all {k : Nat} : ∀ {ts : List QT}, (∀ t ∈ ts, qDep t ≤ k) → qDep.qDeps ts ≤ k
  | [], _ => Nat.zero_le _
  | t :: ts, h => by
    rw [qDep.qDeps]
    have h1 := h t List.mem_cons_self
    have h2 := qdeps_all fun s hs => h s (List.mem_cons_of_mem _ hs)
    omega
theorem step__law_changed_tell (T : Txt P w K mg) {k : Nat} (hk : 2 ≤ k) (n : Nat) (ih__law_changed_tell : FnOk P w K mg base (L2N.CX P w) k T.f__law_changed_tell T.d__law_changed_tell ["_law_state", "_law_term", "_law_outcomes"] (spOf K (c__law_changed_tell n))) : FnOk P w K mg base (L2N.CX P w) (k + 1) T.f__law_changed_tell T.d__law_changed_tell ["_law_state", "_law_term", "_law_outcomes"] (spOf K (c__law_changed_tell (n + 1))) := by
  refine def_okC T.F__law_changed_tell sc__law_changed_tell _ (fun ds μ Φ Ψ h => len__law_changed_tell h) (fun cdv A outer s H E B hW hr =>
    have tk : L2N.Takes (cxOf (L2N.CX P w) P w K mg base N__law_changed_tell "_law_changed_tell" (defScope s__law_changed_tell) T.f__law_changed_tell cdv A outer s H E) (fun cls d _ H => E cls d H) := L2N.takes_of rfl rfl rfl rfl
    ⟨_, (pss_cons (ps_if (pt_cmpR op_eq (pe_ix ix_tup (pv 1) pe_int (fun _ _ => rfl)) pe_str (nomark _)) (pss_one (ps_ret (pe_tupN (pa_cons pe_str (pa_cons (pe_op op_mod (pe_callTy call_int1 (by rfl) T.z_int (by decide +kernel) (pa_cons (pe_op op_add (pe_ix ix_tup (pv 1) pe_int (fun _ _ => rfl)) pe_int) pa_nil)) (pv 2)) pa_nil))))) pss_nil)
      (pss_cons (ps_set (i := 3) sc__law_changed_tell.nd rfl (Or.inl rfl) (pe_op op_add pe_int (pe_call (ok__law_pick T) (hr.mono (by omega)) rfl T.g__law_pick T.F__law_pick.kp T.b__law_pick .nil passN (pa_cons (pv 0) (pa_cons (pe_op op_sub (pe_callB call_len_seq (by rfl) T.z_len PySem.boot_len (pa_cons (pv 1) pa_nil)) pe_int) pa_nil)))))
      (pss_one (ps_ret (pe_op op_catN (pe_op op_catN (pe_slice sl_tupN (pv 1) po_none (po_some (pv 3))) (pe_tupN (pa_cons (pe_call ih__law_changed_tell hr rfl T.g__law_changed_tell T.F__law_changed_tell.kp T.b__law_changed_tell .nil passN (pa_cons (pv 0) (pa_cons (pe_ix ix_tup (pv 1) (pv 3) (fun _ _ => rfl)) (pa_cons (pv 2) pa_nil)))) pa_nil))) (pe_slice sl_tupN (pv 1) (po_some (pe_op op_add (pv 3) pe_int)) po_none)))))),
      (sSeq (sIfS (sTest (sOp roEq (sOp roIxT sVar sInt) sStr)) (sRet (sTup (sCons sStr (sCons (sOp roInt (sCB rcInt (sCons (sOp roInt0 (sOp roIxT sVar sInt) sInt) sNil)) sVar) sNil)))) sNext)
      (sSeq (sAsg (sOp roInt0 sInt (sCall (sCons sVar (sCons (sOp roInt0 (sCB rcLen (sCons sVar sNil)) sInt) sNil)))) sName)
      (sRet (sOp roCatT (sOp roCatT (sSlT sVar sNoPart (sPart sVar)) (sTup (sCons (sCall (sCons sVar (sCons (sOp roIxT sVar sVar) (sCons sVar sNil)))) sNil))) (sSlT sVar (sPart (sOp roInt0 sVar sInt)) sNoPart)))))⟩) (fun ds μ Φ Ψ h => ?hv)
  case hv =>
    obtain ⟨st, ns, c, ws, oc, t, rfl, hc, sc, hw, o1, ht, hn, h⟩ := h
    cases t with
    | tell o =>
      rw [qD]
      refine seq_cut fun M hM => ?_
      walk_at "wp"
      have z0 := Int.emod_nonneg ((o : Int) + 1) (show (oc : Int) ≠ 0 by omega)
      have z1 := Int.emod_lt_of_pos ((o : Int) + 1) (show (0 : Int) < (oc : Int) by omega)
      obtain ⟨v, hv⟩ : ∃ v : Nat, ((o : Int) + 1) % (oc : Int) = (v : Int) := ⟨_, (Int.toNat_of_nonneg z0).symm⟩
      rw [hv]
      have h2 := h (.tell v) c (show v < oc by omega) (Nat.le_refl _) (fun q z => by simp [qPl] at z) rfl sc
      rw [sset_idl hc] at h2
      exact ⟨⟨by omega, by omega, ret_same h2⟩, fun z => absurd trivial z⟩
    | look p ts =>
      obtain ⟨hp, hl, hts⟩ := ht
      rw [qoks_iff] at hts
      rw [qDep] at hn
      have hw4 := hw.wd1 p
      rw [qD]
      refine seq_cut fun M hM => ?_
      walk_at "wp"
      refine ⟨fun z => absurd z (by decide), fun _ => ?_⟩
      rw [hM]; clear hM M
      refine seq_cut fun M hM => ?_
      walk_at "wp"
      rw [qDs_len, show (((ts.length + 1 + 1 : Nat) : Int) - 2) = (ts.length : Int) by omega]
      refine ⟨st, ns, c, _, rfl, hc, sc, by omega, log_small (by omega), fun y c1 y0 y1 sc1 => ?_⟩
      obtain ⟨y, rfl⟩ : ∃ m : Nat, y = (m : Int) := ⟨y.toNat, by omega⟩
      have hy : y < ts.length := by omega
      have hty : ts[y]? = some ts[y] := List.getElem?_eq_getElem hy
      have hm := List.getElem_mem hy
      have hdl := qdeps_le hm
      walk_at "wp"
      rw [hM]; clear hM M
      walk_at "wps"
      have ei : (2 : Int) + (y : Int) = ((y + 1 + 1 : Nat) : Int) := by omega
      rw [ei]
      refine ⟨qD ts[y], atI_nat (by rw [List.getElem?_cons_succ, List.getElem?_cons_succ, qDs_map, List.getElem?_map, hty]; rfl), st, ns, c1, ws, oc, ts[y], rfl, sset_same, sc1, hw, o1, hts _ hm, by omega, fun u c2 b1 b2 b3 b4 sc2 => ?_⟩
      have hsl : (ts.set y u).length = ts.length := List.length_set ..
      have smem : ∀ s ∈ ts.set y u, s ∈ ts ∨ s = u := fun s hs => List.mem_or_eq_of_mem_set hs
      have e1 : DW.cutD (D.str (Str.ofString "look") :: D.int (p : Int) :: qDs ts) none (some ((y + 1 + 1 : Nat) : Int)) = D.str (Str.ofString "look") :: D.int (p : Int) :: (qDs ts).take y := by rw [cut_to]; rfl
      have e2 : DW.cutD (D.str (Str.ofString "look") :: D.int (p : Int) :: qDs ts) (some (((y + 1 + 1 : Nat) : Int) + 1)) none = (qDs ts).drop (y + 1) := by rw [cut_from1]; rfl
      have e3 : (D.str (Str.ofString "look") :: D.int (p : Int) :: (qDs ts).take y) ++ [qD u] ++ (qDs ts).drop (y + 1) = D.str (Str.ofString "look") :: D.int (p : Int) :: qDs (ts.set y u) := by
        rw [qDs_map, qDs_map, List.map_set, List.set_eq_take_append_cons_drop, if_pos (by rw [List.length_map]; exact hy)]
        simp
      have h2 := h (.look p (ts.set y u)) c2 ⟨hp, by rw [hsl]; exact hl, qoks_iff.mpr fun s hs => (smem s hs).elim (hts s) fun e => by rw [e]; exact b1⟩ (by
        rw [qDep, qDep]
        have := qdeps_all (k := qDep.qDeps ts) (ts := ts.set y u) fun s hs => (smem s hs).elim (fun z => qdeps_le z) fun e => by rw [e]; omega
        omega) (fun q hq => by
        rw [qPl] at hq ⊢
        rcases List.mem_cons.mp hq with z | z
        · rw [z]; exact List.mem_cons_self
        · obtain ⟨s, hs, hq2⟩ := qpls_mem.mp z
          refine List.mem_cons_of_mem _ (qpls_mem.mpr ?_)
          rcases smem s hs with z | z
          · exact ⟨s, z, hq2⟩
          · exact ⟨_, hm, b3 q (by rw [← z]; exact hq2)⟩) (by rw [qPl, qPl, List.length_cons, List.length_cons, qpls_set hty b4]) sc2
      rw [e1, e2]
      have lq : (qDs ts).length = ts.length := qDs_len ts
      rw [qD] at h2
      rw [sset_sset]
      refine ⟨by omega, by simp; omega, by simp; omega, ?_⟩
      rw [← e3] at h2
      exact ret_same h2
section
variable {P : Program} {w : World} {K : Fg} {mg : Str → Option Value} {base : Heap}
theorem okN__law_query_term (T : Txt P w K mg) : ∀ n, FnOk P w K mg base (L2N.CX P w) (2 + n) T.f__law_query_term T.d__law_query_term ["_law_state", "_law_size", "_law_places", "_law_levels"] (spOf K (c__law_query_term n))
  | 0 => fn_never fun ds μ Φ Ψ h => by obtain ⟨_, _, _, _, _, _, _, _, _, _, _, _, _, _, _, _, h, _⟩ := h; omega
  | n + 1 => step__law_query_term T (k := 2 + n) (by omega) n (okN__law_query_term T n)
theorem ok__law_query_term (T : Txt P w K mg) : FnOk P w K mg base (L2N.CX P w) 8 T.f__law_query_term T.d__law_query_term ["_law_state", "_law_size", "_law_places", "_law_levels"] (spOf K (c__law_query_term 6)) := okN__law_query_term T 6
theorem okN__law_full_query (T : Txt P w K mg) : ∀ n, FnOk P w K mg base (L2N.CX P w) (2 + n) T.f__law_full_query T.d__law_full_query ["_law_state", "_law_size", "_law_order", "_law_marked", "_law_total"] (spOf K (c__law_full_query n))
  | 0 => fn_never fun ds μ Φ Ψ h => by obtain ⟨_, _, _, _, _, _, _, _, _, _, _, _, _, _, _, _, _, h, _⟩ := h; omega
  | n + 1 => step__law_full_query T (k := 2 + n) (by omega) n (okN__law_full_query T n)
theorem ok__law_full_query (T : Txt P w K mg) : FnOk P w K mg base (L2N.CX P w) 12 T.f__law_full_query T.d__law_full_query ["_law_state", "_law_size", "_law_order", "_law_marked", "_law_total"] (spOf K (c__law_full_query 10)) := okN__law_full_query T 10
end
def c__law_first_term : Con := fun ds μ Φ _ => ∃ (st : Addr) (ns : List Int) (c : List D) (ws : List Int) (oc : Nat) (ps : List Nat), ds = [.hd (.ref st), .lst [.tup (ws.map .int), .int (oc : Int)], .lst (nI ps)] ∧ μ st = some (.lst c) ∧ StC ns c ∧ WsOk ws ∧ 1 ≤ oc ∧ oc ≤ 4 ∧ ps ≠ [] ∧ ps.length ≤ 5 ∧ (∀ p ∈ ps, p < 100) ∧ (hs ws ps).length ≤ 64 ∧
  ∀ t c', QOk ws oc t → qDep t ≤ 8 → (∀ q ∈ qPl t, q ∈ ps) → (qPl t).length ≤ 300 → StC ns c' → Φ (qD t) (sset μ st (.lst c'))
theorem len__law_first_term {ds μ Φ Ψ} (h : c__law_first_term ds μ Φ Ψ) : ds.length = 3 := by obtain ⟨_, _, _, _, _, _, rfl, _⟩ := h; rfl
theorem lkO_le {ws : List Int} (hw : WsOk ws) : ∀ (ps : List Nat), ps ≠ [] → lkO ws ps ≤ (ps.length - 1) * (hs ws ps).length + 1
  | [], h => absurd rfl h
  | [p], _ => by simp [lkO]
  | p :: q :: ps, _ => by
    have ih := lkO_le hw (q :: ps) (by simp)
    have h1 := hs_pos hw (q :: ps)
    rw [lkO.eq_2 ws p, hs_len_cons p, show (p :: q :: ps).length - 1 = ((q :: ps).length - 1) + 1 by simp]
    generalize (q :: ps).length - 1 = n at *
    generalize (hs ws (q :: ps)).length = P at *
    generalize wd ws p = w at *
    generalize lkO ws (q :: ps) = L at *
    have h2 : w * L ≤ w * (n * P + 1) := Nat.mul_le_mul_left _ ih
    have h3 : w * 1 ≤ w * P := Nat.mul_le_mul_left _ h1
    rw [Nat.mul_add] at h2
    have h4 : w * (n * P) = n * (w * P) := by rw [← Nat.mul_assoc, ← Nat.mul_assoc, Nat.mul_comm w n]
    rw [Nat.add_mul, Nat.one_mul]
    omega
theorem hs_perm {ws : List Int} {l l' : List Nat} (h : l.Perm l') : (hs ws l).length = (hs ws l').length := by
  induction h with
  | nil => rfl
  | cons a _ ih => rw [hs_len_cons, hs_len_cons, ih]
  | swap a b l => rw [hs_len_cons, hs_len_cons, hs_len_cons, hs_len_cons, ← Nat.mul_assoc, ← Nat.mul_assoc, Nat.mul_comm (wd ws _)]
  | trans _ _ a b => exact a.trans b
theorem ok__law_first_term (T : Txt P w K mg) : FnOk P w K mg base (L2N.CX P w) 14 T.f__law_first_term T.d__law_first_term ["_law_state", "_law_size", "_law_places"] (spOf K c__law_first_term) := by
  refine def_okC T.F__law_first_term sc__law_first_term _ (fun ds μ Φ Ψ h => len__law_first_term h) (fun cdv A outer s H E B hW hr =>
    have tk : L2N.Takes (cxOf (L2N.CX P w) P w K mg base N__law_first_term "_law_first_term" (defScope s__law_first_term) T.f__law_first_term cdv A outer s H E) (fun cls d _ H => E cls d H) := L2N.takes_of rfl rfl rfl rfl
    ⟨_, (pss_cons (ps_if (pt_cmpR op_eq (pe_call (ok__law_pick T) (hr.mono (by decide)) rfl T.g__law_pick T.F__law_pick.kp T.b__law_pick .nil passN (pa_cons (pv 0) (pa_cons pe_int pa_nil))) pe_int (nomark _)) (pss_one (ps_ret (pe_call (ok__law_query_term T) (hr.mono (by decide)) rfl T.g__law_query_term T.F__law_query_term.kp T.b__law_query_term .nil passN (pa_cons (pv 0) (pa_cons (pv 1) (pa_cons (pv 2) (pa_cons (pe_op op_add pe_int (pe_call (ok__law_pick T) (hr.mono (by decide)) rfl T.g__law_pick T.F__law_pick.kp T.b__law_pick .nil passN (pa_cons (pv 0) (pa_cons pe_int pa_nil)))) pa_nil))))))) pss_nil)
      (pss_cons (ps_setLc (i := 3) (own := [("_law_place", 4)]) rfl sc__law_first_term.nd rfl rfl (sw_true rfl rfl rfl (by decide +kernel)) (pi_list (pv 2)) (blkOk_by (N := N__law_first_term) (sc := defScope s__law_first_term) (by decide +kernel)) (fun _ _ _ _ _ => (pg_name (i := 4) sc__law_first_term.nd rfl (Or.inl rfl))) (fun _ _ _ _ _ => (pts_one (pt_cmpR op_gt (pe_call (ok__law_pick T) (hr.mono (by decide)) rfl T.g__law_pick T.F__law_pick.kp T.b__law_pick .nil passN (pa_cons (pv 0) (pa_cons pe_int pa_nil))) pe_int (nomark _)))) (fun _ _ _ _ _ => (pv 4)))
      (pss_one (ps_ret (pe_call (ok__law_full_query T) (hr.mono (by decide)) rfl T.g__law_full_query T.F__law_full_query.kp T.b__law_full_query .nil passN (pa_cons (pv 0) (pa_cons (pv 1) (pa_cons (pe_call (ok__law_shuffled T) (hr.mono (by decide)) rfl T.g__law_shuffled T.F__law_shuffled.kp T.b__law_shuffled .nil passN (pa_cons (pv 0) (pa_cons (pv 2) pa_nil))) (pa_cons (pv 3) (pa_cons (pe_call (ok__law_pick T) (hr.mono (by decide)) rfl T.g__law_pick T.F__law_pick.kp T.b__law_pick .nil passN (pa_cons (pv 0) (pa_cons pe_int pa_nil))) pa_nil)))))))))),
      (sSeq (sIfS (sTest (sOp roEq (sCall (sCons sVar (sCons sInt sNil))) sInt)) (sRet (sCall (sCons sVar (sCons sVar (sCons sVar (sCons (sOp roInt0 sInt (sCall (sCons sVar (sCons sInt sNil)))) sNil)))))) sNext)
      (sSeq (sAsg (sLc (siL sVar) (gwName List.mem_cons_self) (fun _ _ _ => sName) (fun _ _ _ => (sTest (sOp roBl0 (sCall (sCons sVar (sCons sInt sNil))) sInt))) (fun _ _ _ => sVar)) sName)
      (sRet (sCall (sCons sVar (sCons sVar (sCons (sCall (sCons sVar (sCons sVar sNil))) (sCons sVar (sCons (sCall (sCons sVar (sCons sInt sNil))) sNil)))))))))⟩) (fun ds μ Φ Ψ h => ?hv)
  case hv =>
    obtain ⟨st, ns, c, ws, oc, ps, rfl, hc, sc, hw, o1, o4, hne, h5, h100, h64, h⟩ := h
    refine seq_cut fun M hM => ?_
    walk_at "wp"
    refine ⟨st, ns, c, 2, rfl, hc, sc, by omega, log_small (n := 2) (by omega), fun y c1 y0 y1 sc1 => ?_⟩
    walk_at "wp"
    refine ⟨fun _ => ⟨st, ns, c1, 3, rfl, sset_same, sc1, by omega, log_small (n := 3) (by omega), fun z c2 z0 z1 sc2 => ?_⟩, fun _ => ?_⟩
    · walk_at "wp"
      obtain ⟨z, rfl⟩ : ∃ n : Nat, z = (n : Int) := ⟨z.toNat, by omega⟩
      refine ⟨st, ns, c2, ws, oc, 1 + z, ps, by rw [Int.natCast_add]; rfl, sset_same, sc2, hw, o1, o4, hne, by omega, h100, by omega, by omega, fun t c3 q1 q2 q3 q4 sc3 => ?_⟩
      have hk : lkN (1 + z) ≤ 300 := by
        rcases (show z = 0 ∨ z = 1 ∨ z = 2 by omega) with rfl | rfl | rfl <;> decide
      have := h t c3 q1 (by omega) q3 (by omega) sc3
      simp only [sset_sset]
      exact ret_same this
    · rw [hM]; clear hM M
      refine seq_cut fun M hM => ?_
      walk_at "wp"
      refine lcG_drawG (StC ns) (fun i acc => ∃ ms : List Nat, acc = nI ms ∧ ms.length ≤ i) (by rw [nI_len]; omega) sset_same sc1 ⟨[], rfl, by simp⟩ (fun i d μ2 X Y acc c3 hi hs2 sc ⟨ms, e, hl⟩ hla hx hy => ?_) (fun acc c3 ⟨ms, e, hl⟩ hla sc3 => ?_)
      · obtain ⟨hil, rfl⟩ := nI_get hi
        walk_at "wp"
        refine ⟨st, ns, c3, 3, rfl, hs2, sc, by omega, log_small (n := 3) (by omega), fun z c4 z0 z1 sc4 => ?_⟩
        walk_at "wp"
        subst e
        refine ⟨fun _ => hx _ _ sc4 ⟨ms ++ [ps[i]], by unfold nI; rw [List.map_append]; rfl, by rw [List.length_append]; simp; omega⟩, fun _ => hy _ sc4 ⟨ms, rfl, by omega⟩⟩
      · subst e
        rw [nI_len] at hl
        rw [hM]; clear hM M
        walk_at "wps"
        refine ⟨st, ns, c3, ps, rfl, sset_same, sc3, by omega, fun qs c4 hq sc4 => ?_⟩
        refine ⟨st, ns, c4, 4, rfl, sset_same, sc4, by omega, log_small (n := 4) (by omega), fun z c5 z0 z1 sc5 => ?_⟩
        have hql := hq.length_eq
        refine ⟨st, ns, c5, ws, oc, qs, ms, z, rfl, sset_same, sc5, hw, o1, o4, by omega, by omega, fun p hp => h100 p (hq.mem_iff.mp hp), by omega, fun t c6 q1 q2 q3 q4 sc6 _ => ?_⟩
        have hqn : qs ≠ [] := fun z => by rw [z] at hql; exact hne (List.eq_nil_of_length_eq_zero hql.symm)
        have hk := lkO_le hw qs hqn
        rw [hs_perm hq, hql] at hk
        have h5' : (ps.length - 1) * (hs ws ps).length ≤ 4 * 64 := Nat.mul_le_mul (by omega) h64
        have := h t c6 q1 (by omega) (fun q hq2 => hq.mem_iff.mp (q3 q hq2)) (by omega) sc6
        simp only [sset_sset]
        exact ret_same this
def c__law_shuffled_O : Con := fun ds μ Φ _ => ∃ (st : Addr) (ns : List Int) (c : List D) (ps : List Nat), ds = [.hd (.ref st), .lst (nI ps)] ∧ μ st = some (.lst c) ∧ StC ns c ∧ ps.length ≤ 8 ∧ ∀ qs c' a, qs.Perm ps → StC ns c' → μ a = none → Φ (.hd (.ref a)) (sset (sset μ st (.lst c')) a (.lst (nI qs)))
theorem len__law_shuffled_O {ds μ Φ Ψ} (h : c__law_shuffled_O ds μ Φ Ψ) : ds.length = 2 := by obtain ⟨_, _, _, _, rfl, _⟩ := h; rfl
theorem ok__law_shuffled_O (T : Txt P w K mg) : FnOk P w K mg base (L2N.CX P w) 2 T.f__law_shuffled T.d__law_shuffled ["_law_state", "_law_places"] (spOf K c__law_shuffled_O) := by
  refine def_okC T.F__law_shuffled sc__law_shuffled _ (fun ds μ Φ Ψ h => len__law_shuffled_O h) (fun cdv A outer s H E B hW hr =>
    have tk : L2N.Takes (cxOf (L2N.CX P w) P w K mg base N__law_shuffled "_law_shuffled" (defScope s__law_shuffled) T.f__law_shuffled cdv A outer s H E) (fun cls d _ H => E cls d H) := L2N.takes_of rfl rfl rfl rfl
    ⟨_, (pss_cons (ps_set (i := 2) sc__law_shuffled.nd rfl (Or.inr rfl) (pe_callTy call_list_of (by rfl) T.z_list (by decide +kernel) (pa_cons (pv 1) pa_nil)))
      (pss_one (ps_ret (pe_lc (own := [("_law_k", 3)]) rfl sc__law_shuffled.nd (pi_range1 rfl T.z_range (pa_cons (pe_callB call_len_seq (by rfl) T.z_len PySem.boot_len (pa_cons (pv 1) pa_nil)) pa_nil)) (blkOk_by (N := N__law_shuffled) (sc := defScope s__law_shuffled) (by decide +kernel)) (fun _ _ _ _ _ => (pg_name (i := 3) sc__law_shuffled.nd rfl (Or.inl rfl))) (fun _ _ _ _ _ => pts_nil) (fun _ _ _ _ _ => (pe_bm PySem.F.plainAttrs_list PySem.F.slot_list_pop PySem.F.type_list_pop mt_popAt (pv 2) (by exact pa_cons (pe_call (ok__law_pick T) hr rfl T.g__law_pick T.F__law_pick.kp T.b__law_pick .nil passN (pa_cons (pv 0) (pa_cons (pe_callB call_len_seq (by rfl) T.z_len PySem.boot_len (pa_cons (pv 2) pa_nil)) pa_nil))) pa_nil))))))),
      (sSeq (sAsg (sCB rcListOwn (sCons sVar sNil)) sName)
      (sRet (sLcO (siR1 (sCB rcLen (sCons sVar sNil))) (gwName List.mem_cons_self) (fun _ _ _ => sName) (fun _ _ _ => sYes) (fun _ _ _ => (sPopAt sVar (sCall (sCons sVar (sCons (sCB rcLen (sCons sVar sNil)) sNil))))))))⟩) (fun ds μ Φ Ψ h => ?hv)
  case hv =>
    obtain ⟨st, ns, c, ps, rfl, hc, sc, hl, h⟩ := h
    refine seq_cut fun M hM => ?_
    walk_at "wp"
    intro p hp
    have hps : p ≠ st := fun z => by rw [z, hc] at hp; cases hp
    rw [hM]; clear hM M
    walk_at "wps"
    rw [nI_len]
    refine ⟨by omega, by omega, fun p0 hp0 => ?_⟩
    have h0p : p0 ≠ p := fun z => by rw [z, sset_same] at hp0; cases hp0
    have hp0' : μ p0 = none := by rw [sset_ne h0p] at hp0; exact hp0
    have h0s : p0 ≠ st := fun z => by rw [z, hc] at hp0'; cases hp0'
    refine ⟨fun i μ' => ∃ (acc rest : List Nat) (c' : List D), μ' p0 = some (.lst (nI acc)) ∧ μ' p = some (.lst (nI rest)) ∧ μ' st = some (.lst c') ∧ (∀ a, a ≠ p0 → a ≠ p → a ≠ st → μ' a = μ a) ∧ StC ns c' ∧ (acc ++ rest).Perm ps ∧ acc.length = i, ⟨[], ps, c, sset_same, by rw [sset_ne h0p.symm, sset_same], by rw [sset_ne h0s.symm, sset_ne hps.symm, hc], fun a a1 a2 a3 => by rw [sset_ne a1, sset_ne a2], sc, List.Perm.refl _, rfl⟩, ?_, ?_⟩
    · rintro i d μ2 hi ⟨acc, rest, c2, w1, w2, w3, w4, w5, w6, w7⟩
      obtain ⟨hj, rfl⟩ := rngD_get hi
      have hlen := w6.length_eq
      rw [List.length_append] at hlen
      refine ⟨fun _ => ?_, fun z => nomatch z⟩
      walk_at "wps"
      refine ⟨_, w2, .inl ⟨_, w2, st, ns, c2, rest.length, by rw [nI_len], w3, w5, by omega, log_small (by omega), fun y c3 y0 y1 sc3 => ?_⟩⟩
      obtain ⟨q, rfl⟩ : ∃ q : Nat, y = (q : Int) := ⟨y.toNat, by omega⟩
      have hq : q < rest.length := by omega
      have g : (nI rest)[q]? = some (.int ((rest[q] : Nat) : Int)) := by unfold nI; rw [List.getElem?_map, List.getElem?_eq_getElem hq]; rfl
      refine ⟨nI rest, by rw [sset_ne hps, w2], by rw [nI_len]; omega, q, _, rfl, g, nI acc, by rw [sset_ne h0p, sset_ne h0s, w1], by rw [nI_len]; omega, acc ++ [rest[q]], rest.eraseIdx q, c3, ?_, ?_, ?_, fun a a1 a2 a3 => by rw [sset_ne a1, sset_ne a2, sset_ne a3, w4 a a1 a2 a3], sc3, ?_, by rw [List.length_append, w7]; rfl⟩
      · unfold nI; rw [List.map_append]; rfl
      · rw [sset_ne h0p.symm, sset_same, nI_erase]
      · rw [sset_ne h0s.symm, sset_ne hps.symm, sset_same]
      · rw [List.append_assoc]
        exact ((perm_erase rest q hq).append_left acc).trans w6
    · rintro μ2 ⟨acc, rest, c2, w1, w2, w3, w4, w5, w6, w7⟩
      rw [rngD_len] at w7
      have hlen := w6.length_eq
      rw [List.length_append] at hlen
      obtain rfl : rest = [] := List.eq_nil_of_length_eq_zero (by omega)
      rw [List.append_nil] at w6
      refine ⟨_, w1, _, rfl, fun b hb => ?_⟩
      have hb1 : b ≠ st := fun z => by rw [z] at hb; unfold sdel at hb; rw [if_neg h0s.symm, w3] at hb; cases hb
      have hbμ : μ b = none := by
        by_cases b0 : b = p0
        · rw [b0]; exact hp0'
        · by_cases bp : b = p
          · rw [bp]; exact hp
          · unfold sdel at hb
            rw [if_neg b0, w4 b b0 bp hb1] at hb
            exact hb
      refine ⟨sset (sset μ st (.lst c2)) b (.lst (nI acc)), fun a x e => ?_, h acc c2 b w6 w5 hbμ⟩
      by_cases a0 : a = b
      · subst a0
        rw [sset_same] at e
        cases e
        exact sset_same
      · rw [sset_ne a0] at e
        rw [sset_ne a0]
        by_cases as : a = st
        · subst as
          rw [sset_same] at e
          cases e
          unfold sdel
          rw [if_neg h0s.symm, w3]
        · rw [sset_ne as] at e
          have ap0 : a ≠ p0 := fun z => by rw [z, hp0'] at e; cases e
          have ap : a ≠ p := fun z => by rw [z, hp] at e; cases e
          unfold sdel
          rw [if_neg ap0, w4 a ap0 ap as, e]
end
section
variable {P : Program} {w : World} {K : Fg} {mg : Str → Option Value} {base : Heap}
section
variable {P : Program} {w : World} {K : Fg} {mg : Str → Option Value} {base : Heap}
theorem okN__law_retold (T : Txt P w K mg) : ∀ n, FnOk P w K mg base (L2N.CX P w) (2 + n) T.f__law_retold T.d__law_retold ["_law_size", "_law_term", "_law_order", "_law_head"] (spOf K (c__law_retold n))
  | 0 => fn_never fun ds μ Φ Ψ h => by obtain ⟨_, _, _, _, _, _, _, _, _, _, _, _, _, h, _⟩ := h; omega
  | n + 1 => step__law_retold T (k := 2 + n) (by omega) n (okN__law_retold T n)
theorem ok__law_retold (T : Txt P w K mg) : FnOk P w K mg base (L2N.CX P w) 12 T.f__law_retold T.d__law_retold ["_law_size", "_law_term", "_law_order", "_law_head"] (spOf K (c__law_retold 10)) := okN__law_retold T 10
theorem okN__law_changed_tell (T : Txt P w K mg) : ∀ n, FnOk P w K mg base (L2N.CX P w) (2 + n) T.f__law_changed_tell T.d__law_changed_tell ["_law_state", "_law_term", "_law_outcomes"] (spOf K (c__law_changed_tell n))
  | 0 => fn_never fun ds μ Φ Ψ h => by obtain ⟨_, _, _, _, _, _, _, _, _, _, _, _, h, _⟩ := h; omega
  | n + 1 => step__law_changed_tell T (k := 2 + n) (by omega) n (okN__law_changed_tell T n)
theorem ok__law_changed_tell (T : Txt P w K mg) : FnOk P w K mg base (L2N.CX P w) 14 T.f__law_changed_tell T.d__law_changed_tell ["_law_state", "_law_term", "_law_outcomes"] (spOf K (c__law_changed_tell 12)) := okN__law_changed_tell T 12
end
theorem lkO_app (ws : List Int) : ∀ (A B : List Nat), lkO ws (A ++ B) = lkO ws A + (hs ws A).length * lkO ws B
  | [], B => by rw [List.nil_append, lkO, hs]; simp
  | p :: A, B => by
    rw [List.cons_append, lkO, lkO, lkO_app ws A B, hs_len_cons, Nat.mul_add, Nat.mul_assoc, Nat.add_assoc]
theorem lkO_bd {ws : List Int} (hw : WsOk ws) {A : List Nat} (h64 : (hs ws A).length ≤ 64) : lkO ws A ≤ 21 + (A.length - 2) * 64 := by
  match A with
  | [] => simp [lkO]
  | [a] => simp [lkO]
  | a :: b :: C =>
    have e : a :: b :: C = [a, b] ++ C := rfl
    rw [e, lkO_app]
    have ha := (hw.wd1 a).2
    have hb := (hw.wd1 b).2
    have l2 : lkO ws [a, b] ≤ 5 := by simp [lkO]; omega
    have p2 : (hs ws [a, b]).length ≤ 16 := by
      rw [hs_len_cons, hs_len_cons, hs]
      have := Nat.mul_le_mul ha hb
      simp
      omega
    rw [e, hs_len_app] at h64
    cases C with
    | nil => simp [lkO]; omega
    | cons c C =>
      have l3 := lkO_le hw (c :: C) (by simp)
      have l4 : (hs ws [a, b]).length * lkO ws (c :: C) ≤ (hs ws [a, b]).length * (((c :: C).length - 1) * (hs ws (c :: C)).length + 1) := Nat.mul_le_mul_left _ l3
      have l5 : (hs ws [a, b]).length * (((c :: C).length - 1) * (hs ws (c :: C)).length + 1) = ((c :: C).length - 1) * ((hs ws [a, b]).length * (hs ws (c :: C)).length) + (hs ws [a, b]).length := by
        rw [Nat.mul_add, Nat.mul_one, ← Nat.mul_assoc, ← Nat.mul_assoc, Nat.mul_comm (hs ws [a, b]).length]
      have l6 : ((c :: C).length - 1) * ((hs ws [a, b]).length * (hs ws (c :: C)).length) ≤ ((c :: C).length - 1) * 64 := Nat.mul_le_mul_left _ h64
      have l7 : ([a, b] ++ c :: C).length - 2 = ((c :: C).length - 1) + 1 := by simp
      rw [l7, Nat.add_mul]
      omega
theorem qpls_bd {k : Nat} : ∀ (ts : List QT), (∀ t ∈ ts, (qPl t).length ≤ k) → (qPl.qPls ts).length ≤ ts.length * k
  | [], _ => Nat.zero_le _
  | t :: ts, h => by
    rw [qPl.qPls, List.length_append, List.length_cons, Nat.add_mul, Nat.one_mul]
    have h1 := h t List.mem_cons_self
    have h2 := qpls_bd ts fun s hs => h s (List.mem_cons_of_mem _ hs)
    omega
theorem rtQ_ok {ws : List Int} {oc : Nat} {t : QT} (hw : WsOk ws) (ht : QOk ws oc t) : ∀ (B A l : List Nat), l ∈ hs ws A → (∀ q ∈ B, q < 100) → QOk ws oc (rtQ ws t A B l) ∧ qDep (rtQ ws t A B l) ≤ B.length ∧ (∀ q ∈ qPl (rtQ ws t A B l), q ∈ B) ∧ (qPl (rtQ ws t A B l)).length ≤ lkO ws B
  | [], A, l, hl, h100 => by
    rw [rtQ]
    exact ⟨qA_lt2 (rd_lt hw hl) t ht, Nat.le_refl _, fun q hq => by simp [qPl] at hq, Nat.zero_le _⟩
  | p :: B, A, l, hl, h100 => by
    rw [rtQ]
    have I : ∀ s ∈ (List.range (wd ws p)).map fun x => rtQ ws t (A ++ [p]) B (l ++ [x]), QOk ws oc s ∧ qDep s ≤ B.length ∧ (∀ q ∈ qPl s, q ∈ B) ∧ (qPl s).length ≤ lkO ws B := fun s hs => by
      obtain ⟨x, hx, rfl⟩ := List.mem_map.mp hs
      exact rtQ_ok hw ht B (A ++ [p]) (l ++ [x]) (hs_snoc hl (List.mem_range.mp hx)) fun q hq => h100 q (List.mem_cons_of_mem _ hq)
    refine ⟨⟨h100 p List.mem_cons_self, by rw [List.length_map, List.length_range], qoks_iff.mpr fun s hs => (I s hs).1⟩, ?_, fun q hq => ?_, ?_⟩
    · have := qdeps_all fun s hs => (I s hs).2.1
      rw [qDep, List.length_cons]
      omega
    · rw [qPl] at hq
      rcases List.mem_cons.mp hq with z | z
      · rw [z]; exact List.mem_cons_self
      · obtain ⟨s, hs, hq2⟩ := qpls_mem.mp z
        exact List.mem_cons_of_mem _ ((I s hs).2.2.1 q hq2)
    · rw [qPl, List.length_cons, lkO]
      have := qpls_bd _ fun s hs => (I s hs).2.2.2
      rw [List.length_map, List.length_range] at this
      omega
def c__law_second_term : Con := fun ds μ Φ _ => ∃ (st : Addr) (ns : List Int) (c : List D) (ws : List Int) (oc : Nat) (ps : List Nat) (t : QT), ds = [.hd (.ref st), .lst [.tup (ws.map .int), .int (oc : Int)], .lst (nI ps), qD t] ∧ μ st = some (.lst c) ∧ StC ns c ∧ WsOk ws ∧ 1 ≤ oc ∧ oc ≤ 4 ∧ ps ≠ [] ∧ ps.length ≤ 5 ∧ (∀ p ∈ ps, p < 100) ∧ (hs ws ps).length ≤ 64 ∧ QOk ws oc t ∧ qDep t ≤ 8 ∧
  ∀ t c', QOk ws oc t → qDep t ≤ 8 → (∀ q ∈ qPl t, q ∈ ps) → (qPl t).length ≤ 300 → StC ns c' → Φ (qD t) (sset μ st (.lst c'))
theorem len__law_second_term {ds μ Φ Ψ} (h : c__law_second_term ds μ Φ Ψ) : ds.length = 4 := by obtain ⟨_, _, _, _, _, _, _, rfl, _⟩ := h; rfl
theorem ok__law_second_term (T : Txt P w K mg) : FnOk P w K mg base (L2N.CX P w) 16 T.f__law_second_term T.d__law_second_term ["_law_state", "_law_size", "_law_places", "_law_first"] (spOf K c__law_second_term) := by
  refine def_okC T.F__law_second_term sc__law_second_term _ (fun ds μ Φ Ψ h => len__law_second_term h) (fun cdv A outer s H E B hW hr =>
    have tk : L2N.Takes (cxOf (L2N.CX P w) P w K mg base N__law_second_term "_law_second_term" (defScope s__law_second_term) T.f__law_second_term cdv A outer s H E) (fun cls d _ H => E cls d H) := L2N.takes_of rfl rfl rfl rfl
    ⟨_, (pss_cons (ps_set (i := 4) sc__law_second_term.nd rfl (Or.inl rfl) (pe_call (ok__law_pick T) (hr.mono (by decide)) rfl T.g__law_pick T.F__law_pick.kp T.b__law_pick .nil passN (pa_cons (pv 0) (pa_cons pe_int pa_nil))))
      (pss_cons (ps_if (pt_cmpR op_eq (pv 4) pe_int (nomark _)) (pss_one (ps_ret (pe_call (ok__law_first_term T) (hr.mono (by decide)) rfl T.g__law_first_term T.F__law_first_term.kp T.b__law_first_term .nil passN (pa_cons (pv 0) (pa_cons (pv 1) (pa_cons (pv 2) pa_nil)))))) pss_nil)
      (pss_cons (ps_set (i := 5) sc__law_second_term.nd rfl (Or.inl rfl) (pe_call (ok__law_shuffled_O T) (hr.mono (by decide)) rfl T.g__law_shuffled T.F__law_shuffled.kp T.b__law_shuffled .nil passN (pa_cons (pv 0) (pa_cons (pv 2) pa_nil))))
      (pss_cons (ps_if (pt_cmpR op_eq (pv 4) pe_int (nomark _)) (pss_one (ps_expr (pe_bm PySem.F.plainAttrs_list PySem.F.slot_list_append PySem.F.type_list_append mt_append (pv 5) (pa_cons (pe_ix ix_list (pv 2) (pe_call (ok__law_pick T) (hr.mono (by decide)) rfl T.g__law_pick T.F__law_pick.kp T.b__law_pick .nil passN (pa_cons (pv 0) (pa_cons (pe_callB call_len_seq (by rfl) T.z_len PySem.boot_len (pa_cons (pv 2) pa_nil)) pa_nil))) (fun _ _ => rfl)) pa_nil)))) pss_nil)
      (pss_cons (ps_set (i := 6) sc__law_second_term.nd rfl (Or.inl rfl) (pe_call (ok__law_retold T) (hr.mono (by decide)) rfl T.g__law_retold T.F__law_retold.kp T.b__law_retold .nil passN (pa_cons (pv 1) (pa_cons (pv 3) (pa_cons (pv 5) (pa_cons (pe_lst pa_nil) pa_nil))))))
      (pss_cons (ps_if (pt_cmpR op_gt (pv 4) pe_int (nomark _)) (pss_one (ps_ret (pe_call (ok__law_changed_tell T) (hr.mono (by decide)) rfl T.g__law_changed_tell T.F__law_changed_tell.kp T.b__law_changed_tell .nil passN (pa_cons (pv 0) (pa_cons (pv 6) (pa_cons (pe_ix ix_list (pv 1) pe_int (fun _ _ => rfl)) pa_nil)))))) pss_nil)
      (pss_one (ps_ret (pv 6))))))))),
      (sSeq (sAsg (sCall (sCons sVar (sCons sInt sNil))) sName)
      (sSeq (sIfS (sTest (sOp roEq sVar sInt)) (sRet (sCall (sCons sVar (sCons sVar (sCons sVar sNil))))) sNext)
      (sSeq (sAsg (sCall (sCons sVar (sCons sVar sNil))) sName)
      (sSeq (sIfS (sTest (sOp roEq sVar sInt)) (sDrop (sApp sVar (sOp roIxL sVar (sCall (sCons sVar (sCons (sCB rcLen (sCons sVar sNil)) sNil)))))) sNext)
      (sSeq (sAsg (sCall (sCons sVar (sCons sVar (sCons sRest (sCons (sLst sNil) sNil))))) sName)
      (sSeq (sIfS (sTest (sOp roBl0 sVar sInt)) (sRet (sCall (sCons sVar (sCons sVar (sCons (sOp roIxL sVar sInt) sNil))))) sNext)
      (sRet sVar)))))))⟩) (fun ds μ Φ Ψ h => ?hv)
  case hv =>
    obtain ⟨st, ns, c, ws, oc, ps, t, rfl, hc, sc, hw, o1, o4, hne, h5, h100, h64, ht, hd, h⟩ := h
    refine seq_cut fun M hM => ?_
    walk_at "wp"
    refine ⟨st, ns, c, 6, rfl, hc, sc, by omega, log_small (n := 6) (by omega), fun y c1 y0 y1 sc1 => ?_⟩
    show M _ _
    rw [hM]; clear hM M
    refine seq_cut fun M hM => ?_
    walk_at "wp"
    refine ⟨fun _ => ⟨st, ns, c1, ws, oc, ps, rfl, sset_same, sc1, hw, o1, o4, hne, h5, h100, h64, fun u c2 a1 a2 a3 a4 sc2 => by rw [sset_sset]; exact ret_same (h u c2 a1 a2 a3 a4 sc2)⟩, fun _ => ?_⟩
    rw [hM]; clear hM M
    refine seq_cut fun M hM => ?_
    walk_at "wp"
    refine ⟨st, ns, c1, ps, rfl, sset_same, sc1, by omega, fun qs c2 a hq sc2 ha => ?_⟩
    have hast : a ≠ st := fun z => by rw [z, sset_same] at ha; cases ha
    have haμ : μ a = none := by rw [sset_ne hast] at ha; exact ha
    have hps : ∀ c, (sset μ st (.lst c)) a = none := fun c => by rw [sset_ne hast]; exact haμ
    rw [sset_sset]
    show M _ _
    rw [hM]; clear hM M
    refine seq_cut fun M hM => ?_
    have go : ∀ (zs : List Nat) (c3 : List D), zs.length ≤ 6 → (∀ q ∈ zs, q ∈ ps) → lkO ws zs ≤ 300 → StC ns c3 → M [some (.hd (.ref st)), some (.lst [.tup (ws.map .int), .int (oc : Int)]), some (.lst (nI ps)), some (qD t), some (.int y), some (.hd (.ref a)), none] (sset (sset μ st (.lst c3)) a (.lst (nI zs))) := fun zs c3 hzl hz hlk sc3 => by
      obtain ⟨r1, r2, r3, r4⟩ := rtQ_ok (A := []) (l := []) hw ht zs (by rw [hs]; simp) fun q hq => h100 q (hz q hq)
      rw [hM]
      refine seq_cut fun N hN => ?_
      walk_at "wp"
      refine ⟨by omega, ws, oc, t, [], zs, [], rfl, hw, ht, by omega, by simp; omega, by rw [hs]; simp, by rw [List.nil_append]; exact fun q hq => h100 q (hz q hq), by omega, ?_⟩
      show N _ _
      rw [hN]; clear hN N
      refine seq_cut fun N hN => ?_
      generalize rtQ ws t [] zs [] = u at *
      walk_at "wp"
      refine ⟨fun _ => ⟨st, ns, c3, ws, oc, u, rfl, by rw [sset_ne hast.symm, sset_same], sc3, hw, o1, r1, by omega, fun v c4 b1 b2 b3 b4 sc4 => ?_⟩, fun _ => ?_⟩
      · rw [sset_comm hast, sset_sset]
        exact ⟨sset μ st (.lst c4), Sub.set Sub.refl (hps c4), h v c4 b1 (by omega) (fun q hq => hz q (r3 q (b3 q hq))) (by omega) sc4⟩
      · rw [hN]; clear hN N
        walk_at "wps"
        exact ⟨sset μ st (.lst c3), Sub.set Sub.refl (hps c3), h u c3 r1 (by omega) (fun q hq => hz q (r3 q hq)) (by omega) sc3⟩
    have hql := hq.length_eq
    have hqp := hs_perm (ws := ws) hq
    have bd := lkO_bd hw (A := qs) (by omega)
    have bd2 : (qs.length - 2) * 64 ≤ 3 * 64 := Nat.mul_le_mul_right _ (by omega)
    walk_at "wp"
    refine ⟨fun _ => ?_, fun _ => go qs c2 (by omega) (fun q hq2 => hq.mem_iff.mp hq2) (by omega) sc2⟩
    rw [nI_len]
    have hpl : 0 < ps.length := List.length_pos_iff.mpr hne
    refine ⟨st, ns, c2, _, rfl, by rw [sset_ne hast.symm, sset_same], sc2, by omega, log_small (by omega), fun x c3 x0 x1 sc3 => ?_⟩
    obtain ⟨x, rfl⟩ : ∃ m : Nat, x = (m : Int) := ⟨x.toNat, by omega⟩
    have hx : x < ps.length := by omega
    rw [sset_comm hast, sset_sset]
    walk_at "wp"
    refine ⟨_, nI_at hx, by rw [nI_len]; omega, ?_⟩
    have en : nI qs ++ [D.int ((ps[x] : Nat) : Int)] = nI (qs ++ [ps[x]]) := by unfold nI; rw [List.map_append]; rfl
    rw [en]
    have e1 : lkO ws [ps[x]] ≤ 1 := by simp [lkO]
    refine go _ c3 (by rw [List.length_append, List.length_singleton]; omega) (fun q hq2 => ?_) ?_ sc3
    · rcases List.mem_append.mp hq2 with z | z
      · exact hq.mem_iff.mp z
      · rw [List.mem_singleton.mp z]; exact List.getElem_mem hx
    · rw [lkO_app]
      have := Nat.mul_le_mul_left (hs ws qs).length e1
      omega
end
section
variable {P : Program} {w : World} {K : Fg} {mg : Str → Option Value} {base : Heap}
mutual
theorem same_refl : ∀ d : D, plainD d = true → sameD d d = true
  | .non, _ => rfl
  | .bl b, _ => by simp [sameD]
  | .int b, _ => by simp [sameD]
  | .str b, _ => by simp [sameD]
  | .tup ds, h => by
    simp only [plainD, Bool.and_eq_true] at h
    simp only [sameD]
    exact sames_refl ds h.1
  | .lst _, h => by simp [plainD] at h
  | .pr _, h => by simp [plainD] at h
  | .obj _ _ _, h => by simp [plainD] at h
  | .hd _, h => by simp [plainD] at h
  | .scr _, h => by simp [plainD] at h
theorem sames_refl : ∀ ds : List D, plainDs ds = true → sameDs ds ds = true
  | [], _ => rfl
  | d :: ds, h => by simp only [plainDs, Bool.and_eq_true] at h; simp only [sameDs, same_refl d h.1, sames_refl ds h.2, Bool.and_self]
end
/-- may be compared -/
structure Pln (d : D) (n : Nat) : Prop where
  p : plainD d = true
  d : depD d ≤ n
theorem same_self {d : D} {μ : Sto} {Φ : DK} {Ψ : XD → Sto → Prop} (h0 : Pln d 30) (h : Φ (.bl true) μ) : c__law_same 30 [d, d] μ Φ Ψ := same_at h0.p h0.p h0.d (by rw [same_refl d h0.p]; exact h)
theorem plainDs_ints : ∀ l : List Int, plainDs (l.map .int) = true
  | [] => rfl
  | a :: l => by simp only [List.map_cons, plainDs, plainD, plainDs_ints l, Bool.and_self]
theorem depDs_ints : ∀ l : List Int, depDs (l.map .int) ≤ 1
  | [] => by simp [depDs]
  | a :: l => by have := depDs_ints l; simp only [List.map_cons, depDs, depD]; omega
theorem Pln.int {i : Int} {n : Nat} : Pln (.int i) (n + 1) := ⟨rfl, by simp [depD]⟩
theorem Pln.str {i : Str} {n : Nat} : Pln (.str i) (n + 1) := ⟨rfl, by simp [depD]⟩
theorem Pln.ints {l : List Int} {n : Nat} (h : l.length ≤ 1000) : Pln (.tup (l.map .int)) (n + 2) :=
  ⟨by simp only [plainD, plainDs_ints, List.length_map, Bool.true_and, decide_eq_true_eq]; omega, by have := depDs_ints l; simp only [depD]; omega⟩
theorem pln_all : ∀ {ds : List D} {n : Nat}, (∀ d ∈ ds, Pln d n) → plainDs ds = true ∧ depDs ds ≤ n
  | [], n, h => ⟨rfl, by simp [depDs]⟩
  | d :: ds, n, h => by
    obtain ⟨a, b⟩ := pln_all (ds := ds) (n := n) fun e he => h e (List.mem_cons_of_mem _ he)
    have c := h d List.mem_cons_self
    exact ⟨by simp only [plainDs, a, c.p, Bool.and_self], by have := c.d; simp only [depDs]; omega⟩
theorem Pln.tup {ds : List D} {n : Nat} (hl : ds.length ≤ 1000) (h : ∀ d ∈ ds, Pln d n) : Pln (.tup ds) (n + 1) := by
  obtain ⟨a, b⟩ := pln_all h
  exact ⟨by simp only [plainD, a, Bool.true_and, decide_eq_true_eq]; omega, by simp only [depD]; omega⟩
theorem Pln.up {d : D} {n m : Nat} (h : Pln d n) (hl : n ≤ m) : Pln d m := ⟨h.p, Nat.le_trans h.d hl⟩
theorem pln_q {ws : List Int} {oc : Nat} (hw : WsOk ws) : ∀ t : QT, QOk ws oc t → Pln (qD t) (qDep t + 2) := fun t => by
  induction t using QT.ind with
  | h1 o =>
    intro _
    rw [qD]
    refine Pln.tup (n := 1) (by simp) fun d hd => ?_
    rcases List.mem_cons.mp hd with z | z
    · rw [z]; exact Pln.str
    · rw [List.mem_singleton.mp z]; exact Pln.int
  | h2 p ts ih =>
    intro h
    obtain ⟨hp, hl, ht⟩ := h
    rw [qoks_iff] at ht
    have := hw.wd1 p
    rw [qD, qDep]
    refine Pln.tup (n := qDep.qDeps ts + 2) (by rw [List.length_cons, List.length_cons, qDs_len]; omega) fun d hd => ?_
    rcases List.mem_cons.mp hd with z | z
    · rw [z]; exact Pln.str
    · rcases List.mem_cons.mp z with z | z
      · rw [z]; exact Pln.int
      · rw [qDs_map] at z
        obtain ⟨u, hu, rfl⟩ := List.mem_map.mp z
        exact (ih u hu (ht u hu)).up (by have := qdeps_le hu; omega)
theorem same_I {i : Int} {μ : Sto} {Φ : DK} {Ψ : XD → Sto → Prop} (h : Φ (.bl true) μ) : c__law_same 30 [.int i, .int i] μ Φ Ψ := same_self (Pln.int (n := 29)) h
theorem same_N {l : List Nat} {μ : Sto} {Φ : DK} {Ψ : XD → Sto → Prop} (hl : l.length ≤ 1000) (h : Φ (.bl true) μ) : c__law_same 30 [.tup (nI l), .tup (nI l)] μ Φ Ψ := by
  have p : Pln (.tup (nI l)) 30 := by rw [nI_ints]; exact (Pln.ints (n := 28) (by rw [List.length_map]; exact hl))
  exact same_self p h
theorem rep0 : ∀ n : Nat, (List.replicate n [D.int 0]).flatten = nI (List.replicate n 0)
  | 0 => rfl
  | n + 1 => by rw [List.replicate_succ, List.flatten_cons, rep0 n]; rfl
section
variable {P : Program} {w : World} {K : Fg} {mg : Str → Option Value} {base : Heap}
theorem okN__law_same (T : Txt P w K mg) : ∀ n, FnOk P w K mg base (L2N.CX P w) n T.f__law_same T.d__law_same ["_law_actual", "_law_due"] (spOf K (c__law_same n))
  | 0 => fn_never fun ds μ Φ Ψ h => h
  | n + 1 => step__law_same T (Nat.zero_le _) n (okN__law_same T n)
theorem ok__law_same (T : Txt P w K mg) : FnOk P w K mg base (L2N.CX P w) 30 T.f__law_same T.d__law_same ["_law_actual", "_law_due"] (spOf K (c__law_same 30)) := okN__law_same T 30
end
def c__law_entries : Con := fun ds μ Φ _ => ∃ (ps c : List Nat), ds = [.lst (nI ps), .lst (nI c)] ∧ ps.Pairwise (· < ·) ∧ ps.length ≤ 16 ∧ (∀ q ∈ ps, q < 100) ∧ c.length = ps.length ∧ Φ (.tup (nI (rowE (rd ps c)))) μ
theorem len__law_entries {ds μ Φ Ψ} (h : c__law_entries ds μ Φ Ψ) : ds.length = 2 := by obtain ⟨_, _, rfl, _⟩ := h; rfl
theorem rd_at {ps c : List Nat} (hs : ps.Pairwise (· < ·)) {i : Nat} (h : i < ps.length) : rd ps c ps[i] = c.getD i 0 := by
  unfold rd
  congr 1
  have h1 : ps.idxOf ps[i] < ps.length := List.idxOf_lt_length_iff.mpr (List.getElem_mem h)
  have h2 : ps[ps.idxOf ps[i]] = ps[i] := List.getElem_idxOf h1
  rcases Nat.lt_trichotomy (ps.idxOf ps[i]) i with z | z | z
  · have := List.pairwise_iff_getElem.mp hs _ _ h1 h z; omega
  · exact z
  · have := List.pairwise_iff_getElem.mp hs _ _ h h1 z; omega
theorem ER_pad {f g : Nat → Nat} {n p y : Nat} (hn : n ≤ p) (hz : ∀ q, n ≤ q → g q = 0) (hg : ∀ q, f q = if q = p then y else g q) : ER f (p + 1) = ER g n ++ List.replicate (p - n) 0 ++ [y] := by
  obtain ⟨m, rfl⟩ : ∃ m, p = n + m := ⟨p - n, by omega⟩
  unfold ER
  rw [List.range_succ, List.map_append, List.range_add, List.map_append, List.map_map]
  congr 1
  · congr 1
    · refine List.map_congr_left fun q hq => ?_
      have := List.mem_range.mp hq
      rw [hg, if_neg (by omega)]
    · rw [show n + m - n = m by omega, List.eq_replicate_iff]
      refine ⟨by simp, fun b hb => ?_⟩
      obtain ⟨q, hq, rfl⟩ := List.mem_map.mp hb
      have := List.mem_range.mp hq
      show f (n + q) = 0
      rw [hg, if_neg (by omega), hz _ (by omega)]
  · show [f (n + m)] = _
    rw [hg, if_pos rfl]
theorem ok__law_entries {cx : CXT} (T : Txt P w K mg) : FnOk P w K mg base cx 1 T.f__law_entries T.d__law_entries ["_law_places", "_law_head"] (spOf K c__law_entries) := by
  refine def_okC T.F__law_entries sc__law_entries _ (fun ds μ Φ Ψ h => len__law_entries h) (fun cdv A outer s H E B hW hr =>
    ⟨_, (pss_cons (ps_set (i := 2) sc__law_entries.nd rfl (Or.inl rfl) (pe_lst pa_nil))
      (pss_cons (ps_for (passes_of rfl) rfl (pi_range1 rfl T.z_range (pa_cons (pe_callB call_len_seq (by rfl) T.z_len PySem.boot_len (pa_cons (pv 0) pa_nil)) pa_nil)) (pg_name (i := 3) sc__law_entries.nd rfl (Or.inl rfl)) (pss_one (ps_if (pt_cmpR op_gt (pe_ix ix_list (pv 1) (pv 3) (fun _ _ => rfl)) pe_int (nomark _)) (pss_one (ps_set (i := 2) sc__law_entries.nd rfl (Or.inl rfl) (pe_op op_cat (pe_op op_cat (pv 2) (pe_op op_rep (pe_lst (pa_cons pe_int pa_nil)) (pe_op op_sub (pe_ix ix_list (pv 0) (pv 3) (fun _ _ => rfl)) (pe_callB call_len_seq (by rfl) T.z_len PySem.boot_len (pa_cons (pv 2) pa_nil))))) (pe_lst (pa_cons (pe_ix ix_list (pv 1) (pv 3) (fun _ _ => rfl)) pa_nil))))) pss_nil)))
      (pss_one (ps_ret (pe_callTy call_tupleN (by rfl) T.z_tuple (by decide +kernel) (pa_cons (pv 2) pa_nil)))))),
      (sSeq (sAsg (sLst sNil) sName)
      (sSeq (sFor (siR1 (sCB rcLen (sCons sVar sNil))) (fun _ _ _ => sName) (fun _ _ _ => (sIfS (sTest (sOp roBl0 (sOp roIxL sVar sVar) sInt)) (sAsg (sOp roCatL (sOp roCatL sVar (sOp roRepL (sLst (sCons sInt sNil)) (sOp roInt0 (sOp roIxL sVar sVar) (sCB rcLen (sCons sVar sNil))))) (sLst (sCons (sOp roIxL sVar sVar) sNil))) sName) sNext)))
      (sRet (sCB rcTuple (sCons sVar sNil)))))⟩) (fun ds μ Φ Ψ h => ?hv)
  case hv =>
    obtain ⟨ps, c, rfl, hs', h16, h100, hcl, h⟩ := h
    refine seq_cut fun M hM => ?_
    walk_at "wp"
    refine ⟨by omega, ?_⟩
    rw [hM]; clear hM M
    refine seq_cut fun M hM => ?_
    walk_at "wp"
    rw [nI_len]
    refine ⟨by omega, by omega, fun i δ' μ' => μ' = μ ∧ ∃ (n : Nat) (g : Nat → Nat) (x : Option D), δ' = [some (.lst (nI ps)), some (.lst (nI c)), some (.lst (nI (ER g n))), x] ∧ n ≤ 100 ∧ (∀ q, g q = if q ∈ ps.take i then rd ps c q else 0) ∧ (∀ q, n ≤ q → g q = 0) ∧ (∀ m, n = m + 1 → g m ≠ 0) ∧ ∀ j (hj : j < ps.length), i ≤ j → n ≤ ps[j], ⟨rfl, 0, fun _ => 0, none, rfl, by omega, fun q => by rw [List.take_zero]; simp, fun q _ => rfl, fun m e => by omega, fun j hj _ => Nat.zero_le _⟩, ?_, ?_⟩
    · rintro i d δ' μ' hi ⟨rfl, n, g, x, rfl, n100, w1, w2, w3, w4⟩
      obtain ⟨hj, rfl⟩ := rngD_get hi
      have hci : i < c.length := by omega
      have hp100 := h100 _ (List.getElem_mem hj)
      have hnp := w4 i hj (Nat.le_refl _)
      have rdi := rd_at (c := c) hs' hj
      rw [List.getD_eq_getElem?_getD, List.getElem?_eq_getElem hci] at rdi
      have rdi : rd ps c ps[i] = c[i] := rdi
      have nxt : ∀ j (hj2 : j < ps.length), i + 1 ≤ j → ps[i] < ps[j] := fun j hj2 hij => List.pairwise_iff_getElem.mp hs' i j hj hj2 (by omega)
      have tk : ∀ q, q ∈ ps.take (i + 1) ↔ q ∈ ps.take i ∨ q = ps[i] := fun q => by rw [List.take_add_one, List.getElem?_eq_getElem hj, List.mem_append]; simp
      have nin : ps[i] ∉ ps.take i := fun z => by
        obtain ⟨j, hj2, e⟩ := List.mem_iff_getElem.mp z
        rw [List.length_take] at hj2
        rw [List.getElem_take] at e
        have := List.pairwise_iff_getElem.mp hs' j i (by omega) hj (by omega)
        omega
      walk_at "wp"
      refine ⟨_, nI_at hci, ?_⟩
      walk_at "wp"
      refine ⟨fun z => ?_, fun z => ?_⟩
      · refine ⟨by omega, _, nI_at hj, ?_⟩
        walk_at "wp"
        have el : ((ps[i] : Int) - ((nI (ER g n)).length : Int)).toNat = ps[i] - n := by rw [nI_len, show (ER g n).length = n by simp [ER]]; omega
        have el2 : (nI (ER g n)).length = n := by rw [nI_len]; simp [ER]
        rw [el, rep0, el2, nI_len, List.length_replicate]
        refine ⟨by omega, by omega, by omega, by omega, _, nI_at hci, by omega, by rw [List.length_append, el2, nI_len, List.length_replicate]; omega, ?_⟩
        refine ⟨ps[i] + 1, fun q => if q = ps[i] then c[i] else g q, some (.int (i : Int)), ?_, by omega, fun q => ?_, fun q hq => ?_, fun m hm => ?_, fun j hj2 hij => nxt j hj2 hij⟩
        · rw [ER_pad (f := fun q => if q = ps[i] then c[i] else g q) hnp w2 fun q => rfl]
          unfold nI
          rw [List.map_append, List.map_append]
          rfl
        · show (if q = ps[i] then c[i] else g q) = _
          by_cases e : q = ps[i]
          · rw [if_pos e, if_pos ((tk _).mpr (.inr e)), e, rdi]
          · have : q ∈ ps.take (i + 1) ↔ q ∈ ps.take i := by rw [tk]; simp [e]
            rw [if_neg e, w1]
            simp only [this]
        · show (if q = ps[i] then c[i] else g q) = 0
          rw [if_neg (by omega)]
          exact w2 q (by omega)
        · obtain rfl : m = ps[i] := by omega
          show ¬ (if ps[i] = ps[i] then c[i] else g ps[i]) = 0
          rw [if_pos rfl]
          omega
      · have c0 : c[i] = 0 := by omega
        refine ⟨n, g, _, rfl, n100, fun q => ?_, w2, w3, fun j hj2 hij => w4 j hj2 (by omega)⟩
        rw [w1]
        by_cases e : q = ps[i]
        · rw [e, if_neg nin, if_pos ((tk _).mpr (.inr rfl)), rdi, c0]
        · have : q ∈ ps.take (i + 1) ↔ q ∈ ps.take i := by rw [tk]; simp [e]
          simp only [this]
    · rintro δ' μ' ⟨rfl, n, g, x, rfl, n100, w1, w2, w3, w4⟩
      rw [hM]; clear hM M
      walk_at "wps"
      have eg : g = rd ps c := funext fun q => by
        rw [w1, List.take_length]
        by_cases z : q ∈ ps
        · rw [if_pos z]
        · rw [if_neg z]
          unfold rd
          have hn2 : ¬ ps.idxOf q < ps.length := fun y => z (List.idxOf_lt_length_iff.mp y)
          rw [List.getD_eq_getElem?_getD, List.getElem?_eq_none (by omega)]
          rfl
      subst eg
      unfold rowE at h
      rw [trm_uniq n100 (fun q h1 _ => w2 q h1) w3] at h
      exact ret_same h
def tupO : Option (List Nat) → D
  | none => .non
  | some l => .tup (nI l)
def rowO2 (C : Addr) : Option (List Nat) → D
  | none => .non
  | some l => rwO C ⟨zI l, [0]⟩
def c__law_is_row (C : Addr) : Con := fun ds μ Φ _ => ∃ (o : Option (List Nat)), ds = [rowO2 C o, tupO o] ∧ (∀ l, o = some l → l.length ≤ 100) ∧ Φ (.bl true) μ
theorem len__law_is_row {C ds μ Φ Ψ} (h : c__law_is_row C ds μ Φ Ψ) : ds.length = 2 := by obtain ⟨_, rfl, _⟩ := h; rfl
theorem ok__law_is_row (T : Txt P w K mg) : FnOk P w K mg base (L2N.CX P w) 31 T.f__law_is_row T.d__law_is_row ["_law_actual", "_law_due"] (spOf K (c__law_is_row T.c_Row)) := by
  refine def_okC T.F__law_is_row sc__law_is_row _ (fun ds μ Φ Ψ h => len__law_is_row h) (fun cdv A outer s H E B hW hr =>
    have tk : L2N.Takes (cxOf (L2N.CX P w) P w K mg base N__law_is_row "_law_is_row" (defScope s__law_is_row) T.f__law_is_row cdv A outer s H E) (fun cls d _ H => E cls d H) := L2N.takes_of rfl rfl rfl rfl
    ⟨_, (pss_cons (ps_if (pt_cmpR op_isN (pv 1) pe_non (nomark _)) (pss_one (ps_ret (pe_cmpR op_isN (pv 0) pe_non (nomark _)))) pss_nil)
      (pss_one (ps_ret (pe_and (pe_callB call_isi (by rfl) T.z_isinstance (by decide +kernel) (pa_cons (pv 0) (pa_cons (pe_glob (v := .ref T.c_Row) rfl T.g_Row rfl) pa_nil))) (pe_one (pe_call (ok__law_same T) (hr.mono (by decide)) rfl T.g__law_same T.F__law_same.kp T.b__law_same .nil passN (pa_cons (pe_tupN (pa_cons (pe_fld (pv 0) rfl) (pa_cons (pe_fld (pv 0) rfl) pa_nil))) (pa_cons (pe_tupN (pa_cons (pv 1) (pa_cons (pe_tupN (pa_cons pe_int pa_nil)) pa_nil))) pa_nil)))))))),
      (sSeq (sIfS (sTest (sOp roIsN sVar sNon)) (sRet (sOp roIsN sVar sNon)) sNext)
      (sRet (sAndV (sCB (rcIsiO T.ki_Row) (sCons sVar (sCons sHd sNil))) (sCall (sCons (sTup (sCons (sFldO (NS := NS_Row) (i := 0) T.cls_Row T.na_Row_head rfl (by decide) sVar) (sCons (sFldO (NS := NS_Row) (i := 1) T.cls_Row T.na_Row_cycle rfl (by decide) sVar) sNil))) (sCons (sTup (sCons sVar (sCons (sTup (sCons sInt sNil)) sNil))) sNil))))))⟩) (fun ds μ Φ Ψ h => ?hv)
  case hv =>
    obtain ⟨o, rfl, ho, h⟩ := h
    cases o with
    | none =>
      unfold rowO2 tupO
      walk_at "wps"
      exact ret_same h
    | some l =>
      have hl := ho l rfl
      unfold rowO2 tupO rwO
      walk_at "wps"
      refine ⟨by omega, by omega, by omega, ?_⟩
      rw [show (zI l).map D.int = nI l from (nI_ints l).symm]
      refine same_self ((Pln.tup (n := 4) (by simp) fun d hd => ?_).up (by omega)) (ret_same h)
      rcases List.mem_cons.mp hd with z | z
      · rw [z, nI_ints]; exact (Pln.ints (n := 0) (by rw [List.length_map]; omega)).up (by omega)
      · rw [List.mem_singleton.mp z]; exact (Pln.ints (l := [0]) (n := 0) (by simp)).up (by omega)
def c__law_needs (C : Addr) : Con := fun ds μ Φ _ => ∃ (ws : List Int) (oc : Nat) (ps nd : List Nat) (t : QT), ds = [qO C t ws oc, .tup (nI nd)] ∧ QFit ws oc ps t ∧ nd.Pairwise (· < ·) ∧ (∀ q, q ∈ nd ↔ q ∈ qPl (stl ws t)) ∧ Φ (.bl true) μ
theorem len__law_needs {C ds μ Φ Ψ} (h : c__law_needs C ds μ Φ Ψ) : ds.length = 2 := by obtain ⟨_, _, _, _, _, rfl, _⟩ := h; rfl
theorem rch_last {l nd : List Nat} (hn : nd.Pairwise (· < ·)) (hm : ∀ q, q ∈ nd ↔ q ∈ l) : rch l = if h : 0 < nd.length then nd[nd.length - 1] + 1 else 0 := by
  by_cases h : 0 < nd.length
  · rw [dif_pos h]
    have a1 := rch_lt ((hm _).mp (List.getElem_mem (l := nd) (n := nd.length - 1) (by omega)))
    refine Nat.le_antisymm (rch_le fun q hq => ?_) a1
    obtain ⟨j, hj, rfl⟩ := List.mem_iff_getElem.mp ((hm q).mpr hq)
    by_cases e : j = nd.length - 1
    · subst e; omega
    · have := List.pairwise_iff_getElem.mp hn j (nd.length - 1) hj (by omega) (by omega)
      omega
  · rw [dif_neg h]
    cases l with
    | nil => rfl
    | cons a l =>
      have := List.length_pos_of_mem ((hm a).mpr List.mem_cons_self)
      omega
theorem sort_uniq {a b : List Nat} (ha : a.Pairwise (· < ·)) (hb : b.Pairwise (· < ·)) (h : ∀ q, q ∈ a ↔ q ∈ b) : a = b := by
  refine List.Perm.eq_of_pairwise (le := (· < ·)) (fun x y _ _ h1 h2 => by omega) ha hb ?_
  rw [List.perm_iff_count]
  intro q
  have na : a.Nodup := ha.imp fun z => by omega
  have nb : b.Nodup := hb.imp fun z => by omega
  by_cases z : q ∈ a
  · have h1 := List.nodup_iff_count.mp na q
    have h2 := List.nodup_iff_count.mp nb q
    have h3 := List.count_pos_iff.mpr z
    have h4 := List.count_pos_iff.mpr ((h q).mp z)
    omega
  · rw [List.count_eq_zero.mpr z, List.count_eq_zero.mpr fun y => z ((h q).mpr y)]
theorem nI_last {l : List Nat} (h : 0 < l.length) : atI (nI l) (-1) = some (.int ((l[l.length - 1] : Nat) : Int)) := by
  have e : l = l.dropLast ++ [l[l.length - 1]] := by
    rw [← List.getLast_eq_getElem (by intro z; rw [z] at h; cases h), List.dropLast_concat_getLast]
  conv => lhs; rw [e]
  unfold nI
  rw [List.map_append]
  exact atI_last
theorem ok__law_needs (T : Txt P w K mg) : FnOk P w K mg base (L2N.CX P w) 63 T.f__law_needs T.d__law_needs ["_law_query", "_law_needed_here"] (spOf K (c__law_needs T.c_Query)) := by
  refine def_okC T.F__law_needs sc__law_needs _ (fun ds μ Φ Ψ h => len__law_needs h) (fun cdv A outer s H E B hW hr =>
    have tk : L2N.Takes (cxOf (L2N.CX P w) P w K mg base N__law_needs "_law_needs" (defScope s__law_needs) T.f__law_needs cdv A outer s H E) (fun cls d _ H => E cls d H) := L2N.takes_of rfl rfl rfl rfl
    ⟨_, (pss_cons (ps_set (i := 2) sc__law_needs.nd rfl (Or.inl rfl) pe_int)
      (pss_cons (ps_if (pt_cmpR op_gt (pe_callB call_len_seq (by rfl) T.z_len PySem.boot_len (pa_cons (pv 1) pa_nil)) pe_int (nomark _)) (pss_one (ps_set (i := 2) sc__law_needs.nd rfl (Or.inl rfl) (pe_op op_add (pe_ix ix_tup (pv 1) (pe_un un_neg pe_int) (fun _ _ => rfl)) pe_int))) pss_nil)
      (pss_one (ps_ret (pe_and (pe_call (ok__law_same T) (hr.mono (by decide)) rfl T.g__law_same T.F__law_same.kp T.b__law_same .nil passN (pa_cons (pe_call (ok_needed_places T) hr rfl T.g_needed_places T.F_needed_places.kp T.b_needed_places .nil passN (pa_cons (pv 0) pa_nil)) (pa_cons (pv 1) pa_nil))) (pe_one (pe_call (ok__law_same T) (hr.mono (by decide)) rfl T.g__law_same T.F__law_same.kp T.b__law_same .nil passN (pa_cons (pe_call (ok_query_reach T) hr rfl T.g_query_reach T.F_query_reach.kp T.b_query_reach .nil passN (pa_cons (pv 0) pa_nil)) (pa_cons (pv 2) pa_nil))))))))),
      (sSeq (sAsg sInt sName)
      (sSeq (sIfS (sTest (sOp roBl0 (sCB rcLen (sCons sVar sNil)) sInt)) (sAsg (sOp roInt0 (sOp roIxT sVar (sUn ruInt sInt)) sInt) sName) sNext)
      (sRet (sAndV (sCall (sCons (sCall (sCons sVar sNil)) (sCons sVar sNil))) (sCall (sCons (sCall (sCons sVar sNil)) (sCons sVar sNil)))))))⟩) (fun ds μ Φ Ψ h => ?hv)
  case hv =>
    obtain ⟨ws, oc, ps, nd, t, rfl, hf, hn, hm, h⟩ := h
    refine seq_cut fun M hM => ?_
    walk_at "wp"
    rw [hM]; clear hM M
    refine seq_cut fun M hM => ?_
    walk_at "wp"
    rw [nI_len]
    have hpl := (stl_of hf).pl
    have p100 := (stl_of hf).p100
    have hr := (rch_last (l := qPl (stl ws t)) (nd := nd) hn hm)
    have nl : nd.length ≤ 100 := by
      have := nodup_leN (l := nd) (m := List.range 100) (hn.imp fun z => by omega) fun q hq => List.mem_range.mpr (p100 q ((hm q).mp hq))
      rwa [List.length_range] at this
    have fin : M [some (qO T.c_Query t ws oc), some (.tup (nI nd)), some (.int (rc ws t : Int))] μ := by
      rw [hM]; clear hM M
      walk_at "wps"
      refine ⟨ws, oc, ps, t, rfl, hf, fun ms hms hmm => ?_⟩
      obtain rfl : ms = nd := sort_uniq hms hn fun q => by rw [hmm, hm]
      exact same_N (by omega) ⟨true, rfl, fun _ => ⟨ws, oc, ps, t, rfl, hf, same_I (ret_same h)⟩, nofun⟩
    refine ⟨fun z => ?_, fun z => ?_⟩
    · have h0 : 0 < nd.length := by omega
      refine ⟨_, nI_last h0, ?_⟩
      walk_at "wp"
      rw [show (((nd[nd.length - 1] : Nat) : Int) + 1) = (rc ws t : Int) by unfold rc; rw [hr, dif_pos h0]; omega]
      exact fin
    · have h0 : ¬ 0 < nd.length := by omega
      rw [show (0 : Int) = (rc ws t : Int) by unfold rc; rw [hr, dif_neg h0]; rfl]
      exact fin
end
section
variable {P : Program} {w : World} {K : Fg} {mg : Str → Option Value} {base : Heap}
def c__law_ask (C R O S L : Addr) : Con := fun ds μ Φ Ψ => ∃ (how : Int) (q q2 : D) (o : Int), ds = [.int how, q, q2, .int o] ∧ ((how = 0 → c_least_row C R O [q, .int o] μ Φ Ψ) ∧ (how ≠ 0 → c_parting_row C R S L [q, q2] μ Φ Ψ))
theorem len__law_ask {C R O S L ds μ Φ Ψ} (h : c__law_ask C R O S L ds μ Φ Ψ) : ds.length = 4 := by obtain ⟨_, _, _, _, rfl, _⟩ := h; rfl
theorem ok__law_ask (T : Txt P w K mg) : FnOk P w K mg base (L2N.CX P w) 64 T.f__law_ask T.d__law_ask ["_law_how", "_law_first", "_law_second", "_law_outcome"] (spOf K (c__law_ask T.c_Query T.c_Row T.c_OutOfRange T.c_SizeMismatch T.c_TooLarge)) := by
  refine def_okC T.F__law_ask sc__law_ask _ (fun ds μ Φ Ψ h => len__law_ask h) (fun cdv A outer s H E B hW hr =>
    have tk : L2N.Takes (cxOf (L2N.CX P w) P w K mg base N__law_ask "_law_ask" (defScope s__law_ask) T.f__law_ask cdv A outer s H E) (fun cls d _ H => E cls d H) := L2N.takes_of rfl rfl rfl rfl
    ⟨_, (pss_cons (ps_if (pt_cmpR op_eq (pv 0) pe_int (nomark _)) (pss_one (ps_ret (pe_callS (ok_least_row T) hr rfl T.g_least_row T.F_least_row.kp T.b_least_row (fun σ => L2N.passAt tk σ) (pa_cons (pv 1) (pa_cons (pv 3) pa_nil))))) pss_nil)
      (pss_one (ps_ret (pe_callS (ok_parting_row T) hr rfl T.g_parting_row T.F_parting_row.kp T.b_parting_row (fun σ => L2N.passAt tk σ) (pa_cons (pv 1) (pa_cons (pv 2) pa_nil)))))),
      (sSeq (sIfS (sTest (sOp roEq sVar sInt)) (sRet (sCallSW (W := fun cls d _ H => E cls d H) (by exact hW) (sCons sVar (sCons sVar sNil)))) sNext)
      (sRet (sCallSW (W := fun cls d _ H => E cls d H) (by exact hW) (sCons sVar (sCons sVar sNil)))))⟩) (fun ds μ Φ Ψ h => ?hv)
  case hv =>
    obtain ⟨how, q, q2, o, rfl, h1, h2⟩ := h
    walk_at "wps"
    refine ⟨fun z => ?_, fun z => ?_⟩
    · obtain ⟨ws, oc, ps, t, o', e, hf, a1, a2⟩ := h1 z
      exact ⟨ws, oc, ps, t, o', e, hf, fun c => ⟨_, Sub.refl, a1 c⟩, fun r er hr => ret_same (a2 r er hr)⟩
    · obtain ⟨ws, ws', oc, oc', ps, ps', t, t', e, hf, hf', a1, a2, a3⟩ := h2 z
      exact ⟨ws, ws', oc, oc', ps, ps', t, t', e, hf, hf', fun c => ⟨_, Sub.refl, a1 c⟩, fun c c2 => ⟨_, Sub.refl, a2 c c2⟩, fun c c2 nd n1 n2 => ⟨fun c3 => ⟨_, Sub.refl, (a3 c c2 nd n1 n2).1 c3⟩, fun c3 => ret_same ((a3 c c2 nd n1 n2).2 c3)⟩⟩
def xk (O S L : Addr) (k : Nat) : XD := if k = 1 then .mk O none else if k = 2 then .mk S none else .mk L none
def xr (k : Nat) : D := if k = 0 then .tup [] else .tup [.int (if k = 1 then 1 else 0), .int (if k = 2 then 1 else 0), .int (if k = 3 then 1 else 0)]
def c__law_refused (C R O S L : Addr) : Con := fun ds μ Φ _ => ∃ (how : Int) (q q2 : D) (o : Int) (k : Nat), ds = [.int how, q, q2, .int o] ∧ k < 4 ∧ c__law_ask C R O S L [.int how, q, q2, .int o] μ (fun _ μ' => k = 0 ∧ μ' = μ) (fun x μ' => k ≠ 0 ∧ x = xk O S L k ∧ μ' = μ) ∧ Φ (xr k) μ
theorem len__law_refused {C R O S L ds μ Φ Ψ} (h : c__law_refused C R O S L ds μ Φ Ψ) : ds.length = 4 := by obtain ⟨_, _, _, _, _, rfl, _⟩ := h; rfl
theorem ask_mono {C R O S L : Addr} {ds : List D} {μ : Sto} {Φ Φ2 : D → Sto → Prop} {Ψ Ψ2 : XD → Sto → Prop} (h : c__law_ask C R O S L ds μ Φ Ψ) (hp : ∀ d μ', Φ d μ' → Φ2 d μ') (hx : ∀ x μ', Ψ x μ' → Ψ2 x μ') : c__law_ask C R O S L ds μ Φ2 Ψ2 := by
  obtain ⟨how, q, q2, o, rfl, h1, h2⟩ := h
  refine ⟨how, q, q2, o, rfl, fun z => ?_, fun z => ?_⟩
  · obtain ⟨ws, oc, ps, t, o', e, hf, a1, a2⟩ := h1 z
    exact ⟨ws, oc, ps, t, o', e, hf, fun c => hx _ _ (a1 c), fun r er hr => hp _ _ (a2 r er hr)⟩
  · obtain ⟨ws, ws', oc, oc', ps, ps', t, t', e, hf, hf', a1, a2, a3⟩ := h2 z
    exact ⟨ws, ws', oc, oc', ps, ps', t, t', e, hf, hf', fun c => hx _ _ (a1 c), fun c c2 => hx _ _ (a2 c c2), fun c c2 nd n1 n2 => ⟨fun c3 => hx _ _ ((a3 c c2 nd n1 n2).1 c3), fun c3 => hp _ _ ((a3 c c2 nd n1 n2).2 c3)⟩⟩
theorem ok__law_refused (T : Txt P w K mg) : FnOk P w K mg base (L2N.CX P w) 65 T.f__law_refused T.d__law_refused ["_law_how", "_law_first", "_law_second", "_law_outcome"] (spOf K (c__law_refused T.c_Query T.c_Row T.c_OutOfRange T.c_SizeMismatch T.c_TooLarge)) := by
  refine def_okC T.F__law_refused sc__law_refused _ (fun ds μ Φ Ψ h => len__law_refused h) (fun cdv A outer s H E B hW hr =>
    have tk : L2N.Takes (cxOf (L2N.CX P w) P w K mg base N__law_refused "_law_refused" (defScope s__law_refused) T.f__law_refused cdv A outer s H E) (fun cls d _ H => E cls d H) := L2N.takes_of rfl rfl rfl rfl
    ⟨_, (pss_cons (L2N.ps_try_as (i := 4) rfl rfl sc__law_refused.nd rfl rfl ⟨rfl, by decide, .inl T.g_ChoosersError⟩ tk (fun W pn xe tk pown => (pss_one (ps_expr (pe_callS (ok__law_ask T) hr rfl T.g__law_ask T.F__law_ask.kp T.b__law_ask (fun σ => L2N.passAt tk σ) (pa_cons (pv 0) (pa_cons (pv 1) (pa_cons (pv 2) (pa_cons (pv 3) pa_nil))))))))
      (fun a oe cls d pn hz hf => (pss_cons (ps_if (PW.pt (pw_or (pt_val (pe_callB (call_isH hz hf) (by rfl) T.z_isinstance (by decide +kernel) (pa_cons (pv 4) (pa_cons (pe_glob (v := .ref T.c_InvalidTerm) rfl T.g_InvalidTerm rfl) pa_nil)))) (pw_or1 (pt_not (pt_val (pe_callB (call_isH hz hf) (by rfl) T.z_isinstance (by decide +kernel) (pa_cons (pv 4) (pa_cons (pe_bltn (v := .ty "ValueError") rfl T.z_ValueError (by decide +kernel) rfl) pa_nil)))))))) (pss_one (ps_ret (pe_tupN (pa_cons pe_int (pa_cons pe_int (pa_cons pe_int pa_nil)))))) pss_nil)
      (pss_one (ps_ret (pe_tupN (pa_cons (pe_callTy call_int1 (by rfl) T.z_int (by decide +kernel) (pa_cons (pe_callB (call_isH hz hf) (by rfl) T.z_isinstance (by decide +kernel) (pa_cons (pv 4) (pa_cons (pe_glob (v := .ref T.c_OutOfRange) rfl T.g_OutOfRange rfl) pa_nil))) pa_nil)) (pa_cons (pe_callTy call_int1 (by rfl) T.z_int (by decide +kernel) (pa_cons (pe_callB (call_isH hz hf) (by rfl) T.z_isinstance (by decide +kernel) (pa_cons (pv 4) (pa_cons (pe_glob (v := .ref T.c_SizeMismatch) rfl T.g_SizeMismatch rfl) pa_nil))) pa_nil)) (pa_cons (pe_callTy call_int1 (by rfl) T.z_int (by decide +kernel) (pa_cons (pe_callB (call_isH hz hf) (by rfl) T.z_isinstance (by decide +kernel) (pa_cons (pv 4) (pa_cons (pe_glob (v := .ref T.c_TooLarge) rfl T.g_TooLarge rfl) pa_nil))) pa_nil)) pa_nil)))))))))
      (pss_one (ps_ret (pe_tupN pa_nil)))),
      (sSeq (sTryAs (c := .ref T.c_ChoosersError) (i := 4) hW (fun W B hW => (sDrop (sCallSW (W := W) (by exact hW) (sCons sVar (sCons sVar (sCons sVar (sCons sVar sNil)))))))
      (fun a cls dd x B hW rx => (sSeq (sIfS (sOr (sB (sIsE rx (sCons sVar (sCons sHd sNil)))) (sNot (sB (sIsE rx (sCons sVar (sCons sHd sNil)))))) (sRet (sTup (sCons sInt (sCons sInt (sCons sInt sNil))))) sNext)
      (sRet (sTup (sCons (sCB rcInt (sCons (sIsE rx (sCons sVar (sCons sHd sNil))) sNil)) (sCons (sCB rcInt (sCons (sIsE rx (sCons sVar (sCons sHd sNil))) sNil)) (sCons (sCB rcInt (sCons (sIsE rx (sCons sVar (sCons sHd sNil))) sNil)) sNil))))))))
      (sRet (sTup sNil)))⟩) (fun ds μ Φ Ψ h => ?hv)
  case hv =>
    obtain ⟨how, q, q2, o, k, rfl, k4, ha, h⟩ := h
    refine seq_cut fun M hM => ?_
    walk_at "wp"
    refine ask_mono ha (fun d μ' ⟨e, em⟩ => ?_) (fun x μ' ⟨e, ex, em⟩ => ?_)
    · subst e em
      rw [hM]; clear hM M
      walk_at "wps"
      exact ⟨by omega, ret_same (show Φ (.tup []) _ from h)⟩
    · subst ex em
      rcases (show k = 1 ∨ k = 2 ∨ k = 3 by omega) with rfl | rfl | rfl
      · refine ⟨true, T.m_OutOfRange_ChoosersError, fun _ a hfree => ?_, fun z => by cases z⟩
        refine seq_cut fun N hN => ?_
        walk_at "wp"
        refine ⟨false, T.i_OutOfRange_InvalidTerm, T.ec_OutOfRange, nofun, fun _ => ⟨true, T.i_OutOfRange_ValueError, T.ec_OutOfRange, nofun, fun _ => ?_⟩⟩
        rw [hN]; clear hN N
        walk_at "wps"
        refine ⟨true, T.i_OutOfRange_OutOfRange, T.ec_OutOfRange, 0, .inr ⟨true, rfl, ?_⟩⟩
        refine ⟨false, T.i_OutOfRange_SizeMismatch, T.ec_OutOfRange, 0, .inr ⟨false, rfl, ?_⟩⟩
        refine ⟨false, T.i_OutOfRange_TooLarge, T.ec_OutOfRange, 0, .inr ⟨false, rfl, ?_⟩⟩
        exact ⟨by omega, ret_same h⟩
      · refine ⟨true, T.m_SizeMismatch_ChoosersError, fun _ a hfree => ?_, fun z => by cases z⟩
        refine seq_cut fun N hN => ?_
        walk_at "wp"
        refine ⟨false, T.i_SizeMismatch_InvalidTerm, T.ec_SizeMismatch, nofun, fun _ => ⟨true, T.i_SizeMismatch_ValueError, T.ec_SizeMismatch, nofun, fun _ => ?_⟩⟩
        rw [hN]; clear hN N
        walk_at "wps"
        refine ⟨false, T.i_SizeMismatch_OutOfRange, T.ec_SizeMismatch, 0, .inr ⟨false, rfl, ?_⟩⟩
        refine ⟨true, T.i_SizeMismatch_SizeMismatch, T.ec_SizeMismatch, 0, .inr ⟨true, rfl, ?_⟩⟩
        refine ⟨false, T.i_SizeMismatch_TooLarge, T.ec_SizeMismatch, 0, .inr ⟨false, rfl, ?_⟩⟩
        exact ⟨by omega, ret_same h⟩
      · refine ⟨true, T.m_TooLarge_ChoosersError, fun _ a hfree => ?_, fun z => by cases z⟩
        refine seq_cut fun N hN => ?_
        walk_at "wp"
        refine ⟨false, T.i_TooLarge_InvalidTerm, T.ec_TooLarge, nofun, fun _ => ⟨true, T.i_TooLarge_ValueError, T.ec_TooLarge, nofun, fun _ => ?_⟩⟩
        rw [hN]; clear hN N
        walk_at "wps"
        refine ⟨false, T.i_TooLarge_OutOfRange, T.ec_TooLarge, 0, .inr ⟨false, rfl, ?_⟩⟩
        refine ⟨false, T.i_TooLarge_SizeMismatch, T.ec_TooLarge, 0, .inr ⟨false, rfl, ?_⟩⟩
        refine ⟨true, T.i_TooLarge_TooLarge, T.ec_TooLarge, 0, .inr ⟨true, rfl, ?_⟩⟩
        exact ⟨by omega, ret_same h⟩
theorem find_idx {L : List (List Nat)} {f : List Nat → Nat} {r : Nat} : L.find? (fun c => decide (f c = r)) = L[(L.map f).idxOf r]? := by
  induction L with
  | nil => rfl
  | cons c L ih =>
    rw [List.find?_cons, List.map_cons, List.idxOf_cons]
    by_cases e : f c = r
    · rw [decide_eq_true e]
      have : (f c == r) = true := by simp [e]
      rw [this]; rfl
    · rw [decide_eq_false e, ih]
      have : (f c == r) = false := by simp [e]
      rw [this]; rfl
theorem find_congr {L : List (List Nat)} {p q : List Nat → Bool} (h : ∀ c ∈ L, p c = q c) : L.find? p = L.find? q := by
  induction L with
  | nil => rfl
  | cons c L ih =>
    rw [List.find?_cons, List.find?_cons, h c List.mem_cons_self, ih fun c hc => h c (List.mem_cons_of_mem _ hc)]
theorem tl_stl {ws : List Int} {oc : Nat} {qs ps l : List Nat} {t : QT} (hf : QFit ws oc qs t) (h : l ∈ hs ws ps) : tl (stl ws t) ps l = tl t ps l := (stl_of hf).an _ (rd_lt hf.w h)
theorem rd_pf {ps : List Nat} {path : List (Nat × Nat)} (hs : ps.Pairwise (· < ·)) (hk : ∀ z ∈ path, z.1 ∈ ps) : rd ps (ps.map (pf path)) = pf path := funext fun q => by
  by_cases z : q ∈ ps
  · obtain ⟨i, hi, rfl⟩ := List.mem_iff_getElem.mp z
    rw [rd_at hs hi, List.getD_eq_getElem?_getD, List.getElem?_map, List.getElem?_eq_getElem hi]
    rfl
  · rw [pf_out fun y hy e => z (by rw [← e]; exact hk y hy)]
    unfold rd
    have h3 : ¬ ps.idxOf q < ps.length := fun y => z (List.idxOf_lt_length_iff.mp y)
    rw [List.getD_eq_getElem?_getD, List.getElem?_eq_none (by simp; omega)]
    rfl
/-- the head of the first row of a kind -/
def fr (ws : List Int) (ps : List Nat) (P : List Nat → Bool) : Option (List Nat) := ((hs ws ps).find? P).map fun c => rowE (rd ps c)
theorem optR_eq (C : Addr) (o : Option (List (Nat × Nat))) : optR C o = rowO2 C (o.map fun path => rowE (pf path)) := by cases o <;> rfl
theorem fr_pth {ws : List Int} {oc r : Nat} {qs ps : List Nat} {t : QT} (hf : QFit ws oc qs t) (hs' : ps.Pairwise (· < ·)) (hp : ∀ q ∈ qPl (stl ws t), q ∈ ps) : (pth r (stl ws t)).map (fun path => rowE (pf path)) = fr ws ps fun c => decide (tl t ps c = r) := by
  unfold fr
  rw [find_congr (q := fun c => decide (tl (stl ws t) ps c = r)) fun c hc => by rw [tl_stl hf hc], find_pth hf.w ps _ 0 (stl_of hf).is hs' hp]
  cases e : pth r (stl ws t) with
  | none => rfl
  | some path =>
    show some (rowE (pf path)) = some (rowE (rd ps (ps.map (pf path))))
    rw [rd_pf hs' fun z hz => hp _ (pth_keys _ _ e z hz)]
theorem fr_len {ws : List Int} {ps : List Nat} {P : List Nat → Bool} : ∀ l, fr ws ps P = some l → l.length ≤ 100 := fun l h => by
  unfold fr at h
  obtain ⟨c, _, rfl⟩ := Option.map_eq_some_iff.mp h
  exact rowE_len _
def c__law_least_rows (C R : Addr) : Con := fun ds μ Φ _ => ∃ (ws : List Int) (oc : Nat) (ps qs : List Nat) (t : QT), ds = [qO C t ws oc, .int (oc : Int), .lst (nI ps), .lst (headsD (hs ws ps)), .lst (nI ((hs ws ps).map (tl t ps)))] ∧ QFit ws oc qs t ∧ ps.Pairwise (· < ·) ∧ ps.length ≤ 16 ∧ (∀ q ∈ qPl (stl ws t), q ∈ ps) ∧ (∀ q ∈ ps, q < 100) ∧ (hs ws ps).length ≤ 256 ∧ Φ (.bl true) μ
theorem len__law_least_rows {C R ds μ Φ Ψ} (h : c__law_least_rows C R ds μ Φ Ψ) : ds.length = 5 := by obtain ⟨_, _, _, _, _, rfl, _⟩ := h; rfl
theorem ok__law_least_rows (T : Txt P w K mg) : FnOk P w K mg base (L2N.CX P w) 64 T.f__law_least_rows T.d__law_least_rows ["_law_query", "_law_outcomes", "_law_places", "_law_heads_here", "_law_told"] (spOf K (c__law_least_rows T.c_Query T.c_Row)) := by
  refine def_okC T.F__law_least_rows sc__law_least_rows _ (fun ds μ Φ Ψ h => len__law_least_rows h) (fun cdv A outer s H E B hW hr =>
    have tk : L2N.Takes (cxOf (L2N.CX P w) P w K mg base N__law_least_rows "_law_least_rows" (defScope s__law_least_rows) T.f__law_least_rows cdv A outer s H E) (fun cls d _ H => E cls d H) := L2N.takes_of rfl rfl rfl rfl
    ⟨_, (pss_cons (ps_for (passes_of rfl) rfl (pi_range1 rfl T.z_range (pa_cons (pv 1) pa_nil)) (pg_name (i := 5) sc__law_least_rows.nd rfl (Or.inl rfl)) (pss_cons (ps_set (i := 6) sc__law_least_rows.nd rfl (Or.inl rfl) pe_non)
      (pss_cons (ps_if (pt_cmpR op_in_seq (pv 5) (pv 4) (by with_unfolding_all rfl)) (pss_one (ps_set (i := 6) sc__law_least_rows.nd rfl (Or.inl rfl) (pe_call (ok__law_entries T) (hr.mono (by decide)) rfl T.g__law_entries T.F__law_entries.kp T.b__law_entries .nil passN (pa_cons (pv 2) (pa_cons (pe_ix ix_list (pv 3) (pe_bm PySem.F.plainAttrs_list PySem.F.slot_list_index PySem.F.type_list_index mt_index (pv 4) (pa_cons (pv 5) pa_nil)) (fun _ _ => rfl)) pa_nil))))) pss_nil)
      (pss_one (ps_if (pt_not (pt_val (pe_call (ok__law_is_row T) (hr.mono (by decide)) rfl T.g__law_is_row T.F__law_is_row.kp T.b__law_is_row .nil passN (pa_cons (pe_callS (ok_least_row T) hr rfl T.g_least_row T.F_least_row.kp T.b_least_row (fun σ => L2N.passAt tk σ) (pa_cons (pv 0) (pa_cons (pv 5) pa_nil))) (pa_cons (pv 6) pa_nil))))) (pss_one (ps_ret pe_bl)) pss_nil)))))
      (pss_one (ps_ret pe_bl))),
      (sSeq (sFor (siR1 sVar) (fun _ _ _ => sName) (fun _ _ _ => (sSeq (sAsg sNon sName)
      (sSeq (sIfS (sTest (sOp (roIn (neg := false)) sVar sVar)) (sAsg (sCall (sCons sVar (sCons (sOp roIxL sVar (sIdx sVar sVar)) sNil))) sName) sNext)
      (sIfS (sNot (sB (sCall (sCons (sCallSW (W := fun cls d _ H => E cls d H) (by exact hW) (sCons sVar (sCons sVar sNil))) (sCons sVar sNil))))) (sRet sBl) sNext)))))
      (sRet sBl))⟩) (fun ds μ Φ Ψ h => ?hv)
  case hv =>
    obtain ⟨ws, oc, ps, qs, t, rfl, hf, hs', h16, hp, h100, h256, h⟩ := h
    have ho := hf.o4
    refine seq_cut fun M hM => ?_
    walk_at "wp"
    refine ⟨by omega, by omega, fun i δ' μ' => ∃ (x y : Option D), δ' = [some (qO T.c_Query t ws oc), some (.int (oc : Int)), some (.lst (nI ps)), some (.lst (headsD (hs ws ps))), some (.lst (nI ((hs ws ps).map (tl t ps)))), x, y] ∧ μ' = μ, ⟨none, none, rfl, rfl⟩, ?_, ?_⟩
    · rintro i d δ' μ' hi ⟨x, y, rfl, rfl⟩
      obtain ⟨hj, rfl⟩ := rngD_get hi
      have hir : i < oc := by simpa using hj
      refine seq_cut fun N hN => ?_
      walk_at "wp"
      rw [hN]; clear hN N
      refine seq_cut fun N hN => ?_
      have fin : N [some (qO T.c_Query t ws oc), some (.int (oc : Int)), some (.lst (nI ps)), some (.lst (headsD (hs ws ps))), some (.lst (nI ((hs ws ps).map (tl t ps)))), some (.int (i : Int)), some (tupO (fr ws ps fun c => decide (tl t ps c = i)))] μ' := by
        rw [hN]; clear hN N
        walk_at "wp"
        refine ⟨ws, oc, qs, t, _, rfl, hf, fun z => absurd (by omega) z, fun r er hr => ?_⟩
        obtain rfl : i = r := by omega
        rw [optR_eq, fr_pth hf hs' hp]
        exact ⟨_, rfl, fr_len, true, rfl, nofun, fun _ => ⟨_, _, rfl, rfl⟩⟩
      walk_at "wp"
      refine in_N ⟨.lst _, _, rfl, fun q => ?_, fun q => ?_⟩
      · have hin : i ∈ (hs ws ps).map (tl t ps) := by simpa using q
        have hj2 := List.idxOf_lt_length_iff.mpr hin
        have hjl : ((hs ws ps).map (tl t ps)).idxOf i < (hs ws ps).length := by rw [List.length_map] at hj2; exact hj2
        have hc := List.getElem_mem hjl
        have ef : (fr ws ps fun c => decide (tl t ps c = i)) = some (rowE (rd ps (hs ws ps)[((hs ws ps).map (tl t ps)).idxOf i])) := by unfold fr; rw [find_idx, List.getElem?_eq_getElem hjl]; rfl
        rw [ef] at fin
        refine ⟨rfl, by rw [nI_ints]; exact flat_I _, _, .int (i : Int), by unfold nI; rw [List.getElem?_map, List.getElem?_eq_getElem hj2, List.getElem_idxOf hj2]; rfl, by simp [eqF], fun m z' hm hz => ?_, .lst (nI (hs ws ps)[((hs ws ps).map (tl t ps)).idxOf i]), atI_nat (by unfold headsD; rw [List.getElem?_map, List.getElem?_eq_getElem hjl]; rfl), ps, _, rfl, hs', h16, h100, (hs_mem.mp hc).1, fin⟩
        obtain ⟨hm2, rfl⟩ := nI_get hz
        have : ((hs ws ps).map (tl t ps))[m] ≠ i := idx_first hm (List.getElem?_eq_getElem hm2)
        have : ¬ ((((hs ws ps).map (tl t ps))[m] : Nat) : Int) = (i : Int) := fun e => this (Int.ofNat.inj e)
        show (((((hs ws ps).map (tl t ps))[m] : Nat) : Int) == (i : Int)) = false
        exact beq_eq_false_iff_ne.mpr this
      · have hin : i ∉ (hs ws ps).map (tl t ps) := by simpa using q
        have ef : (fr ws ps fun c => decide (tl t ps c = i)) = none := by
          unfold fr
          have hn : ¬ ((hs ws ps).map (tl t ps)).idxOf i < ((hs ws ps).map (tl t ps)).length := fun y => hin (List.idxOf_lt_length_iff.mp y)
          rw [List.length_map] at hn
          rw [find_idx, List.getElem?_eq_none (by omega)]
          rfl
        rw [ef] at fin
        exact fin
    · rintro δ' μ' ⟨x, y, rfl, rfl⟩
      rw [hM]; clear hM M
      walk_at "wps"
      exact ret_same h
theorem sub_of {nd ps : List Nat} (h1 : nd.Pairwise (· < ·)) (h2 : ps.Pairwise (· < ·)) (h : ∀ q ∈ nd, q ∈ ps) : nd.Sublist ps := by
  have e : ps.filter (fun q => decide (q ∈ nd)) = nd := sort_uniq (h2.sublist List.filter_sublist) h1 fun q => by
    rw [List.mem_filter, decide_eq_true_iff]
    exact ⟨fun z => z.2, fun z => ⟨h q z, z⟩⟩
  rw [← e]
  exact List.filter_sublist
theorem wpr_sub {ws : List Int} (hw : WsOk ws) {a b : List Nat} (h : a.Sublist b) : wpr ws a ≤ wpr ws b := by
  induction h with
  | slnil => exact Nat.le_refl _
  | cons p _ ih =>
    have := (hw.wd1 p).1
    rw [wpr]
    exact Nat.le_trans ih (Nat.le_mul_of_pos_left _ this)
  | cons_cons p _ ih => rw [wpr, wpr]; exact Nat.mul_le_mul (Nat.le_refl _) ih
theorem fr_pp {ws : List Int} {oc : Nat} {qs qs' ps nd : List Nat} {t t' : QT} (hf : QFit ws oc qs t) (hf' : QFit ws oc qs' t') (hs' : ps.Pairwise (· < ·)) (hp : ∀ q ∈ qPl (stl ws t), q ∈ ps) (hp' : ∀ q ∈ qPl (stl ws t'), q ∈ ps) (hn : nd.Pairwise (· < ·)) (hm : ∀ q, q ∈ nd ↔ q ∈ qPl (stl ws t) ∨ q ∈ qPl (stl ws t')) :
    (pp ws nd (stl ws t) (stl ws t')).map (fun path => rowE (pf path)) = fr ws ps fun c => decide (tl t ps c ≠ tl t' ps c) := by
  have sb : nd.Sublist ps := sub_of hn hs' fun q hq => ((hm q).mp hq).elim (hp q) (hp' q)
  unfold fr
  rw [find_congr (q := fun c => decide (tl (stl ws t) ps c ≠ tl (stl ws t') ps c)) fun c hc => by rw [tl_stl hf hc, tl_stl hf' hc], find_pp hf.w ps nd _ _ 0 0 (stl_of hf).is (stl_of hf').is hs' sb (fun q hq => (hm q).mpr (.inl hq)) fun q hq => (hm q).mpr (.inr hq)]
  cases e : pp ws nd (stl ws t) (stl ws t') with
  | none => rfl
  | some path =>
    show some (rowE (pf path)) = some (rowE (rd ps (ps.map (pf path))))
    rw [rd_pf hs' fun z hz => sb.subset (pp_keys _ _ _ _ e z hz)]
theorem hs_wpr (ws : List Int) (ps : List Nat) : (hs ws ps).length = wpr ws ps := by rw [← heads_hs, heads_len, wpl_wpr]
theorem part_ok {C R S L : Addr} {ws : List Int} {oc : Nat} {qs qs' ps : List Nat} {t t' : QT} (hf : QFit ws oc qs t) (hf' : QFit ws oc qs' t') (hs' : ps.Pairwise (· < ·)) (hp : ∀ q ∈ qPl (stl ws t), q ∈ ps) (hp' : ∀ q ∈ qPl (stl ws t'), q ∈ ps) (h256 : (hs ws ps).length ≤ 256) {μ : Sto} {Φ : DK} {Ψ : XD → Sto → Prop}
    (h : Φ (rowO2 R (fr ws ps fun c => decide (tl t ps c ≠ tl t' ps c))) μ) : c_parting_row C R S L [qO C t ws oc, qO C t' ws oc] μ Φ Ψ :=
  ⟨ws, ws, oc, oc, qs, qs', t, t', rfl, hf, hf', fun z => absurd rfl z, fun _ z => absurd rfl z, fun _ _ nd hn hm => by
    have sb := wpr_sub hf.w (sub_of hn hs' fun q hq => ((hm q).mp hq).elim (hp q) (hp' q))
    rw [hs_wpr] at h256
    refine ⟨fun big => by omega, fun _ => ?_⟩
    rw [optR_eq, fr_pp hf hf' hs' hp hp' hn hm]
    exact h⟩
theorem fr_swap {ws : List Int} {ps : List Nat} {t t' : QT} : (fr ws ps fun c => decide (tl t' ps c ≠ tl t ps c)) = fr ws ps fun c => decide (tl t ps c ≠ tl t' ps c) := by
  unfold fr
  rw [find_congr fun c _ => decide_eq_decide.mpr ⟨Ne.symm, Ne.symm⟩]
def c__law_parts (C R : Addr) : Con := fun ds μ Φ _ => ∃ (ws : List Int) (oc : Nat) (ps qs qs' : List Nat) (t t' : QT), ds = [qO C t ws oc, qO C t' ws oc, .lst (nI ps), .lst (headsD (hs ws ps)), .lst (nI ((hs ws ps).map (tl t ps))), .lst (nI ((hs ws ps).map (tl t' ps)))] ∧ QFit ws oc qs t ∧ QFit ws oc qs' t' ∧ ps.Pairwise (· < ·) ∧ ps.length ≤ 16 ∧ (∀ q ∈ ps, q < 100) ∧ (hs ws ps).length ≤ 256 ∧ (∀ q ∈ qPl (stl ws t), q ∈ ps) ∧ (∀ q ∈ qPl (stl ws t'), q ∈ ps) ∧ Φ (.bl true) μ
theorem len__law_parts {C R ds μ Φ Ψ} (h : c__law_parts C R ds μ Φ Ψ) : ds.length = 6 := by obtain ⟨_, _, _, _, _, _, _, rfl, _⟩ := h; rfl
theorem ok__law_parts (T : Txt P w K mg) : FnOk P w K mg base (L2N.CX P w) 64 T.f__law_parts T.d__law_parts ["_law_first", "_law_second", "_law_places", "_law_heads_here", "_law_one", "_law_two"] (spOf K (c__law_parts T.c_Query T.c_Row)) := by
  refine def_okC T.F__law_parts sc__law_parts _ (fun ds μ Φ Ψ h => len__law_parts h) (fun cdv A outer s H E B hW hr =>
    have tk : L2N.Takes (cxOf (L2N.CX P w) P w K mg base N__law_parts "_law_parts" (defScope s__law_parts) T.f__law_parts cdv A outer s H E) (fun cls d _ H => E cls d H) := L2N.takes_of rfl rfl rfl rfl
    ⟨_, (pss_cons (ps_set (i := 6) sc__law_parts.nd rfl (Or.inl rfl) pe_non)
      (pss_cons (ps_for (passes_of rfl) rfl (pi_range1 rfl T.z_range (pa_cons (pe_callB call_len_seq (by rfl) T.z_len PySem.boot_len (pa_cons (pv 3) pa_nil)) pa_nil)) (pg_name (i := 7) sc__law_parts.nd rfl (Or.inl rfl)) (pss_cons (ps_set (i := 8) sc__law_parts.nd rfl (Or.inl rfl) (pe_op op_sub (pe_op op_sub (pe_callB call_len_seq (by rfl) T.z_len PySem.boot_len (pa_cons (pv 3) pa_nil)) pe_int) (pv 7)))
      (pss_one (ps_if (pt_cmpR op_ne (pe_ix ix_list (pv 4) (pv 8) (fun _ _ => rfl)) (pe_ix ix_list (pv 5) (pv 8) (fun _ _ => rfl)) (nomark _)) (pss_one (ps_set (i := 6) sc__law_parts.nd rfl (Or.inl rfl) (pe_call (ok__law_entries T) (hr.mono (by decide)) rfl T.g__law_entries T.F__law_entries.kp T.b__law_entries .nil passN (pa_cons (pv 2) (pa_cons (pe_ix ix_list (pv 3) (pv 8) (fun _ _ => rfl)) pa_nil))))) pss_nil))))
      (pss_one (ps_ret (pe_and (pe_call (ok__law_is_row T) (hr.mono (by decide)) rfl T.g__law_is_row T.F__law_is_row.kp T.b__law_is_row .nil passN (pa_cons (pe_callS (ok_parting_row T) hr rfl T.g_parting_row T.F_parting_row.kp T.b_parting_row (fun σ => L2N.passAt tk σ) (pa_cons (pv 0) (pa_cons (pv 1) pa_nil))) (pa_cons (pv 6) pa_nil))) (pe_one (pe_call (ok__law_is_row T) (hr.mono (by decide)) rfl T.g__law_is_row T.F__law_is_row.kp T.b__law_is_row .nil passN (pa_cons (pe_callS (ok_parting_row T) hr rfl T.g_parting_row T.F_parting_row.kp T.b_parting_row (fun σ => L2N.passAt tk σ) (pa_cons (pv 1) (pa_cons (pv 0) pa_nil))) (pa_cons (pv 6) pa_nil))))))))),
      (sSeq (sAsg sNon sName)
      (sSeq (sFor (siR1 (sCB rcLen (sCons sVar sNil))) (fun _ _ _ => sName) (fun _ _ _ => (sSeq (sAsg (sOp roInt0 (sOp roInt0 (sCB rcLen (sCons sVar sNil)) sInt) sVar) sName)
      (sIfS (sTest (sOp roNe (sOp roIxL sVar sVar) (sOp roIxL sVar sVar))) (sAsg (sCall (sCons sVar (sCons (sOp roIxL sVar sVar) sNil))) sName) sNext))))
      (sRet (sAndV (sCall (sCons (sCallSW (W := fun cls d _ H => E cls d H) (by exact hW) (sCons sVar (sCons sVar sNil))) (sCons sVar sNil))) (sCall (sCons (sCallSW (W := fun cls d _ H => E cls d H) (by exact hW) (sCons sVar (sCons sVar sNil))) (sCons sVar sNil)))))))⟩) (fun ds μ Φ Ψ h => ?hv)
  case hv =>
    obtain ⟨ws, oc, ps, qs, qs', t, t', rfl, hf, hf', hs', h16, h100, h256, hp, hp', h⟩ := h
    refine seq_cut fun M hM => ?_
    walk_at "wp"
    rw [hM]; clear hM M
    have hl : (headsD (hs ws ps)).length = (hs ws ps).length := by unfold headsD; rw [List.length_map]
    refine seq_cut fun M hM => ?_
    walk_at "wp"
    rw [hl]
    refine ⟨by omega, by omega, fun i δ' μ' => ∃ (x y : Option D), δ' = [some (qO T.c_Query t ws oc), some (qO T.c_Query t' ws oc), some (.lst (nI ps)), some (.lst (headsD (hs ws ps))), some (.lst (nI ((hs ws ps).map (tl t ps)))), some (.lst (nI ((hs ws ps).map (tl t' ps)))), some (tupO ((((hs ws ps).drop ((hs ws ps).length - i)).find? fun c => decide (tl t ps c ≠ tl t' ps c)).map fun c => rowE (rd ps c))), x, y] ∧ μ' = μ, ⟨none, none, by rw [Nat.sub_zero, List.drop_length]; rfl, rfl⟩, ?_, ?_⟩
    · rintro i d δ' μ' hi ⟨x, y, rfl, rfl⟩
      obtain ⟨hj, rfl⟩ := rngD_get hi
      have hj : i < (hs ws ps).length := by simpa using hj
      have ep : ((headsD (hs ws ps)).length : Int) - 1 - (i : Int) = (((hs ws ps).length - 1 - i : Nat) : Int) := by rw [hl]; omega
      refine seq_cut fun N hN => ?_
      walk_at "wp"
      rw [ep, hN]; clear hN N
      walk_at "wp"
      generalize ek : (hs ws ps).length - 1 - i = k
      have hk : k < (hs ws ps).length := by omega
      have hc := List.getElem_mem hk
      have ed : (hs ws ps).drop ((hs ws ps).length - (i + 1)) = (hs ws ps)[k] :: (hs ws ps).drop ((hs ws ps).length - i) := by
        rw [show (hs ws ps).length - (i + 1) = k by omega, List.drop_eq_getElem_cons hk, show (hs ws ps).length - i = k + 1 by omega]
      rw [ed, List.find?_cons]
      refine ⟨_, nI_at (i := k) (by simpa using hk), _, nI_at (i := k) (by simpa using hk), ?_⟩
      rw [List.getElem_map, List.getElem_map]
      walk_at "wp"
      by_cases e : tl t ps (hs ws ps)[k] = tl t' ps (hs ws ps)[k]
      · rw [e]
        refine ⟨fun z => absurd z (by simp), fun _ => ?_⟩
        simp only [not_true_eq_false, decide_false]
        exact ⟨_, _, rfl⟩
      · have e2 : ¬ ((tl t ps (hs ws ps)[k] : Nat) : Int) = (tl t' ps (hs ws ps)[k] : Nat) := fun z => e (Int.ofNat.inj z)
        refine ⟨fun _ => ⟨_, atI_nat (by unfold headsD; rw [List.getElem?_map, List.getElem?_eq_getElem hk]; rfl), ps, _, rfl, hs', h16, h100, (hs_mem.mp hc).1, ?_⟩, fun z => absurd z (by rw [decide_eq_false e2]; decide)⟩
        rw [show decide (¬ tl t ps (hs ws ps)[k] = tl t' ps (hs ws ps)[k]) = true from decide_eq_true e]
        exact ⟨_, _, rfl, rfl⟩
    · rintro δ' μ' ⟨x, y, rfl, rfl⟩
      rw [hM]; clear hM M
      rw [Nat.sub_self, List.drop_zero]
      walk_at "wps"
      refine part_ok hf hf' hs' hp hp' h256 ⟨_, rfl, fr_len, true, rfl, fun _ => part_ok hf' hf hs' hp' hp h256 ?_, nofun⟩
      rw [fr_swap]
      exact ⟨_, rfl, fr_len, ret_same h⟩
end
section
variable {P : Program} {w : World} {K : Fg} {mg : Str → Option Value} {base : Heap}
theorem ref_out {C R O S L : Addr} {ws : List Int} {oc : Nat} {qs : List Nat} {t : QT} {q2 : D} {o : Int} {μ : Sto} {Φ : DK} {Ψ : XD → Sto → Prop} (hf : QFit ws oc qs t) (ho : ¬ (0 ≤ o ∧ o < (oc : Int))) (h : Φ (.tup [.int 1, .int 0, .int 0]) μ) :
    c__law_refused C R O S L [.int 0, qO C t ws oc, q2, .int o] μ Φ Ψ :=
  ⟨0, _, _, o, 1, rfl, by omega, ⟨0, _, _, o, rfl, fun _ => ⟨ws, oc, qs, t, o, rfl, hf, fun _ => ⟨by omega, rfl, rfl⟩, fun r er hr => absurd (by omega) ho⟩, fun z => absurd rfl z⟩, h⟩
theorem ref_in {C R O S L : Addr} {ws : List Int} {oc : Nat} {qs : List Nat} {t : QT} {q2 : D} {o : Int} {μ : Sto} {Φ : DK} {Ψ : XD → Sto → Prop} (hf : QFit ws oc qs t) (ho : 0 ≤ o ∧ o < (oc : Int)) (h : Φ (.tup []) μ) :
    c__law_refused C R O S L [.int 0, qO C t ws oc, q2, .int o] μ Φ Ψ :=
  ⟨0, _, _, o, 0, rfl, by omega, ⟨0, _, _, o, rfl, fun _ => ⟨ws, oc, qs, t, o, rfl, hf, fun z => absurd ho z, fun r er hr => ⟨rfl, rfl⟩⟩, fun z => absurd rfl z⟩, h⟩
theorem ref_mis {C R O S L : Addr} {ws ws' : List Int} {oc oc' : Nat} {qs qs' : List Nat} {t t' : QT} {o : Int} {μ : Sto} {Φ : DK} {Ψ : XD → Sto → Prop} (hf : QFit ws oc qs t) (hf' : QFit ws' oc' qs' t') (hd : ws = ws' → oc' ≠ oc) (h : Φ (.tup [.int 0, .int 1, .int 0]) μ) :
    c__law_refused C R O S L [.int 1, qO C t ws oc, qO C t' ws' oc', .int o] μ Φ Ψ :=
  ⟨1, _, _, o, 2, rfl, by omega, ⟨1, _, _, o, rfl, fun z => by omega, fun _ => ⟨ws, ws', oc, oc', qs, qs', t, t', rfl, hf, hf', fun _ => ⟨by omega, rfl, rfl⟩, fun _ _ => ⟨by omega, rfl, rfl⟩, fun a b => absurd b (hd a)⟩⟩, h⟩
theorem mv_ok {ws : List Int} (hw : WsOk ws) {a : Nat} (ha : a < ws.length) {v : Int} (hv : 1 ≤ v ∧ v ≤ 4) : WsOk (ws.take a ++ [v] ++ ws.drop (a + 1)) := by
  have := hw.l0
  have := hw.l1
  refine ⟨by simp; omega, by simp; omega, fun x hx => ?_⟩
  rcases List.mem_append.mp hx with z | z
  · rcases List.mem_append.mp z with y | y
    · exact hw.w x (List.mem_of_mem_take y)
    · rw [List.mem_singleton.mp y]; exact hv
  · exact hw.w x (List.mem_of_mem_drop z)
theorem mv_ne {ws : List Int} {a : Nat} (ha : a < ws.length) {v : Int} (hv : v ≠ ws[a]) : ws ≠ ws.take a ++ [v] ++ ws.drop (a + 1) := fun e => by
  have h : ws[a]? = (ws.take a ++ [v] ++ ws.drop (a + 1))[a]? := by rw [← e]
  rw [List.getElem?_eq_getElem ha, List.getElem?_append_left (by simp; omega), List.getElem?_append_right (by simp; omega)] at h
  simp at h
  rw [show a - min a ws.length = 0 by omega] at h
  simp at h
  exact hv h.symm
theorem st_ok {ws : List Int} (hw : WsOk ws) {a : Nat} (ha : a < ws.length) {l : List Int} (hl : ∀ x ∈ l, 1 ≤ x ∧ x ≤ 4) (l0 : 1 ≤ l.length) (l1 : a + l.length ≤ 6) : WsOk (ws.take a ++ l) := by
  refine ⟨by simp; omega, by simp; omega, fun x hx => ?_⟩
  rcases List.mem_append.mp hx with z | z
  · exact hw.w x (List.mem_of_mem_take z)
  · exact hl x z
theorem fit_tell {ws : List Int} {oc o : Nat} (hw : WsOk ws) (o1 : 1 ≤ oc) (o4 : oc ≤ 4) (ho : o < oc) : QFit ws oc [] (.tell o) := ⟨hw, o1, o4, ho, .nil, by simp, by simp [wpr], by simp [qPl], by simp [qPl], by simp [qDep]⟩
theorem eqD_refl3 (a b c : Int) : eqD (.tup [.int a, .int b, .int c]) (.tup [.int a, .int b, .int c]) = true := eqD_refl (by simp only [eqOk, eqOks, Bool.and_true])
theorem side3 (a b c : Int) : EqSide (.tup [.int a, .int b, .int c]) := ⟨by simp only [eqOk, eqOks, Bool.and_true], by simp [dpt, dpts]⟩
theorem ne3 {a b c : Int} {μ : Sto} {Φ : DK} (h : Φ (.bl false) μ) : oNeD (.tup [.int a, .int b, .int c]) (.tup [.int a, .int b, .int c]) μ Φ := ⟨side3 a b c, side3 a b c, by rw [eqD_refl3]; exact h⟩
theorem eq3 {a b c : Int} {μ : Sto} {Φ : DK} (h : Φ (.bl true) μ) : oEqD (.tup [.int a, .int b, .int c]) (.tup [.int a, .int b, .int c]) μ Φ := ⟨side3 a b c, side3 a b c, by rw [eqD_refl3]; exact h⟩
theorem eq0 {μ : Sto} {Φ : DK} (h : Φ (.bl true) μ) : oEqD (.tup []) (.tup []) μ Φ := ⟨⟨rfl, by simp [dpt, dpts]⟩, ⟨rfl, by simp [dpt, dpts]⟩, h⟩
def c__law_refuses (C R O S L : Addr) : Con := fun ds μ Φ _ => ∃ (st : Addr) (ns : List Int) (c : List D) (ws : List Int) (oc : Nat) (ps : List Nat) (t : QT), ds = [.hd (.ref st), qO C t ws oc, .tup (ws.map .int), .int (oc : Int)] ∧ μ st = some (.lst c) ∧ StC ns c ∧ QFit ws oc ps t ∧ ∀ c', StC ns c' → Φ (.bl true) (sset μ st (.lst c'))
theorem len__law_refuses {C R O S L ds μ Φ Ψ} (h : c__law_refuses C R O S L ds μ Φ Ψ) : ds.length = 4 := by obtain ⟨_, _, _, _, _, _, _, rfl, _⟩ := h; rfl
theorem ok__law_refuses (T : Txt P w K mg) : FnOk P w K mg base (L2N.CX P w) 66 T.f__law_refuses T.d__law_refuses ["_law_state", "_law_query", "_law_widths_here", "_law_outcomes"] (spOf K (c__law_refuses T.c_Query T.c_Row T.c_OutOfRange T.c_SizeMismatch T.c_TooLarge)) := by
  refine def_okC T.F__law_refuses sc__law_refuses _ (fun ds μ Φ Ψ h => len__law_refuses h) (fun cdv A outer s H E B hW hr =>
    have tk : L2N.Takes (cxOf (L2N.CX P w) P w K mg base N__law_refuses "_law_refuses" (defScope s__law_refuses) T.f__law_refuses cdv A outer s H E) (fun cls d _ H => E cls d H) := L2N.takes_of rfl rfl rfl rfl
    ⟨_, (pss_cons (ps_for (passes_of rfl) rfl (pi_list (pe_lst (pa_cons (pv 3) (pa_cons (pe_un un_neg pe_int) (pa_cons (pe_op op_add (pv 3) pe_int) pa_nil))))) (pg_name (i := 4) sc__law_refuses.nd rfl (Or.inl rfl)) (pss_one (ps_if (pt_cmpR (op_neD hr.units) (pe_call (ok__law_refused T) hr rfl T.g__law_refused T.F__law_refused.kp T.b__law_refused .nil passN (pa_cons pe_int (pa_cons (pv 1) (pa_cons (pv 1) (pa_cons (pv 4) pa_nil))))) (pe_tupN (pa_cons pe_int (pa_cons pe_int (pa_cons pe_int pa_nil)))) (nomark _)) (pss_one (ps_ret pe_bl)) pss_nil)))
      (pss_cons (ps_set (i := 5) sc__law_refuses.nd rfl (Or.inl rfl) (pe_call (ok__law_pick T) (hr.mono (by decide)) rfl T.g__law_pick T.F__law_pick.kp T.b__law_pick .nil passN (pa_cons (pv 0) (pa_cons (pe_callB call_len_seq (by rfl) T.z_len PySem.boot_len (pa_cons (pv 2) pa_nil)) pa_nil))))
      (pss_cons (ps_set (i := 6) sc__law_refuses.nd rfl (Or.inl rfl) (pe_op op_catN (pe_op op_catN (pe_slice sl_tupN (pv 2) po_none (po_some (pv 5))) (pe_tupN (pa_cons (pe_op op_add pe_int (pe_op op_mod (pe_callTy call_int1 (by rfl) T.z_int (by decide +kernel) (pa_cons (pe_ix ix_tup (pv 2) (pv 5) (fun _ _ => rfl)) pa_nil)) pe_int)) pa_nil))) (pe_slice sl_tupN (pv 2) (po_some (pe_op op_add (pv 5) pe_int)) po_none)))
      (pss_cons (ps_set (i := 7) sc__law_refuses.nd rfl (Or.inl rfl) (pe_makeS T.mk_Query (ok_Query___init__ T) (hr.mono (by decide)) rfl T.g_Query T.b_Query___init__ (fun σ => L2N.passAt tk σ) (pa_cons (pe_tupN (pa_cons pe_str (pa_cons (pe_op op_sub (pv 3) pe_int) pa_nil))) (pa_cons (pv 6) (pa_cons (pv 3) pa_nil)))))
      (pss_cons (ps_set (i := 8) sc__law_refuses.nd rfl (Or.inl rfl) (pe_makeS T.mk_Query (ok_Query___init__ T) (hr.mono (by decide)) rfl T.g_Query T.b_Query___init__ (fun σ => L2N.passAt tk σ) (pa_cons (pe_tupN (pa_cons pe_str (pa_cons pe_int pa_nil))) (pa_cons (pv 2) (pa_cons (pe_op op_add pe_int (pe_op op_mod (pe_callTy call_int1 (by rfl) T.z_int (by decide +kernel) (pa_cons (pv 3) pa_nil)) pe_int)) pa_nil)))))
      (pss_cons (ps_for (passes_of rfl) rfl (pi_list (pe_lst (pa_cons (pv 7) (pa_cons (pv 8) (pa_cons (pe_makeS T.mk_Query (ok_Query___init__ T) (hr.mono (by decide)) rfl T.g_Query T.b_Query___init__ (fun σ => L2N.passAt tk σ) (pa_cons (pe_tupN (pa_cons pe_str (pa_cons pe_int pa_nil))) (pa_cons (pe_op op_catN (pe_slice sl_tupN (pv 2) po_none (po_some (pv 5))) (pe_slice sl_tupN (pe_tupN (pa_cons pe_int (pa_cons pe_int (pa_cons pe_int (pa_cons pe_int pa_nil))))) po_none (po_some (pe_op op_sub pe_int (pv 5))))) (pa_cons (pe_op op_add pe_int (pe_op op_mod (pe_callTy call_int1 (by rfl) T.z_int (by decide +kernel) (pa_cons (pv 3) pa_nil)) pe_int)) pa_nil)))) pa_nil))))) (pg_name (i := 9) sc__law_refuses.nd rfl (Or.inl rfl)) (pss_one (ps_if (PW.pt (pw_or (pt_cmpR (op_neD hr.units) (pe_call (ok__law_refused T) hr rfl T.g__law_refused T.F__law_refused.kp T.b__law_refused .nil passN (pa_cons pe_int (pa_cons (pv 1) (pa_cons (pv 9) (pa_cons pe_int pa_nil))))) (pe_tupN (pa_cons pe_int (pa_cons pe_int (pa_cons pe_int pa_nil)))) (nomark _)) (pw_or1 (pt_cmpR (op_neD hr.units) (pe_call (ok__law_refused T) hr rfl T.g__law_refused T.F__law_refused.kp T.b__law_refused .nil passN (pa_cons pe_int (pa_cons (pv 9) (pa_cons (pv 1) (pa_cons pe_int pa_nil))))) (pe_tupN (pa_cons pe_int (pa_cons pe_int (pa_cons pe_int pa_nil)))) (nomark _))))) (pss_one (ps_ret pe_bl)) pss_nil)))
      (pss_one (ps_ret (pe_and (pe_cmpR (op_eqD hr.units) (pe_call (ok__law_refused T) hr rfl T.g__law_refused T.F__law_refused.kp T.b__law_refused .nil passN (pa_cons pe_int (pa_cons (pv 1) (pa_cons (pv 1) (pa_cons (pe_op op_sub (pv 3) pe_int) pa_nil))))) (pe_tupN pa_nil) (nomark _)) (pe_one (pe_cmpR op_isN (pe_callS (ok_parting_row T) (hr.mono (by decide)) rfl T.g_parting_row T.F_parting_row.kp T.b_parting_row (fun σ => L2N.passAt tk σ) (pa_cons (pv 1) (pa_cons (pv 1) pa_nil))) pe_non (nomark _)))))))))))),
      (sSeq (sFor (siL (sLst (sCons sVar (sCons (sUn ruInt sInt) (sCons (sOp roInt0 sVar sInt) sNil))))) (fun _ _ _ => sName) (fun _ _ _ => (sIfS (sTest (sOp roNeD (sCall (sCons sInt (sCons sVar (sCons sVar (sCons sVar sNil))))) (sTup (sCons sInt (sCons sInt (sCons sInt sNil)))))) (sRet sBl) sNext)))
      (sSeq (sAsg (sCall (sCons sVar (sCons (sCB rcLen (sCons sVar sNil)) sNil))) sName)
      (sSeq (sAsg (sOp roCatT (sOp roCatT (sSlT sVar sNoPart (sPart sVar)) (sTup (sCons (sOp roInt0 sInt (sOp roInt (sCB rcInt (sCons (sOp roIxT sVar sVar) sNil)) sInt)) sNil))) (sSlT sVar (sPart (sOp roInt0 sVar sInt)) sNoPart)) sName)
      (sSeq (sAsg (sMakeSW (W := fun cls d _ H => E cls d H) (by exact hW) (sCons (sTup (sCons sStr (sCons (sOp roInt0 sVar sInt) sNil))) (sCons sVar (sCons sVar sNil)))) sName)
      (sSeq (sAsg (sMakeSW (W := fun cls d _ H => E cls d H) (by exact hW) (sCons (sTup (sCons sStr (sCons sInt sNil))) (sCons sVar (sCons (sOp roInt0 sInt (sOp roInt (sCB rcInt (sCons sVar sNil)) sInt)) sNil)))) sName)
      (sSeq (sFor (siL (sLst (sCons sVar (sCons sVar (sCons (sMakeSW (W := fun cls d _ H => E cls d H) (by exact hW) (sCons (sTup (sCons sStr (sCons sInt sNil))) (sCons (sOp roCatT (sSlT sVar sNoPart (sPart sVar)) (sSlT (sTup (sCons sInt (sCons sInt (sCons sInt (sCons sInt sNil))))) sNoPart (sPart (sOp roInt0 sInt sVar)))) (sCons (sOp roInt0 sInt (sOp roInt (sCB rcInt (sCons sVar sNil)) sInt)) sNil)))) sNil))))) (fun _ _ _ => sName) (fun _ _ _ => (sIfS (sOr (sTest (sOp roNeD (sCall (sCons sInt (sCons sVar (sCons sVar (sCons sInt sNil))))) (sTup (sCons sInt (sCons sInt (sCons sInt sNil)))))) (sTest (sOp roNeD (sCall (sCons sInt (sCons sVar (sCons sVar (sCons sInt sNil))))) (sTup (sCons sInt (sCons sInt (sCons sInt sNil))))))) (sRet sBl) sNext)))
      (sRet (sAndV (sOp roEqD (sCall (sCons sInt (sCons sVar (sCons sVar (sCons (sOp roInt0 sVar sInt) sNil))))) (sTup sNil)) (sOp roIsN (sCallSW (W := fun cls d _ H => E cls d H) (by exact hW) (sCons sVar (sCons sVar sNil))) sNon)))))))))⟩) (fun ds μ Φ Ψ h => ?hv)
  case hv =>
    obtain ⟨st, ns, c, ws, oc, ps, t, rfl, hst, sc, hf, h⟩ := h
    have hw := hf.w
    have o1 := hf.o1
    have o4 := hf.o4
    refine seq_cut fun M hM => ?_
    walk_at "wp"
    refine ⟨by omega, fun i δ' μ' => ∃ (y4 y5 y6 y7 y8 y9 : Option D), δ' = [some (.hd (.ref st)), some (qO T.c_Query t ws oc), some (.tup (ws.map .int)), some (.int (oc : Int)), y4, y5, y6, y7, y8, y9] ∧ μ' = μ, ⟨_, _, _, _, _, _, rfl, rfl⟩, ?_, ?_⟩
    · rintro i d δ' μ' hi ⟨y4, y5, y6, y7, y8, y9, rfl, rfl⟩
      obtain ⟨o, rfl, ho⟩ : ∃ o : Int, d = .int o ∧ ¬ (0 ≤ o ∧ o < (oc : Int)) := by
        rcases i with _ | _ | _ | i
        · cases hi; exact ⟨_, rfl, by omega⟩
        · cases hi; exact ⟨_, rfl, by omega⟩
        · cases hi; exact ⟨_, rfl, by omega⟩
        · simp at hi
      walk_at "wp"
      refine ref_out hf ho ⟨by omega, ne3 ⟨false, rfl, nofun, fun _ => ⟨_, _, _, _, _, _, rfl, rfl⟩⟩⟩
    · rintro δ' μ' ⟨y4, y5, y6, y7, y8, y9, rfl, rfl⟩
      rw [hM]; clear hM M
      refine seq_cut fun M hM => ?_
      walk_at "wp"
      have w0 := hw.l0
      have w6 := hw.l1
      refine ⟨st, ns, c, _, rfl, hst, sc, by omega, log_small (n := ws.length) (by omega), fun a c1 a0 a1 sc => ?_⟩
      obtain ⟨a, rfl⟩ : ∃ m : Nat, a = (m : Int) := ⟨a.toNat, by omega⟩
      have ha : a < ws.length := by omega
      rw [hM]; clear hM M
      refine seq_cut fun M hM => ?_
      walk_at "wp"
      have wa := hw.w ws[a] (List.getElem_mem ha)
      refine ⟨_, atI_nat (by rw [List.getElem?_map, List.getElem?_eq_getElem ha]; rfl), _, .inl ⟨rfl, ?_⟩⟩
      walk_at "wp"
      have ev : List.take a (ws.map D.int) ++ [D.int (1 + ws[a] % 4)] ++ List.drop (a + 1) (ws.map D.int) = (ws.take a ++ [1 + ws[a] % 4] ++ ws.drop (a + 1)).map D.int := by rw [List.map_append, List.map_append, List.map_take, List.map_drop]; rfl
      have hmv := mv_ok hw ha (v := 1 + ws[a] % 4) (by omega)
      have hne := mv_ne (ws := ws) ha (v := 1 + ws[a] % 4) (by omega)
      rw [ev]
      refine ⟨by omega, by omega, by simp; omega, by simp; omega, ?_⟩
      generalize hmve : ws.take a ++ [1 + ws[a] % 4] ++ ws.drop (a + 1) = mv at *
      clear ev
      rw [hM]; clear hM M
      refine seq_cut fun M hM => ?_
      walk_at "wp"
      refine ⟨by omega, fun x hx => ⟨x, mv, oc, [], .tell (oc - 1), by rw [qD, show (oc : Int) - 1 = ((oc - 1 : Nat) : Int) by omega], sset_same, fit_tell hmv o1 o4 (by omega), rfl, NS_Query, _, sset_same, ?_⟩⟩
      rw [sset_sset, sdel_sset hx, hM]; clear hM M hx x
      refine seq_cut fun M hM => ?_
      walk_at "wp"
      obtain ⟨oc', eo, p1, p4, pne⟩ : ∃ oc' : Nat, 1 + (oc : Int) % 4 = (oc' : Int) ∧ 1 ≤ oc' ∧ oc' ≤ 4 ∧ oc' ≠ oc := ⟨1 + oc % 4, by omega, by omega, by omega, by omega⟩
      rw [eo]
      have e0 : D.tup [D.str (Str.ofString "tell"), D.int 0] = qD (.tell 0) := by rw [qD]; rfl
      rw [e0]
      refine ⟨by omega, by omega, fun x hx => ⟨x, ws, oc', [], .tell 0, rfl, sset_same, fit_tell hw p1 p4 (by omega), rfl, NS_Query, _, sset_same, ?_⟩⟩
      rw [sset_sset, sdel_sset hx, hM]; clear hM M hx x
      refine seq_cut fun M hM => ?_
      simp only [u_for, u_iL, u_lst, u_cons, u_nil, u_var, List.getElem?_cons_zero, List.getElem?_cons_succ, ex_some, Option.some.injEq, exists_eq_left']
      generalize hG : (fun (x : D) (μ1 : Sto) => [D.obj T.c_Query NS_Query [qD (QT.tell (oc - 1)), D.tup (List.map D.int mv), D.int (oc : Int)], D.obj T.c_Query NS_Query [qD (QT.tell 0), D.tup (List.map D.int ws), D.int (oc' : Int)], x].length ≤ 100000 ∧ _) = G
      rw [u_makeS]
      walk_at "wp"
      have ecut : List.take a (ws.map D.int) ++ DW.cutD [D.int 4, D.int 3, D.int 2, D.int 1] none (some (6 - (a : Int))) = (ws.take a ++ ([4, 3, 2, 1] : List Int).take (6 - a)).map D.int := by
        rw [show 6 - (a : Int) = ((6 - a : Nat) : Int) by omega, cut_to, List.map_append, List.map_take, List.map_take]
        rfl
      have lcut : (DW.cutD [D.int 4, D.int 3, D.int 2, D.int 1] none (some (6 - (a : Int)))).length ≤ 4 := by
        rw [show 6 - (a : Int) = ((6 - a : Nat) : Int) by omega, cut_to, List.length_take]
        simp; omega
      have hst3 : WsOk (ws.take a ++ ([4, 3, 2, 1] : List Int).take (6 - a)) := by
        refine st_ok hw ha (fun x hx => ?_) (by simp; omega) (by simp; omega)
        have := List.mem_of_mem_take hx
        simp at this
        omega
      rw [ecut, eo]
      refine ⟨by omega, by omega, by simp; omega, by omega, fun x hx => ⟨x, _, oc', [], .tell 0, by rw [← e0], sset_same, fit_tell hst3 p1 p4 (by omega), rfl, NS_Query, _, sset_same, ?_⟩⟩
      rw [sset_sset, sdel_sset hx, ← hG]; clear hG G hx x
      generalize hz3 : ws.take a ++ ([4, 3, 2, 1] : List Int).take (6 - a) = s3 at *
      refine ⟨by simp, _, rfl, fun i δ' μ2 => ∃ (y9 : Option D), δ' = [some (.hd (.ref st)), some (qO T.c_Query t ws oc), some (.tup (ws.map .int)), some (.int (oc : Int)), y4, some (.int (a : Int)), some (.tup (mv.map .int)), some (qO T.c_Query (.tell (oc - 1)) mv oc), some (qO T.c_Query (.tell 0) ws oc'), y9] ∧ μ2 = sset μ' st (.lst c1), ⟨_, rfl, rfl⟩, ?_, ?_⟩
      · rintro i d δ' μ2 hi ⟨y9, rfl, rfl⟩
        obtain ⟨ws', o2, t', rfl, hf', hd, hd'⟩ : ∃ (ws' : List Int) (o2 : Nat) (t' : QT), d = qO T.c_Query t' ws' o2 ∧ QFit ws' o2 [] t' ∧ (ws = ws' → o2 ≠ oc) ∧ (ws' = ws → oc ≠ o2) := by
          rcases i with _ | _ | _ | i
          · cases hi; exact ⟨mv, oc, _, rfl, fit_tell hmv o1 o4 (by omega), fun z => absurd z hne, fun z => absurd z.symm hne⟩
          · cases hi; exact ⟨ws, oc', _, rfl, fit_tell hw p1 p4 (by omega), fun _ => pne, fun _ => Ne.symm pne⟩
          · cases hi; exact ⟨s3, oc', _, rfl, fit_tell hst3 p1 p4 (by omega), fun _ => pne, fun _ => Ne.symm pne⟩
          · simp at hi
        walk_at "wp"
        refine ref_mis hf hf' hd ⟨by omega, ne3 ⟨false, rfl, nofun, fun _ => ref_mis hf' hf hd' ⟨by omega, ne3 ⟨false, rfl, nofun, fun _ => ⟨_, rfl, rfl⟩⟩⟩⟩⟩
      · rintro δ' μ2 ⟨y9, rfl, rfl⟩
        show M _ _
        rw [hM]; clear hM M
        walk_at "wps"
        have hp := fun q hq => hf.pl q ((stl_of hf).pl q hq)
        refine ref_in hf (by omega) ⟨by omega, eq0 ⟨true, rfl, fun _ => part_ok hf hf hf.sorted hp hp (by rw [hs_wpr]; exact hf.few) ?_, nofun⟩⟩
        have ef : (fr ws ps fun c => decide (tl t ps c ≠ tl t ps c)) = none := by
          unfold fr
          rw [List.find?_eq_none.mpr fun c _ => by simp]
          rfl
        rw [ef]
        exact ⟨true, rfl, ret_same (h c1 sc)⟩
end
end LW
set_option Elab.async false
set_option linter.all false
set_option maxRecDepth 100000
set_option maxHeartbeats 4000000
namespace SrtO
open PySem PyProof.Rows Srt
section
variable {prog : Program} {w : World} {A : Around} {E : Value → Shared → Prop} {s : Shared}
theorem collect_tup {t : Addr} {vs : List Value} {Q : List Value → Shared → Prop} (ht : IsTup s.heap t vs.toArray) (hz : vs.length ≤ sizeLine)
    (h : Q vs { s with heap := (s.heap.push (seqObj "list" #[] 0)).update s.heap.objs.size (Obj.mapSeq (· ++ vs.toArray)) }) : wpAny (model prog w) A (collect (.ref t)) Q E s := by
  obtain ⟨o, ho, hc, n, hd⟩ := ht
  have ho' : (s.heap.push (seqObj "list" #[] 0)).get? t = some o := Heap.get?_push_of_some _ ho
  have hl : (s.heap.push (seqObj "list" #[] 0)).get? s.heap.objs.size = some (seqObj "list" #[] 0) := Heap.get?_push_size _ rfl
  unfold collect
  refine wpAny_bind (wpAny_runValue (codeAny_builtin entry_proto_collect' ?_))
  refine wpAny_bind (wpAny_newList (wpAny_pure ⟨Code.quiet_builtin _ (by decide +kernel), codeAny_builtin entry_list_iadd' ?_⟩))
  show wpAny _ _ (Builtin.List.listExtendWith (.ref s.heap.objs.size) (.ref t) (.ref s.heap.objs.size)) _ _ { s with heap := s.heap.push (seqObj "list" #[] 0) }
  unfold Builtin.List.listExtendWith
  refine wpAny_bind (wpAny_typeOf (T := "tuple") ⟨o, ho', hc⟩ ?_)
  have ht2 : (Value.type "tuple" == Value.type "tuple") = true := by rfl
  rw [if_pos (by rw [ht2]; simp)]
  refine wpAny_bind (listItems_at ho' hd (wpAny_bind (listItems_at hl rfl ?_)))
  rw [if_neg (by simp)]
  refine wpAny_bind (listUpdate_at hl rfl (wpAny_pure ?_) (Nat.zero_le _) (by show (#[] ++ vs.toArray).size ≤ sizeLine + 1; simp only [Array.size_append, List.size_toArray, List.length_nil]; omega))
  refine wpAny_bind (wpAny_load (get?_update_seq hl _) ?_)
  show wpAny _ _ (pure ((#[] : Array Value) ++ vs.toArray).toList) Q E _
  rw [show ((#[] : Array Value) ++ vs.toArray).toList = vs by simp]
  exact wpAny_pure h
theorem sorted_tup {t : Addr} {vs : List Value} {ns : List Int} {Q : Value → Shared → Prop} (ht : IsTup s.heap t vs.toArray) (hI : IntsAre vs ns) (hz : vs.length ≤ sizeLine)
    (h : ∀ out : List Value, Srtd ltIv out → Stb ltIv out vs → Q (.ref (s.heap.objs.size + 1)) { s with heap := sortedAll s.heap vs out.toArray }) :
    wpAny (model prog w) A (call (.builtin "sorted") [.ref t]) Q E s := by
  refine Calls.call_function_entry kind_sorted plain_sorted entry_sorted (args_sorted1 _) ?_
  unfold Builtin.«sorted»
  refine wpAny_bind (m := checkCount "sorted" 1 1 _) (wpAny_pure (wpAny_bind (collect_tup ht hz (wpAny_bind (wpAny_newList ?_ hz)))))
  have hsz : ((s.heap.push (seqObj "list" #[] 0)).update s.heap.objs.size (Obj.mapSeq (· ++ vs.toArray))).objs.size = s.heap.objs.size + 1 := by rw [Heap.size_update, size_push']
  have hoL := Heap.get?_push_size ((s.heap.push (seqObj "list" #[] 0)).update s.heap.objs.size (Obj.mapSeq (· ++ vs.toArray))) (o := seqObj "list" vs.toArray 0) rfl
  rw [hsz] at hoL
  show wpAny _ _ _ _ _ { s with heap := ((s.heap.push (seqObj "list" #[] 0)).update s.heap.objs.size (Obj.mapSeq (· ++ vs.toArray))).push (seqObj "list" vs.toArray 0) }
  rw [hsz]
  refine wpAny_bind (wpAny_holding (wpAny_call_entry slot_list_sort ⟨_, hoL, rfl⟩ entry_list_sort (list_sort_ord swo_int hoL hz (fun h2 => ints_sortable hI h2) fun out hs hb => ⟨_, rfl, wpAny_pure ⟨_, rfl, h out hs hb⟩⟩) (args_list_sort _)))
end
end SrtO
namespace L2
open PySem PySem.Spec PyProof.Rows
def rSortedTp (K : PySem.W.Frag) : List V → Hp → VK → Prop := fun vs H Q => ∃ (a : Addr) (ns : List Int), vs = [V.ref a] ∧ SqT K H a (ns.map V.int) ∧
  ∀ (ns' : List Int) (p : Addr), ns'.Perm ns → ns'.Pairwise (· ≤ ·) → H p = none → Q (.ref p) (upd H p (.lst (ns'.map V.int)))
section
variable {X : Cx}
theorem cr_sortedTp : CallR X (.builtin "sorted") (rSortedTp X.K) := by
  intro pins s σ H vs us Q I r h
  obtain ⟨a, ns, rfl, hs, q⟩ := h
  obtain ⟨its, rv, hl, hz⟩ := I.tuple hs
  rw [Vals.ref1 r]
  have hi := rv.ints
  refine SrtO.sorted_tup hl hi (by rw [← rv.length]; exact hz) fun out h1 hb => ?_
  obtain ⟨k1, k2, k3⟩ := SrtO.ints_out hi h1 hb
  have hlen : ((out.map SrtO.iv).map V.int).length ≤ sizeLine := by
    rw [List.length_map, k2.length_eq]
    rw [List.length_map] at hz
    exact hz
  obtain ⟨ep, he⟩ := PyProof.Rows.sortedAll_at s.heap its out.toArray
  exact ⟨.ref _, upd H (s.heap.objs.size + 1) (.lst ((out.map SrtO.iv).map V.int)), I.laid (t' := s.toks) (fun _ _ => PyProof.Rows.sortedAll_old) (Nat.le_succ _) ⟨hlen, out, ep, vals_of_ints k1, he⟩, rfl, q _ _ k2 k3 (I.hok.fresh (Nat.le_succ _))⟩
end
end L2
namespace DW
open PySem PySem.Spec PyProof.Rows L2
def cSortT : DC := fun xs μ Φ => ∃ ns : List Int, xs = [.tup (ns.map .int)] ∧ ∀ ns' : List Int, ns'.Perm ns → ns'.Pairwise (· ≤ ·) → Φ (.lst (ns'.map .int)) μ
theorem rcSortT {K : Fg} : RC K (rSortedTp K) cSortT := fun H μ vs ds Φ Q s r q k => by
  obtain ⟨ns, rfl, q⟩ := q
  obtain ⟨v, rfl, r1⟩ := reps1 r
  obtain ⟨a, us, rfl, h1, h2⟩ := Rep.tup_inv r1
  have e := reps_intsV h2
  subst e
  exact ⟨a, ns, rfl, h1.sq, fun ns' p hp hs hn => k _ _ _ μ (.new hn) (s.new hn) (rep_lst s hn (reps_of_ints ns')) (q ns' hp hs)⟩
theorem w_sortT {ns : List Int} {μ : Sto} {Φ : DK} (h : ∀ ns' : List Int, ns'.Perm ns → ns'.Pairwise (· ≤ ·) → Φ (.lst (ns'.map .int)) μ) : cSortT [.tup (ns.map .int)] μ Φ := ⟨ns, rfl, h⟩
end DW
set_option Elab.async false
set_option linter.all false
set_option maxRecDepth 100000
set_option maxHeartbeats 4000000
namespace LW
open PySem PySem.Spec L2 DW PyProof.Rows
local macro_rules | `(tactic| walk_at "wp") => `(tactic| try simp only [u_maxD, u_idxD, u_dc, u_get2, u_isET, w_isET2, w_isET3, w_isET4, u_truT, u_iZ3, w_zip3E, u_lcO, u_restE, v_rng1, u_rngV, w_rngE, u_cval, w_isiO, u_par, u_iR3, u_makeSD, u_getXN, rngB_len, u_star, u_rev2L, u_callR, u_binXI, u_callX, u_getX, u_restF, u_binX, u_invX, w_neB, u_methXN, u_makeSN, u_tupR1, u_lc2, u_iZM, w_zipLT, w_zipTL, u_cntL, u_lstR1O, u_fld, w_fld, w_someE, u_setF, u_methX, w_objE, u_makeS, u_sortSet, u_lstR1, u_iZipL, u_iEnL, u_idx, u_popAt, u_cntT, u_idxT, u_callF, w_maxL, w_minL, w_ixDc, w_inDc, w_repL, w_listLs, w_tplT, w_tplP, u_isE, w_isE, u_kitER, u_kitET, u_excE, u_xf, w_xf1, u_slS, u_raise1, u_iEn, w_listStr, w_lenStr, w_catStr, w_ixStr, w_inStr, w_strE, w_strI, w_strS, u_rest, cut_to, cut_from1, Int.zero_add, u_revT, w_repT, u_tupG, u_try, u_gPlain, u_gThen, u_gNil, u_yield, u_gWhile, u_while, u_isX, u_kitR, u_kitT, u_excOk, w_zipE, u_goalX, u_lc, rngD_len, Int.toNat_natCast, u_for, u_iT, u_iL, u_iR1, u_iR2, u_iZ, u_iS, w_lstE, dwipe, u_asg, u_asgS, u_ret, u_retN, u_if, u_next, u_break, u_cont, u_drop, u_raise, u_aug, u_var, u_c, u_op, u_un, u_test, u_and, u_or, u_not, u_yes, u_andV, u_orV, u_notV, u_ifE, u_chain, u_nil, u_cons, u_tup, u_lst, u_own, u_cb, u_call, u_callS, u_name, u_etup, u_enil, u_econs, u_sub, u_app, u_slT, u_slL, u_noPart, u_part, u_revL, ex_some, w_I0, w_I, w_uI, w_int, w_bl, w_isi, w_someb, w_eqI, w_neI, w_eqS, w_neS, w_lenT, w_lenL, w_lenS, w_tupL, w_tupT, w_ixT, w_ixL, w_ixS, w_catT, w_catL, w_all, w_any, w_min2, w_divmod, w_listS, w_listL, w_listT, w_isN, w_notN, w_tupE, w_intE, w_consE, w_hdE, w_cellS, w_set, at0, at1, at2, at3, i_tT, i_tI, i_tB, i_tS, i_nT, i_nI, i_nB, i_nS, i_iT, i_iI, i_iB, i_iS, i_bT, i_bI, i_bB, i_bS, i_sT, i_sI, i_sB, i_sS, v_itemsS, w_eqB, isNone, dstart, List.map, List.length, List.replicate, List.cons_append, List.nil_append, List.append_nil, List.getElem?_cons_zero, List.getElem?_cons_succ, List.set_cons_zero, List.set_cons_succ, ix40, ix42, ix43, true_implies, false_implies, and_true, true_and, Bool.not_true, Bool.not_false, decide_eq_true_eq, decide_eq_false_iff_not, List.length_map, Nat.reduceAdd, reduceCtorEq, v_ixH, v_items, v_itemsT, v_itemsL, v_len, v_tuple, v_list, v_listOwn, sset_same, sset_sset, Option.some.injEq, Cell.lst.injEq, Cell.frz.injEq, false_and, exists_false, or_false, false_or, exists_eq_left', ne_eq, not_false_eq_true, isTup, Bool.true_eq_false, Bool.false_eq_true])
local macro_rules | `(tactic| walk_at "wps") => `(tactic| try simp only [u_seq, u_maxD, u_idxD, u_dc, u_get2, u_isET, w_isET2, w_isET3, w_isET4, u_truT, u_iZ3, w_zip3E, u_lcO, u_restE, v_rng1, u_rngV, w_rngE, u_cval, w_isiO, u_par, u_iR3, u_makeSD, u_getXN, rngB_len, u_star, u_rev2L, u_callR, u_binXI, u_callX, u_getX, u_restF, u_binX, u_invX, w_neB, u_methXN, u_makeSN, u_tupR1, u_lc2, u_iZM, w_zipLT, w_zipTL, u_cntL, u_lstR1O, u_fld, w_fld, w_someE, u_setF, u_methX, w_objE, u_makeS, u_sortSet, u_lstR1, u_iZipL, u_iEnL, u_idx, u_popAt, u_cntT, u_idxT, u_callF, w_maxL, w_minL, w_ixDc, w_inDc, w_repL, w_listLs, w_tplT, w_tplP, u_isE, w_isE, u_kitER, u_kitET, u_excE, u_xf, w_xf1, u_slS, u_raise1, u_iEn, w_listStr, w_lenStr, w_catStr, w_ixStr, w_inStr, w_strE, w_strI, w_strS, u_rest, cut_to, cut_from1, Int.zero_add, u_revT, w_repT, u_tupG, u_try, u_gPlain, u_gThen, u_gNil, u_yield, u_gWhile, u_while, u_isX, u_kitR, u_kitT, u_excOk, w_zipE, u_goalX, u_lc, rngD_len, Int.toNat_natCast, u_for, u_iT, u_iL, u_iR1, u_iR2, u_iZ, u_iS, w_lstE, dwipe, u_asg, u_asgS, u_ret, u_retN, u_if, u_next, u_break, u_cont, u_drop, u_raise, u_aug, u_var, u_c, u_op, u_un, u_test, u_and, u_or, u_not, u_yes, u_andV, u_orV, u_notV, u_ifE, u_chain, u_nil, u_cons, u_tup, u_lst, u_own, u_cb, u_call, u_callS, u_name, u_etup, u_enil, u_econs, u_sub, u_app, u_slT, u_slL, u_noPart, u_part, u_revL, ex_some, w_I0, w_I, w_uI, w_int, w_bl, w_isi, w_someb, w_eqI, w_neI, w_eqS, w_neS, w_lenT, w_lenL, w_lenS, w_tupL, w_tupT, w_ixT, w_ixL, w_ixS, w_catT, w_catL, w_all, w_any, w_min2, w_divmod, w_listS, w_listL, w_listT, w_isN, w_notN, w_tupE, w_intE, w_consE, w_hdE, w_cellS, w_set, at0, at1, at2, at3, i_tT, i_tI, i_tB, i_tS, i_nT, i_nI, i_nB, i_nS, i_iT, i_iI, i_iB, i_iS, i_bT, i_bI, i_bB, i_bS, i_sT, i_sI, i_sB, i_sS, v_itemsS, w_eqB, isNone, dstart, List.map, List.length, List.replicate, List.cons_append, List.nil_append, List.append_nil, List.getElem?_cons_zero, List.getElem?_cons_succ, List.set_cons_zero, List.set_cons_succ, ix40, ix42, ix43, true_implies, false_implies, and_true, true_and, Bool.not_true, Bool.not_false, decide_eq_true_eq, decide_eq_false_iff_not, List.length_map, Nat.reduceAdd, reduceCtorEq, v_ixH, v_items, v_itemsT, v_itemsL, v_len, v_tuple, v_list, v_listOwn, sset_same, sset_sset, Option.some.injEq, Cell.lst.injEq, Cell.frz.injEq, false_and, exists_false, or_false, false_or, exists_eq_left', ne_eq, not_false_eq_true, isTup, Bool.true_eq_false, Bool.false_eq_true])
section
variable {P : Program} {w : World} {K : Fg} {mg : Str → Option Value} {base : Heap}
theorem up_sum (q : Nat) : ∀ l : List Nat, (l.map (up (fun _ => 0) q 1)).sum = l.count q
  | [] => rfl
  | a :: l => by
    rw [List.map_cons, List.sum_cons, up_sum q l, List.count_cons]
    unfold up
    by_cases e : a = q
    · rw [if_pos e, if_pos (by simp [e])]; omega
    · rw [if_neg e, if_neg (by simp [e])]
      show 0 + List.count q l = _
      omega
theorem full_needed {ws : List Int} {oc : Nat} {ps ms : List Nat} {tot : Int} {t : QT} (hw : WsOk ws) (o2 : 2 ≤ oc) (o4 : oc ≤ 4) (hn : ps.Nodup) (hs : ∀ q ∈ ms, q ∈ ps) (hp : ∀ q ∈ qPl t, q ∈ ps) {ps' : List Nat} (S : Stl ws oc ps' t) (hm : ms = [] → ps = []) (H : FQ ws oc ps ms tot t) (q : Nat) : q ∈ qPl (stl ws t) ↔ q ∈ ms ∧ 1 < wd ws q := by
  by_cases e : ms = []
  · have e2 := hm e
    constructor
    · intro z
      have := hp q (S.pl q z)
      rw [e2] at this
      cases this
    · rintro ⟨z, _⟩
      rw [e] at z
      cases z
  have G := H e
  constructor
  · intro z
    obtain ⟨f, f1, f2, f3⟩ := needed_dep hw _ 0 q S.is z
    have f1' : ∀ p, up f q (f q + 1) p < wd ws p := fun p => by
      unfold up
      by_cases c : p = q
      · rw [if_pos c, c]; exact f2
      · rw [if_neg c]; exact f1 p
    refine ⟨Classical.byContradiction fun c => f3 ?_, by omega⟩
    rw [S.an f f1, S.an _ f1']
    have g1 := G f f1
    have g2 := G _ f1'
    have em : (ps.filter fun q => decide (q ∈ ms)).map (up f q (f q + 1)) = (ps.filter fun q => decide (q ∈ ms)).map f := List.map_congr_left fun p hp2 => by
      have : p ∈ ms := by simpa using (List.mem_filter.mp hp2).2
      unfold up
      rw [if_neg fun c2 => c (by rw [← c2]; exact this)]
    rw [em, ← g1] at g2
    omega
  · rintro ⟨z, w1⟩
    refine Classical.byContradiction fun c => ?_
    have f1 : ∀ p, (fun _ : Nat => 0) p < wd ws p := fun p => (hw.wd1 p).1
    have f1' : ∀ p, up (fun _ : Nat => 0) q 1 p < wd ws p := fun p => by
      unfold up
      by_cases c : p = q
      · rw [if_pos c, c]; exact w1
      · rw [if_neg c]; exact (hw.wd1 p).1
    have ea : qA (fun _ : Nat => 0) (stl ws t) = qA (up (fun _ => 0) q 1) (stl ws t) := qA_off _ fun p hp2 => by
      unfold up
      rw [if_neg fun c2 => c (by rw [← c2]; exact hp2)]
    rw [S.an _ f1, S.an _ f1'] at ea
    have g1 := G _ f1
    have g2 := G _ f1'
    have c1 : (ps.filter fun q => decide (q ∈ ms)).count q = 1 := by
      have h1 := List.nodup_iff_count.mp (hn.sublist (List.filter_sublist (p := fun q => decide (q ∈ ms)))) q
      have h2 := List.count_pos_iff.mpr (List.mem_filter.mpr ⟨hs q z, by simpa using z⟩ : q ∈ ps.filter fun q => decide (q ∈ ms))
      omega
    have z0 : ((ps.filter fun q => decide (q ∈ ms)).map fun _ => 0).sum = 0 := by
      generalize ps.filter _ = l
      induction l with
      | nil => rfl
      | cons a l ih => rw [List.map_cons, List.sum_cons, ih]
    rw [up_sum, c1, ← ea, g1, z0] at g2
    rcases (show oc = 2 ∨ oc = 3 ∨ oc = 4 by omega) with rfl | rfl | rfl <;> omega
theorem qok_up {ws : List Int} {oc oc' : Nat} (h : oc ≤ oc') : ∀ t : QT, QOk ws oc t → QOk ws oc' t := fun t => by
  induction t using QT.ind with
  | h1 o => intro z; exact Nat.lt_of_lt_of_le z h
  | h2 p ts ih =>
    rintro ⟨a, b, c⟩
    rw [qoks_iff] at c
    exact ⟨a, b, qoks_iff.mpr fun t ht => ih t ht (c t ht)⟩
def c__law_far_apart (C R O S L : Addr) : Con := fun ds μ Φ _ => ∃ (st : Addr) (ns : List Int) (c : List D), ds = [.hd (.ref st)] ∧ μ st = some (.lst c) ∧ StC ns c ∧ ∀ c', StC ns c' → Φ (.bl true) (sset μ st (.lst c'))
theorem len__law_far_apart {C R O S L ds μ Φ Ψ} (h : c__law_far_apart C R O S L ds μ Φ Ψ) : ds.length = 1 := by obtain ⟨_, _, _, rfl, _⟩ := h; rfl
theorem ws_one {l : List Int} (h0 : 1 ≤ l.length) (h1 : l.length ≤ 6) (h : ∀ x ∈ l, 1 ≤ x ∧ x ≤ 4) : WsOk l := ⟨h0, h1, h⟩
theorem lcFN {Ψ : XP} {Φ : DK} {γ : DG} {θ : DT} {φ : DE} {δw : DEnv} {μ1 : Sto} {l : List Nat} (P : Nat → Bool) (hz : l.length ≤ 100000)
    (hs : ∀ (q : Nat) (μ2 : Sto) (X : DK) (Y : Sto → Prop), q ∈ l → DW.Sub μ1 μ2 → (P q = true → X (.int (q : Int)) μ2) → (P q = false → Y μ2) →
      γ (.int (q : Int)) δw μ2 fun δ3 μ3 => θ Ψ δ3 μ3 fun b μ4 => (b = true → φ Ψ δ3 μ4 X) ∧ (b = false → Y μ4))
    (hd : Φ (.lst (nI (l.filter P))) μ1) : LcG γ θ φ δw Ψ (nI l) μ1 Φ :=
  lc_items (xs := nI l) (fun d => match d with | .int z => P z.toNat | _ => false) id (by rw [nI_len]; exact hz) (fun d μ2 X Y hdm hsub hx hy => by
    obtain ⟨q, hq, rfl⟩ := List.mem_map.mp hdm
    exact hs q μ2 X Y hq hsub hx hy) (by
    rw [List.map_id]
    have e : (nI l).filter (fun d => match d with | .int z => P z.toNat | _ => false) = nI (l.filter P) := by
      unfold nI
      rw [List.filter_map]
      rfl
    rw [e]
    exact hd)
theorem sorted_lt {l : List Nat} (h : l.Pairwise (· ≤ ·)) (hn : l.Nodup) : l.Pairwise (· < ·) := by
  induction l with
  | nil => exact .nil
  | cons a l ih =>
    obtain ⟨h1, h2⟩ := List.pairwise_cons.mp h
    obtain ⟨n1, n2⟩ := List.nodup_cons.mp hn
    refine List.pairwise_cons.mpr ⟨fun b hb => ?_, ih h2 n2⟩
    have := h1 b hb
    have : a ≠ b := fun e => n1 (by rw [e]; exact hb)
    omega
theorem perm_nd {a b : List Nat} (na : a.Nodup) (nb : b.Nodup) (h : ∀ q, q ∈ a ↔ q ∈ b) : a.Perm b := by
  rw [List.perm_iff_count]
  intro q
  by_cases z : q ∈ a
  · have h1 := List.nodup_iff_count.mp na q
    have h2 := List.nodup_iff_count.mp nb q
    have h3 := List.count_pos_iff.mpr z
    have h4 := List.count_pos_iff.mpr ((h q).mp z)
    omega
  · rw [List.count_eq_zero.mpr z, List.count_eq_zero.mpr fun y => z ((h q).mpr y)]
theorem sort_ex {P : List Nat} (hn : P.Nodup) (h : ∀ q ∈ P, q < 100) : ∃ qs : List Nat, qs.Perm P ∧ qs.Pairwise (· < ·) := by
  have hs := List.pairwise_lt_range (n := 100) |>.sublist (List.filter_sublist (p := fun q => decide (q ∈ P)))
  refine ⟨_, perm_nd (hs.imp fun z => by omega) hn fun q => ?_, hs⟩
  rw [List.mem_filter, List.mem_range, decide_eq_true_iff]
  exact ⟨fun z => z.2, fun z => ⟨h q z, z⟩⟩
theorem sortN {l : List Nat} {μ : Sto} {Φ : DK} (hn : l.Nodup) (hl : l.length < 64) (h : ∀ qs : List Nat, qs.Perm l → qs.Pairwise (· < ·) → Φ (.lst (nI qs)) μ) : cSortL [.lst (nI l)] μ Φ := by
  rw [nI_ints]
  refine w_sortL ⟨by rw [List.length_map]; omega, fun ks hk hks => ?_⟩
  obtain ⟨qs, rfl⟩ : ∃ qs : List Nat, ks = zI qs := ⟨ks.map Int.toNat, by
    unfold zI
    rw [List.map_map]
    refine (List.map_id _).symm.trans (List.map_congr_left fun k hk2 => ?_)
    obtain ⟨q, _, rfl⟩ := List.mem_map.mp (hk.mem_iff.mp hk2)
    rfl⟩
  have hq : qs.Perm l := by
    have := hk.map Int.toNat
    unfold zI at this
    rw [List.map_map, List.map_map] at this
    have e : ∀ l : List Nat, l.map (Int.toNat ∘ fun (n : Nat) => (n : Int)) = l := fun l => (List.map_congr_left fun n _ => Int.toNat_natCast n).trans (List.map_id l)
    rwa [e, e] at this
  have hqs : qs.Pairwise (· < ·) := sorted_lt ((List.pairwise_map.mp hks).imp fun z => by omega) (hq.nodup_iff.mpr hn)
  rw [show (zI qs).map D.int = nI qs from (nI_ints qs).symm]
  exact h qs hq hqs
theorem sortNT {l : List Nat} {μ : Sto} {Φ : DK} (hn : l.Nodup) (h : ∀ qs : List Nat, qs.Perm l → qs.Pairwise (· < ·) → Φ (.lst (nI qs)) μ) : cSortT [.tup (nI l)] μ Φ := by
  rw [nI_ints]
  refine w_sortT fun ks hk hks => ?_
  obtain ⟨qs, rfl⟩ : ∃ qs : List Nat, ks = zI qs := ⟨ks.map Int.toNat, by
    unfold zI
    rw [List.map_map]
    refine (List.map_id _).symm.trans (List.map_congr_left fun k hk2 => ?_)
    obtain ⟨q, _, rfl⟩ := List.mem_map.mp (hk.mem_iff.mp hk2)
    rfl⟩
  have hq : qs.Perm l := by
    have := hk.map Int.toNat
    unfold zI at this
    rw [List.map_map, List.map_map] at this
    have e : ∀ l : List Nat, l.map (Int.toNat ∘ fun (n : Nat) => (n : Int)) = l := fun l => (List.map_congr_left fun n _ => Int.toNat_natCast n).trans (List.map_id l)
    rwa [e, e] at this
  have hqs : qs.Pairwise (· < ·) := sorted_lt ((List.pairwise_map.mp hks).imp fun z => by omega) (hq.nodup_iff.mpr hn)
  rw [show (zI qs).map D.int = nI qs from (nI_ints qs).symm]
  exact h qs hq hqs
theorem ref_big {C R O S L : Addr} {ws : List Int} {oc : Nat} {qs qs' bo : List Nat} {t t' : QT} {o : Int} {μ : Sto} {Φ : DK} {Ψ : XD → Sto → Prop} (hf : QFit ws oc qs t) (hf' : QFit ws oc qs' t') (hs : bo.Pairwise (· < ·)) (hm : ∀ q, q ∈ bo ↔ q ∈ qPl (stl ws t) ∨ q ∈ qPl (stl ws t')) (big : 256 < wpr ws bo) (h : Φ (.tup [.int 0, .int 0, .int 1]) μ) :
    c__law_refused C R O S L [.int 1, qO C t ws oc, qO C t' ws oc, .int o] μ Φ Ψ :=
  ⟨1, _, _, o, 3, rfl, by omega, ⟨1, _, _, o, rfl, fun z => by omega, fun _ => ⟨ws, ws, oc, oc, qs, qs', t, t', rfl, hf, hf', fun z => absurd rfl z, fun _ z => absurd rfl z, fun _ _ nd n1 n2 => by
    have e : nd = bo := sort_uniq n1 hs fun q => by rw [n2, hm]
    subst e
    exact ⟨fun _ => ⟨by omega, rfl, rfl⟩, fun z => by omega⟩⟩⟩, h⟩
theorem wpr_two {ws : List Int} : ∀ l : List Nat, (∀ q ∈ l, 1 < wd ws q) → 2 ^ l.length ≤ wpr ws l
  | [], _ => Nat.le_refl _
  | p :: l, h => by
    have h1 := wpr_two l fun q hq => h q (List.mem_cons_of_mem _ hq)
    have h2 := h p List.mem_cons_self
    rw [List.length_cons, Nat.pow_succ, Nat.mul_comm, wpr]
    exact Nat.mul_le_mul h2 h1
/-- what is drawn for a lot of places -/
structure LotOk (ws : List Int) (oc : Nat) (P ms : List Nat) (t : QT) : Prop where
  nd : ms.Nodup
  sub : ∀ q ∈ ms, q ∈ P
  ne : ms = [] → P = []
  ok : QOk ws oc t
  dp : qDep t ≤ P.length
  pl : ∀ q ∈ qPl t, q ∈ P
  lk : (qPl t).length ≤ 300
  fq : ∃ (qs : List Nat) (tot : Int), qs.Perm P ∧ FQ ws oc qs ms tot t
theorem ok__law_far_apart (T : Txt P w K mg) : FnOk P w K mg base (L2N.CX P w) 66 T.f__law_far_apart T.d__law_far_apart ["_law_state"] (spOf K (c__law_far_apart T.c_Query T.c_Row T.c_OutOfRange T.c_SizeMismatch T.c_TooLarge)) := by
  refine def_okC T.F__law_far_apart sc__law_far_apart _ (fun ds μ Φ Ψ h => len__law_far_apart h) (fun cdv A outer s H E B hW hr =>
    have tk : L2N.Takes (cxOf (L2N.CX P w) P w K mg base N__law_far_apart "_law_far_apart" (defScope s__law_far_apart) T.f__law_far_apart cdv A outer s H E) (fun cls d _ H => E cls d H) := L2N.takes_of rfl rfl rfl rfl
    ⟨_, (pss_cons (ps_set (i := 1) sc__law_far_apart.nd rfl (Or.inr rfl) (pe_ix ix_list (pe_lst (pa_cons (pe_tupN (pa_cons pe_int pa_nil)) (pa_cons (pe_tupN (pa_cons pe_int pa_nil)) (pa_cons (pe_tupN (pa_cons pe_int (pa_cons pe_int pa_nil))) (pa_cons (pe_tupN (pa_cons pe_int (pa_cons pe_int (pa_cons pe_int pa_nil)))) (pa_cons (pe_tupN (pa_cons pe_int (pa_cons pe_int (pa_cons pe_int pa_nil)))) (pa_cons (pe_tupN (pa_cons pe_int (pa_cons pe_int pa_nil))) pa_nil))))))) (pe_call (ok__law_pick T) (hr.mono (by decide)) rfl T.g__law_pick T.F__law_pick.kp T.b__law_pick .nil passN (pa_cons (pv 0) (pa_cons pe_int pa_nil))) (fun _ _ => rfl)))
      (pss_cons (ps_set (i := 2) sc__law_far_apart.nd rfl (Or.inr rfl) (pe_lst (pa_cons (pv 1) (pa_cons (pe_op op_add pe_int (pe_call (ok__law_pick T) (hr.mono (by decide)) rfl T.g__law_pick T.F__law_pick.kp T.b__law_pick .nil passN (pa_cons (pv 0) (pa_cons pe_int pa_nil)))) pa_nil))))
      (pss_cons (ps_set (i := 3) sc__law_far_apart.nd rfl (Or.inr rfl) (pe_lst (pa_cons (pe_call (ok__law_look_places T) (hr.mono (by decide)) rfl T.g__law_look_places T.F__law_look_places.kp T.b__law_look_places .nil passN (pa_cons (pv 0) (pa_cons (pv 1) (pa_cons (pe_op op_add pe_int (pe_call (ok__law_pick T) (hr.mono (by decide)) rfl T.g__law_pick T.F__law_pick.kp T.b__law_pick .nil passN (pa_cons (pv 0) (pa_cons pe_int pa_nil)))) (pa_cons pe_int pa_nil))))) pa_nil)))
      (pss_cons (ps_expr (pe_bm PySem.F.plainAttrs_list PySem.F.slot_list_append PySem.F.type_list_append mt_append (pv 3) (pa_cons (pe_lc (own := [("_law_place", 12)]) rfl sc__law_far_apart.nd (pi_list (pe_call (ok__law_look_places T) (hr.mono (by decide)) rfl T.g__law_look_places T.F__law_look_places.kp T.b__law_look_places .nil passN (pa_cons (pv 0) (pa_cons (pv 1) (pa_cons pe_int (pa_cons pe_int pa_nil)))))) (blkOk_by (N := N__law_far_apart) (sc := defScope s__law_far_apart) (by decide +kernel)) (fun _ _ _ _ _ => (pg_name (i := 12) sc__law_far_apart.nd rfl (Or.inl rfl))) (fun _ _ _ _ _ => (pts_one (pt_cmpR op_notIn_seq (pv 12) (pe_ix ix_list (pv 3) pe_int (fun _ _ => rfl)) (by with_unfolding_all rfl)))) (fun _ _ _ _ _ => (pv 12))) pa_nil)))
      (pss_cons (ps_set (i := 4) sc__law_far_apart.nd rfl (Or.inl rfl) (pe_lst pa_nil))
      (pss_cons (ps_set (i := 5) sc__law_far_apart.nd rfl (Or.inr rfl) (pe_lst pa_nil))
      (pss_cons (ps_for (passes_of rfl) rfl (pi_list (pv 3)) (pg_name (i := 6) sc__law_far_apart.nd rfl (Or.inl rfl)) (pss_cons (ps_set (i := 9) sc__law_far_apart.nd rfl (Or.inl rfl) (pe_op op_cat (pe_slice sl_list (pv 6) po_none (po_some pe_int)) (pe_lc (own := [("_law_place", 12)]) rfl sc__law_far_apart.nd (pi_list (pe_slice sl_list (pv 6) (po_some pe_int) po_none)) (blkOk_by (N := N__law_far_apart) (sc := defScope s__law_far_apart) (by decide +kernel)) (fun _ _ _ _ _ => (pg_name (i := 12) sc__law_far_apart.nd rfl (Or.inl rfl))) (fun _ _ _ _ _ => (pts_one (pt_cmpR op_gt (pe_call (ok__law_pick T) (hr.mono (by decide)) rfl T.g__law_pick T.F__law_pick.kp T.b__law_pick .nil passN (pa_cons (pv 0) (pa_cons pe_int pa_nil))) pe_int (nomark _)))) (fun _ _ _ _ _ => (pv 12)))))
      (pss_cons (ps_expr (pe_bm PySem.F.plainAttrs_list PySem.F.slot_list_append PySem.F.type_list_append mt_append (pv 4) (pa_cons (pv 9) pa_nil)))
      (pss_one (ps_expr (pe_bm PySem.F.plainAttrs_list PySem.F.slot_list_append PySem.F.type_list_append mt_append (pv 5) (pa_cons (pe_call (ok__law_full_query T) (hr.mono (by decide)) rfl T.g__law_full_query T.F__law_full_query.kp T.b__law_full_query .nil passN (pa_cons (pv 0) (pa_cons (pv 2) (pa_cons (pe_call (ok__law_shuffled T) (hr.mono (by decide)) rfl T.g__law_shuffled T.F__law_shuffled.kp T.b__law_shuffled .nil passN (pa_cons (pv 0) (pa_cons (pv 6) pa_nil))) (pa_cons (pv 9) (pa_cons (pe_call (ok__law_pick T) (hr.mono (by decide)) rfl T.g__law_pick T.F__law_pick.kp T.b__law_pick .nil passN (pa_cons (pv 0) (pa_cons pe_int pa_nil))) pa_nil)))))) pa_nil)))))))
      (pss_cons (ps_setLc (i := 7) (own := [("_law_term", 17)]) rfl sc__law_far_apart.nd rfl rfl (sw_true rfl rfl rfl (by decide +kernel)) (pi_list (pv 5)) (blkOk_by (N := N__law_far_apart) (sc := defScope s__law_far_apart) (by decide +kernel)) (fun _ _ _ _ _ => (pg_name (i := 17) sc__law_far_apart.nd rfl (Or.inl rfl))) (fun _ _ _ _ _ => pts_nil) (fun _ _ _ _ _ => (pe_makeS (E := WE WN) T.mk_Query (ok_Query___init__ T) (hr.mono (by decide)) rfl T.g_Query T.b_Query___init__ (fun σ => passAtN σ) (pa_cons (pv 17) (pa_cons (pv 1) (pa_cons (pe_ix ix_list (pv 2) pe_int (fun _ _ => rfl)) pa_nil))))))
      (pss_cons (ps_set (i := 8) sc__law_far_apart.nd rfl (Or.inl rfl) (pe_lst pa_nil))
      (pss_cons (ps_for (passes_of rfl) rfl (pi_list (pv 4)) (pg_name (i := 9) sc__law_far_apart.nd rfl (Or.inl rfl)) (pss_one (ps_expr (pe_bm PySem.F.plainAttrs_list PySem.F.slot_list_append PySem.F.type_list_append mt_append (pv 8) (pa_cons (pe_callTy call_tupleN (by rfl) T.z_tuple (by decide +kernel) (pa_cons (pe_callB cr_sorted (by rfl) T.z_sorted (by decide +kernel) (pa_cons (pe_lc (own := [("_law_place", 12)]) rfl sc__law_far_apart.nd (pi_list (pv 9)) (blkOk_by (N := N__law_far_apart) (sc := defScope s__law_far_apart) (by decide +kernel)) (fun _ _ _ _ _ => (pg_name (i := 12) sc__law_far_apart.nd rfl (Or.inl rfl))) (fun _ _ _ _ _ => (pts_one (pt_cmpR op_gt (pe_call (ok__law_width T) (hr.mono (by decide)) rfl T.g__law_width T.F__law_width.kp T.b__law_width .nil passN (pa_cons (pv 1) (pa_cons (pv 12) pa_nil))) pe_int (nomark _)))) (fun _ _ _ _ _ => (pv 12))) pa_nil)) pa_nil)) pa_nil)))))
      (pss_cons (ps_if (PW.pt (pw_or (pt_not (pt_val (pe_call (ok__law_needs T) (hr.mono (by decide)) rfl T.g__law_needs T.F__law_needs.kp T.b__law_needs .nil passN (pa_cons (pe_ix ix_list (pv 7) pe_int (fun _ _ => rfl)) (pa_cons (pe_ix ix_list (pv 8) pe_int (fun _ _ => rfl)) pa_nil))))) (pw_or1 (pt_not (pt_val (pe_call (ok__law_needs T) (hr.mono (by decide)) rfl T.g__law_needs T.F__law_needs.kp T.b__law_needs .nil passN (pa_cons (pe_ix ix_list (pv 7) pe_int (fun _ _ => rfl)) (pa_cons (pe_ix ix_list (pv 8) pe_int (fun _ _ => rfl)) pa_nil)))))))) (pss_one (ps_ret pe_bl)) pss_nil)
      (pss_cons (ps_set (i := 10) sc__law_far_apart.nd rfl (Or.inr rfl) (pe_callB cr_sortedTp (by rfl) T.z_sorted (by decide +kernel) (pa_cons (pe_op op_catN (pe_ix ix_list (pv 8) pe_int (fun _ _ => rfl)) (pe_ix ix_list (pv 8) pe_int (fun _ _ => rfl))) pa_nil)))
      (pss_cons (ps_set (i := 11) sc__law_far_apart.nd rfl (Or.inl rfl) pe_int)
      (pss_cons (ps_for (passes_of rfl) rfl (pi_list (pv 10)) (pg_name (i := 12) sc__law_far_apart.nd rfl (Or.inl rfl)) (pss_one (ps_set (i := 11) sc__law_far_apart.nd rfl (Or.inl rfl) (pe_op op_mulX (pv 11) (pe_call (ok__law_width T) (hr.mono (by decide)) rfl T.g__law_width T.F__law_width.kp T.b__law_width .nil passN (pa_cons (pv 1) (pa_cons (pv 12) pa_nil)))))))
      (pss_cons (ps_set (i := 13) sc__law_far_apart.nd rfl (Or.inl rfl) (pe_makeS T.mk_Query (ok_Query___init__ T) (hr.mono (by decide)) rfl T.g_Query T.b_Query___init__ (fun σ => L2N.passAt tk σ) (pa_cons (pe_ix ix_list (pv 5) pe_int (fun _ _ => rfl)) (pa_cons (pv 1) (pa_cons (pe_op op_add (pe_ix ix_list (pv 2) pe_int (fun _ _ => rfl)) pe_int) pa_nil)))))
      (pss_cons (ps_if (PW.pt (pw_or (pt_cmpR (op_neD hr.units) (pe_call (ok__law_refused T) hr rfl T.g__law_refused T.F__law_refused.kp T.b__law_refused .nil passN (pa_cons pe_int (pa_cons (pe_ix ix_list (pv 7) pe_int (fun _ _ => rfl)) (pa_cons (pv 13) (pa_cons pe_int pa_nil))))) (pe_tupN (pa_cons pe_int (pa_cons pe_int (pa_cons pe_int pa_nil)))) (nomark _)) (pw_or1 (pt_cmpR (op_neD hr.units) (pe_call (ok__law_refused T) hr rfl T.g__law_refused T.F__law_refused.kp T.b__law_refused .nil passN (pa_cons pe_int (pa_cons (pv 13) (pa_cons (pe_ix ix_list (pv 7) pe_int (fun _ _ => rfl)) (pa_cons pe_int pa_nil))))) (pe_tupN (pa_cons pe_int (pa_cons pe_int (pa_cons pe_int pa_nil)))) (nomark _))))) (pss_one (ps_ret pe_bl)) pss_nil)
      (pss_cons (ps_if (pt_cmpR op_gt (pv 11) pe_int (nomark _)) (pss_one (ps_ret (pe_and (pe_cmpR (op_eqD hr.units) (pe_call (ok__law_refused T) hr rfl T.g__law_refused T.F__law_refused.kp T.b__law_refused .nil passN (pa_cons pe_int (pa_cons (pe_ix ix_list (pv 7) pe_int (fun _ _ => rfl)) (pa_cons (pe_ix ix_list (pv 7) pe_int (fun _ _ => rfl)) (pa_cons pe_int pa_nil))))) (pe_tupN (pa_cons pe_int (pa_cons pe_int (pa_cons pe_int pa_nil)))) (nomark _)) (pe_one (pe_cmpR (op_eqD hr.units) (pe_call (ok__law_refused T) hr rfl T.g__law_refused T.F__law_refused.kp T.b__law_refused .nil passN (pa_cons pe_int (pa_cons (pe_ix ix_list (pv 7) pe_int (fun _ _ => rfl)) (pa_cons (pe_ix ix_list (pv 7) pe_int (fun _ _ => rfl)) (pa_cons pe_int pa_nil))))) (pe_tupN (pa_cons pe_int (pa_cons pe_int (pa_cons pe_int pa_nil)))) (nomark _)))))) pss_nil)
      (pss_cons (ps_set (i := 14) sc__law_far_apart.nd rfl (Or.inl rfl) (pe_call (ok__law_heads T) (hr.mono (by decide)) rfl T.g__law_heads T.F__law_heads.kp T.b__law_heads .nil passN (pa_cons (pv 1) (pa_cons (pv 10) pa_nil))))
      (pss_cons (ps_setLc (i := 15) (own := [("_law_head", 18)]) rfl sc__law_far_apart.nd rfl rfl (sw_true rfl rfl rfl (by decide +kernel)) (pi_list (pv 14)) (blkOk_by (N := N__law_far_apart) (sc := defScope s__law_far_apart) (by decide +kernel)) (fun _ _ _ _ _ => (pg_name (i := 18) sc__law_far_apart.nd rfl (Or.inl rfl))) (fun _ _ _ _ _ => pts_nil) (fun _ _ _ _ _ => (pe_call (ok__law_tell T) (hr.mono (by decide)) rfl T.g__law_tell T.F__law_tell.kp T.b__law_tell .nil passN (pa_cons (pe_ix ix_list (pv 5) pe_int (fun _ _ => rfl)) (pa_cons (pv 10) (pa_cons (pv 18) pa_nil))))))
      (pss_cons (ps_setLc (i := 16) (own := [("_law_head", 18)]) rfl sc__law_far_apart.nd rfl rfl (sw_true rfl rfl rfl (by decide +kernel)) (pi_list (pv 14)) (blkOk_by (N := N__law_far_apart) (sc := defScope s__law_far_apart) (by decide +kernel)) (fun _ _ _ _ _ => (pg_name (i := 18) sc__law_far_apart.nd rfl (Or.inl rfl))) (fun _ _ _ _ _ => pts_nil) (fun _ _ _ _ _ => (pe_call (ok__law_tell T) (hr.mono (by decide)) rfl T.g__law_tell T.F__law_tell.kp T.b__law_tell .nil passN (pa_cons (pe_ix ix_list (pv 5) pe_int (fun _ _ => rfl)) (pa_cons (pv 10) (pa_cons (pv 18) pa_nil))))))
      (pss_one (ps_ret (pe_call (ok__law_parts T) (hr.mono (by decide)) rfl T.g__law_parts T.F__law_parts.kp T.b__law_parts .nil passN (pa_cons (pe_ix ix_list (pv 7) pe_int (fun _ _ => rfl)) (pa_cons (pe_ix ix_list (pv 7) pe_int (fun _ _ => rfl)) (pa_cons (pv 10) (pa_cons (pv 14) (pa_cons (pv 15) (pa_cons (pv 16) pa_nil))))))))))))))))))))))))))))),
      (sSeq (sAsg (sOp roIxL (sLst (sCons (sTup (sCons sInt sNil)) (sCons (sTup (sCons sInt sNil)) (sCons (sTup (sCons sInt (sCons sInt sNil))) (sCons (sTup (sCons sInt (sCons sInt (sCons sInt sNil)))) (sCons (sTup (sCons sInt (sCons sInt (sCons sInt sNil)))) (sCons (sTup (sCons sInt (sCons sInt sNil))) sNil))))))) (sCall (sCons sVar (sCons sInt sNil)))) sName)
      (sSeq (sAsg (sLst (sCons sVar (sCons (sOp roInt0 sInt (sCall (sCons sVar (sCons sInt sNil)))) sNil))) sName)
      (sSeq (sAsg (sOwn (sCons (sCall (sCons sVar (sCons sVar (sCons (sOp roInt0 sInt (sCall (sCons sVar (sCons sInt sNil)))) (sCons sInt sNil))))) sNil)) sName)
      (sSeq (sDrop (sApp sVar (sLc (siL (sCall (sCons sVar (sCons sVar (sCons sInt (sCons sInt sNil)))))) (gwName List.mem_cons_self) (fun _ _ _ => sName) (fun _ _ _ => (sTest (sOp (roIn (neg := true)) sVar (sOp roIxL sVar sInt)))) (fun _ _ _ => sVar))))
      (sSeq (sAsg (sOwn sNil) sName)
      (sSeq (sAsg (sOwn sNil) sName)
      (sSeq (sFor (siL sRest) (fun _ _ _ => sName) (fun _ _ _ => (sSeq (sAsg (sOp roCatL (sSlL sVar sNoPart (sPart sInt)) (sLc (siL (sSlL sVar (sPart sInt) sNoPart)) (gwName List.mem_cons_self) (fun _ _ _ => sName) (fun _ _ _ => (sTest (sOp roBl0 (sCall (sCons sVar (sCons sInt sNil))) sInt))) (fun _ _ _ => sVar))) sName)
      (sSeq (sDrop (sApp sVar sVar))
      (sDrop (sApp sVar (sCall (sCons sVar (sCons sVar (sCons (sCall (sCons sVar (sCons sVar sNil))) (sCons sVar (sCons (sCall (sCons sVar (sCons sInt sNil))) sNil))))))))))))
      (sSeq (sAsg (sLc (siL sRest) (gwName List.mem_cons_self) (fun _ _ _ => sName) (fun _ _ _ => sYes) (fun _ _ _ => (sMakeSN (sCons sVar (sCons sVar (sCons (sOp roIxL sVar sInt) sNil)))))) sName)
      (sSeq (sAsg (sOwn sNil) sName)
      (sSeq (sFor (siL sRest) (fun _ _ _ => sName) (fun _ _ _ => (sDrop (sApp sVar (sCB rcTuple (sCons (sCB rcSortL (sCons (sLc (siL sVar) (gwName List.mem_cons_self) (fun _ _ _ => sName) (fun _ _ _ => (sTest (sOp roBl0 (sCall (sCons sVar (sCons sVar sNil))) sInt))) (fun _ _ _ => sVar)) sNil)) sNil))))))
      (sSeq (sIfS (sOr (sNot (sB (sCall (sCons (sOp roIxL sVar sInt) (sCons (sOp roIxL sVar sInt) sNil))))) (sNot (sB (sCall (sCons (sOp roIxL sVar sInt) (sCons (sOp roIxL sVar sInt) sNil)))))) (sRet sBl) sNext)
      (sSeq (sAsg (sCB rcSortT (sCons (sOp roCatT (sOp roIxL sVar sInt) (sOp roIxL sVar sInt)) sNil)) sName)
      (sSeq (sAsg sInt sName)
      (sSeq (sFor (siL sVar) (fun _ _ _ => sName) (fun _ _ _ => (sAsg (sOp roInt sVar (sCall (sCons sVar (sCons sVar sNil)))) sName)))
      (sSeq (sAsg (sMakeSW (W := fun cls d _ H => E cls d H) (by exact hW) (sCons (sOp roIxL sVar sInt) (sCons sVar (sCons (sOp roInt0 (sOp roIxL sVar sInt) sInt) sNil)))) sName)
      (sSeq (sIfS (sOr (sTest (sOp roNeD (sCall (sCons sInt (sCons (sOp roIxL sVar sInt) (sCons sVar (sCons sInt sNil))))) (sTup (sCons sInt (sCons sInt (sCons sInt sNil)))))) (sTest (sOp roNeD (sCall (sCons sInt (sCons sVar (sCons (sOp roIxL sVar sInt) (sCons sInt sNil))))) (sTup (sCons sInt (sCons sInt (sCons sInt sNil))))))) (sRet sBl) sNext)
      (sSeq (sIfS (sTest (sOp roBl0 sVar sInt)) (sRet (sAndV (sOp roEqD (sCall (sCons sInt (sCons (sOp roIxL sVar sInt) (sCons (sOp roIxL sVar sInt) (sCons sInt sNil))))) (sTup (sCons sInt (sCons sInt (sCons sInt sNil))))) (sOp roEqD (sCall (sCons sInt (sCons (sOp roIxL sVar sInt) (sCons (sOp roIxL sVar sInt) (sCons sInt sNil))))) (sTup (sCons sInt (sCons sInt (sCons sInt sNil))))))) sNext)
      (sSeq (sAsg (sCall (sCons sVar (sCons sVar sNil))) sName)
      (sSeq (sAsg (sLc (siL sVar) (gwName List.mem_cons_self) (fun _ _ _ => sName) (fun _ _ _ => sYes) (fun _ _ _ => (sCall (sCons (sOp roIxL sVar sInt) (sCons sVar (sCons sVar sNil)))))) sName)
      (sSeq (sAsg (sLc (siL sVar) (gwName List.mem_cons_self) (fun _ _ _ => sName) (fun _ _ _ => sYes) (fun _ _ _ => (sCall (sCons (sOp roIxL sVar sInt) (sCons sVar (sCons sVar sNil)))))) sName)
      (sRet (sCall (sCons (sOp roIxL sVar sInt) (sCons (sOp roIxL sVar sInt) (sCons sVar (sCons sVar (sCons sVar (sCons sVar sNil))))))))))))))))))))))))))))⟩) (fun ds μ Φ Ψ h => ?hv)
  case hv =>
    obtain ⟨st, ns, c, rfl, hst, sc, h⟩ := h
    refine seq_cut fun M hM => ?_
    walk_at "wp"
    refine ⟨by omega, by omega, by omega, by omega, by omega, by omega, by omega, st, ns, c, 6, rfl, hst, sc, by omega, log_small (n := 6) (by omega), fun y c1 y0 y1 sc => ?_⟩
    obtain ⟨ws, eo, hw⟩ : ∃ ws : List Int, atI [D.tup [.int 2], .tup [.int 3], .tup [.int 4, .int 2], .tup [.int 2, .int 3, .int 4], .tup [.int 2, .int 1, .int 3], .tup [.int 2, .int 2]] y = some (.tup (ws.map .int)) ∧ WsOk ws := by
      obtain ⟨y, rfl⟩ : ∃ m : Nat, y = (m : Int) := ⟨y.toNat, by omega⟩
      rcases (show y = 0 ∨ y = 1 ∨ y = 2 ∨ y = 3 ∨ y = 4 ∨ y = 5 by omega) with rfl | rfl | rfl | rfl | rfl | rfl
      · exact ⟨[2], atI_nat (j := 0) rfl, ws_one (by simp) (by simp) (by simp)⟩
      · exact ⟨[3], atI_nat (j := 1) rfl, ws_one (by simp) (by simp) (by simp)⟩
      · exact ⟨[4, 2], atI_nat (j := 2) rfl, ws_one (by simp) (by simp) (by simp)⟩
      · exact ⟨[2, 3, 4], atI_nat (j := 3) rfl, ws_one (by simp) (by simp) (by simp)⟩
      · exact ⟨[2, 1, 3], atI_nat (j := 4) rfl, ws_one (by simp) (by simp) (by simp)⟩
      · exact ⟨[2, 2], atI_nat (j := 5) rfl, ws_one (by simp) (by simp) (by simp)⟩
    walk_at "wp"
    refine ⟨_, eo, ?_⟩
    clear eo y0 y1 y
    rw [hM]; clear hM M
    refine seq_cut fun M hM => ?_
    walk_at "wp"
    refine ⟨st, ns, c1, 2, rfl, sset_same, sc, by omega, log_small (n := 2) (by omega), fun y c2 y0 y1 sc => ?_⟩
    obtain ⟨oc, eo, o2, o3⟩ : ∃ oc : Nat, 2 + y = (oc : Int) ∧ 2 ≤ oc ∧ oc ≤ 3 := ⟨(2 + y).toNat, by omega, by omega, by omega⟩
    rw [sset_sset]
    walk_at "wp"
    rw [eo]
    clear eo y0 y1 y
    refine ⟨by omega, ?_⟩
    rw [hM]; clear hM M
    refine seq_cut fun M hM => ?_
    walk_at "wp"
    refine ⟨st, ns, c2, 6, rfl, sset_same, sc, by omega, log_small (n := 6) (by omega), fun y c3 y0 y1 sc => ?_⟩
    obtain ⟨n, en, n1, n6⟩ : ∃ n : Nat, 1 + y = (n : Int) ∧ 1 ≤ n ∧ n ≤ 6 := ⟨(1 + y).toNat, by omega, by omega, by omega⟩
    rw [sset_sset]
    walk_at "wp"
    rw [en]
    clear en y0 y1 y
    refine ⟨st, ns, c3, ws, n, 64, rfl, sset_same, sc, hw, by omega, by omega, by omega, fun P0 c4 nd0 lt0 l0 pr0 ne0 sc => ?_⟩
    rw [sset_sset]
    walk_at "wp"
    refine ⟨by omega, fun b hb => ?_⟩
    have hbs : b ≠ st := fun z => by rw [z, sset_same] at hb; cases hb
    rw [hM]; clear hM M
    refine seq_cut fun M hM => ?_
    have hsb : (sset (sset μ st (.lst c4)) b (.lst [.lst (nI P0)])) st = some (.lst c4) := by rw [sset_ne hbs.symm, sset_same]
    walk_at "wp"
    refine ⟨st, ns, c4, ws, 6, 64, rfl, hsb, sc, hw, by omega, by omega, by omega, fun P1 c5 nd1 lt1 l1 pr1 ne1 sc => ?_⟩
    refine ⟨_, rfl, lcFN (fun q => decide (q ∉ P0)) (by omega) (fun q μ2 X Y hq hsub hx hy => ?_) ?_⟩
    · have hbb := hsub b _ (show (sset (sset (sset μ st (.lst c4)) b (.lst [.lst (nI P0)])) st (.lst c5)) b = some (.lst [.lst (nI P0)]) by rw [sset_ne hbs, sset_same])
      walk_at "wp"
      refine .inl ⟨_, hbb, _, rfl, nin_N ⟨.lst _, _, rfl, fun z => hx (by simpa using z), fun z => hy (by simpa using z)⟩⟩
    walk_at "wp"
    refine ⟨_, by rw [sset_ne hbs, sset_same], by simp, ?_⟩
    generalize hQ1 : P1.filter (fun q => decide (q ∉ P0)) = Q1
    have hμb : μ b = none := by rw [sset_ne hbs] at hb; exact hb
    generalize hA : sset (sset (sset (sset μ st (.lst c4)) b (.lst [.lst (nI P0)])) st (.lst c5)) b (.lst ([.lst (nI P0)] ++ [.lst (nI Q1)])) = μA
    have hAb : μA b = some (.lst [.lst (nI P0), .lst (nI Q1)]) := by rw [← hA, sset_same]; rfl
    have hAs : μA st = some (.lst c5) := by rw [← hA, sset_ne hbs.symm, sset_same]
    have hAo : ∀ a, a ≠ b → a ≠ st → μA a = μ a := fun a h1 h2 => by rw [← hA, sset_ne h1, sset_ne h2, sset_ne h1, sset_ne h2]
    clear hA hb hsb
    rw [hM]; clear hM M
    refine seq_cut fun M hM => ?_
    walk_at "wp"
    refine ⟨by omega, fun m hm => ?_⟩
    have hms : m ≠ st := fun z => by rw [z, hAs] at hm; cases hm
    have hmb : m ≠ b := fun z => by rw [z, hAb] at hm; cases hm
    have hμm : μ m = none := by rw [← hAo m hmb hms]; exact hm
    rw [hM]; clear hM M
    refine seq_cut fun M hM => ?_
    walk_at "wp"
    refine ⟨by omega, fun u hu => ?_⟩
    have hum : u ≠ m := fun z => by rw [z, sset_same] at hu; cases hu
    rw [sset_ne hum] at hu
    have hus : u ≠ st := fun z => by rw [z, hAs] at hu; cases hu
    have hub : u ≠ b := fun z => by rw [z, hAb] at hu; cases hu
    have hμu : μ u = none := by rw [← hAo u hub hus]; exact hu
    generalize hB : sset (sset μA m (.lst [])) u (.lst []) = μB
    have hBb : μB b = some (.lst [.lst (nI P0), .lst (nI Q1)]) := by rw [← hB, sset_ne hub.symm, sset_ne hmb.symm, hAb]
    have hBs : μB st = some (.lst c5) := by rw [← hB, sset_ne hus.symm, sset_ne hms.symm, hAs]
    have hBm : μB m = some (.lst []) := by rw [← hB, sset_ne hum.symm, sset_same]
    have hBu : μB u = some (.lst []) := by rw [← hB, sset_same]
    have hBo : ∀ a, a ≠ b → a ≠ st → a ≠ m → a ≠ u → μB a = μ a := fun a h1 h2 h3 h4 => by rw [← hB, sset_ne h4, sset_ne h3, hAo a h1 h2]
    clear hB hm hu hAb hAs hAo
    rw [hM]; clear hM M
    refine seq_cut fun M hM => ?_
    walk_at "wp"
    have ld0 : P0.Nodup := nd0
    have ldQ : Q1.Nodup := by rw [← hQ1]; exact nd1.sublist List.filter_sublist
    have hQsub : ∀ q ∈ Q1, q ∈ P1 ∧ q ∉ P0 := fun q hq => by rw [← hQ1] at hq; simpa using hq
    have hQlen : Q1.length ≤ 6 := by rw [← hQ1]; exact Nat.le_trans (List.length_filter_le _ _) l1
    have h0w : (hs ws P0).length ≤ 64 := by
      have := pr0 P0.length (Nat.le_refl _)
      rw [List.take_length] at this
      rw [← heads_hs, heads_len]; exact this
    have h1w : (hs ws P1).length ≤ 64 := by
      have := pr1 P1.length (Nat.le_refl _)
      rw [List.take_length] at this
      rw [← heads_hs, heads_len]; exact this
    have hQw : (hs ws Q1).length ≤ 64 := by
      rw [hs_wpr] at h1w ⊢
      rw [← hQ1]
      exact Nat.le_trans (wpr_sub hw List.filter_sublist) h1w
    refine ⟨_, hBb, fun i δ' μ' => ∃ (L : List (List Nat × QT)) (c : List D) (y6 y9 : Option D), δ' = [some (.hd (.ref st)), some (.tup (ws.map .int)), some (.lst [.tup (ws.map .int), .int (oc : Int)]), some (.hd (.ref b)), some (.hd (.ref m)), some (.hd (.ref u)), y6, none, none, y9, none, none, none, none, none, none, none, none, none] ∧ μ' m = some (.lst (L.map fun z => .lst (nI z.1))) ∧ μ' u = some (.lst (L.map fun z => qD z.2)) ∧ μ' st = some (.lst c) ∧ StC ns c ∧ (∀ a, a ≠ b → a ≠ st → a ≠ m → a ≠ u → μ' a = μ a) ∧ L.length = i ∧ ∀ j (hj : j < L.length), LotOk ws oc (if j = 0 then P0 else Q1) L[j].1 L[j].2,
      ⟨[], c5, none, none, rfl, by rw [sset_ne hmb, hBm]; rfl, by rw [sset_ne hub, hBu]; rfl, by rw [sset_ne hbs.symm, hBs], sc, fun a h1 h2 h3 h4 => by rw [sset_ne h1, hBo a h1 h2 h3 h4], rfl, fun j hj => absurd hj (Nat.not_lt_zero j)⟩, ?_, ?_⟩
    · rintro i d δ' μ' hi ⟨L, c6, y6, y9, rfl, em, eu, es, sc, eo, hL, hO⟩
      obtain ⟨P, rfl, hPe, hPn, hPl, hPw, hP100⟩ : ∃ P : List Nat, d = .lst (nI P) ∧ (if i = 0 then P0 else Q1) = P ∧ P.Nodup ∧ P.length ≤ 6 ∧ (hs ws P).length ≤ 64 ∧ (∀ q ∈ P, q < 100) := by
        rcases i with _ | _ | i
        · cases hi; exact ⟨P0, rfl, rfl, ld0, by omega, h0w, lt0⟩
        · cases hi; exact ⟨Q1, rfl, rfl, ldQ, hQlen, hQw, fun q hq => lt1 q (hQsub q hq).1⟩
        · simp at hi
      refine seq_cut fun N hN => ?_
      walk_at "wp"
      have ed : DW.cutD (nI P) (some 1) none = nI (P.drop 1) := by rw [show (1 : Int) = ((1 : Nat) : Int) from rfl, cut_from]; unfold nI; rw [List.map_drop]
      have et : DW.cutD (nI P) none (some 1) = nI (P.take 1) := by rw [show (1 : Int) = ((1 : Nat) : Int) from rfl, cut_to]; unfold nI; rw [List.map_take]
      rw [ed, et]
      refine lcG_drawG (StC ns) (fun i acc => ∃ ms : List Nat, acc = nI ms ∧ ms.Sublist ((P.drop 1).take i)) (by rw [nI_len, List.length_drop]; omega) es sc ⟨[], rfl, List.nil_sublist _⟩ (fun i d μ2 X Y acc c7 hi hs2 sc ⟨ms, e, hl⟩ hla hx hy => ?_) (fun acc c7 ⟨ms, e, hl⟩ hla sc => ?_)
      · obtain ⟨hil, rfl⟩ := nI_get hi
        walk_at "wp"
        refine ⟨st, ns, c7, 4, rfl, hs2, sc, by omega, log_small (n := 4) (by omega), fun z c8 z0 z1 sc => ?_⟩
        walk_at "wp"
        subst e
        have tk : (P.drop 1).take (i + 1) = (P.drop 1).take i ++ [(P.drop 1)[i]] := by rw [List.take_add_one, List.getElem?_eq_getElem hil]; rfl
        refine ⟨fun _ => hx _ _ sc ⟨ms ++ [(P.drop 1)[i]], by unfold nI; rw [List.map_append]; rfl, by rw [tk]; exact hl.append (List.Sublist.refl _)⟩, fun _ => hy _ sc ⟨ms, rfl, by rw [tk]; exact hl.trans (List.sublist_append_left _ _)⟩⟩
      · subst e
        rw [nI_len, List.take_length] at hl
        have sb : (P.take 1 ++ ms).Sublist P := by have := (List.Sublist.refl (P.take 1)).append hl; rwa [List.take_append_drop] at this
        have sbe : P.take 1 ++ ms = [] → P = [] := fun z => by
          cases P with
          | nil => rfl
          | cons a P => simp at z
        walk_at "wp"
        have eM : nI (P.take 1) ++ nI ms = nI (P.take 1 ++ ms) := by unfold nI; rw [List.map_append]
        rw [eM]
        generalize P.take 1 ++ ms = MS at *
        have hms' : ms.length ≤ P.length := Nat.le_trans hl.length_le (by rw [List.length_drop]; omega)
        have hMl := sb.length_le
        refine ⟨by rw [nI_len, nI_len, List.length_take]; omega, ?_⟩
        rw [hN]; clear hN N
        refine seq_cut fun N hN => ?_
        walk_at "wp"
        have i2 : i < 2 := by
          rcases i with _ | _ | i
          · omega
          · omega
          · simp at hi
        have hLl : (L.map fun z => D.lst (nI z.1)).length ≤ 100000 := by rw [List.length_map]; omega
        have hLl2 : (L.map fun z => qD z.2).length ≤ 100000 := by rw [List.length_map]; omega
        refine ⟨_, by rw [sset_ne hms, em], L.map (fun z => D.lst (nI z.1)), by rw [sset_ne hms, em], hLl, ?_⟩
        rw [hN]; clear hN N
        walk_at "wp"
        have hst3 : (sset (sset μ' st (.lst c7)) m (.lst (L.map (fun z => D.lst (nI z.1)) ++ [.lst (nI MS)]))) st = some (.lst c7) := by rw [sset_ne hms.symm, sset_same]
        refine ⟨L.map (fun z => qD z.2), by rw [sset_ne hum, sset_ne hus, eu], st, ns, c7, P, rfl, hst3, sc, by omega, fun qs c8 hq sc => ?_⟩
        refine ⟨st, ns, c8, 4, rfl, sset_same, sc, by omega, log_small (n := 4) (by omega), fun tot c9 z0 z1 sc => ?_⟩
        have hql := hq.length_eq
        refine ⟨st, ns, c9, ws, oc, qs, MS, tot, rfl, sset_same, sc, hw, by omega, by omega, by omega, by omega, fun q hq2 => hP100 q (hq.mem_iff.mp hq2), by omega, fun t c10 a1 a2 a3 a4 sc a5 => ?_⟩
        have hk := lkO_bd hw (A := qs) (by rw [hs_perm hq]; exact hPw)
        simp only [sset_sset]
        have hkk : (qs.length - 2) * 64 ≤ 4 * 64 := Nat.mul_le_mul (by omega) (Nat.le_refl _)
        refine ⟨L.map (fun z => qD z.2), by rw [sset_ne hus, sset_ne hum, sset_ne hus, eu], hLl2, L ++ [(MS, t)], c10, _, _, rfl, ?_, by rw [List.map_append]; rfl, by rw [sset_ne hus.symm, sset_same], sc, fun a h1 h2 h3 h4 => by rw [sset_ne h4, sset_ne h2, sset_ne h3, sset_ne h2, eo a h1 h2 h3 h4], by rw [List.length_append, hL]; rfl, fun j hj => ?_⟩
        · rw [sset_ne hum.symm, sset_ne hms, sset_same, List.map_append]; rfl
        · rw [List.length_append, List.length_singleton] at hj
          by_cases c : j < L.length
          · rw [List.getElem_append_left c]; exact hO j c
          · obtain rfl : j = L.length := by omega
            rw [List.getElem_append_right (Nat.le_refl _)]
            simp only [Nat.sub_self, List.getElem_cons_zero]
            rw [hL, hPe]
            exact ⟨hPn.sublist sb, fun q hq2 => sb.subset hq2, sbe, a1, by omega, fun q hq2 => hq.mem_iff.mp (a3 q hq2), by omega, qs, tot, hq, a5⟩
    · rintro δ' μ' ⟨L, c6, y6, y9, rfl, em, eu, es, sc, eo, hL, hO⟩
      obtain ⟨z0, z1, rfl⟩ : ∃ z0 z1, L = [z0, z1] := by
        match L, hL with
        | [z0, z1], _ => exact ⟨z0, z1, rfl⟩
      have K0 : LotOk ws oc P0 z0.1 z0.2 := hO 0 (by simp)
      have K1 : LotOk ws oc Q1 z1.1 z1.2 := hO 1 (by simp)
      clear hO hL
      rw [hM]; clear hM M
      refine seq_cut fun M hM => ?_
      walk_at "wp"
      have hum2 : (sset μ' u (.frz [qD z0.2, qD z1.2])) m = some (.lst [.lst (nI z0.1), .lst (nI z1.1)]) := by rw [sset_ne hum.symm, em]; rfl
      refine ⟨_, eu, ?_⟩
      have hst4 : (sset μ' u (.frz [qD z0.2, qD z1.2])) st = some (.lst c6) := by rw [sset_ne hus.symm, es]
      have qf : ∀ (P : List Nat) (z : List Nat × QT), LotOk ws oc P z.1 z.2 → P.Nodup → P.length ≤ 6 → (hs ws P).length ≤ 64 → (∀ q ∈ P, q < 100) → ∃ qs : List Nat, qs.Perm P ∧ QFit ws oc qs z.2 := fun P z K hn hl h64 hlt => by
        obtain ⟨qs, q1, q2⟩ := sort_ex hn hlt
        refine ⟨qs, q1, hw, by omega, by omega, K.ok, q2, by rw [q1.length_eq]; omega, ?_, fun q hq => q1.mem_iff.mpr (K.pl q hq), K.lk, by have := K.dp; omega⟩
        rw [← hs_wpr, hs_perm q1]
        omega
      obtain ⟨q0, p0, F0⟩ := qf P0 z0 K0 ld0 (by omega) h0w lt0
      obtain ⟨q1, p1, F1⟩ := qf Q1 z1 K1 ldQ hQlen hQw fun q hq => lt1 q (hQsub q hq).1
      refine lcM (l := [z0, z1]) (G := fun z => qD z.2) (fun z => qO T.c_Query z.2 ws oc) (by simp) (fun z μ2 X hz hsub hx => ?_) ?_
      · walk_at "wp"
        obtain ⟨qs, F⟩ : ∃ qs, QFit ws oc qs z.2 := by
          rcases List.mem_cons.mp hz with e | e
          · rw [e]; exact ⟨_, F0⟩
          · rw [List.mem_singleton.mp e]; exact ⟨_, F1⟩
        intro x hx2
        refine ⟨x, ws, oc, qs, z.2, rfl, sset_same, F, ?_⟩
        exact ⟨rfl, NS_Query, _, sset_same, by rw [sset_sset, sdel_sset hx2]; exact hx⟩
      rw [hM]; clear hM M
      refine seq_cut fun M hM => ?_
      walk_at "wp"
      refine ⟨by omega, fun e he => ?_⟩
      have heu : e ≠ u := fun z => by rw [z, sset_same] at he; cases he
      rw [sset_ne heu] at he
      have hem : e ≠ m := fun z => by rw [z, em] at he; cases he
      have hes : e ≠ st := fun z => by rw [z, es] at he; cases he
      generalize hC : sset (sset μ' u (.frz [qD z0.2, qD z1.2])) e (.lst []) = μC
      have hCm : μC m = some (.lst [.lst (nI z0.1), .lst (nI z1.1)]) := by rw [← hC, sset_ne hem.symm]; exact hum2
      have hCu : μC u = some (.frz [qD z0.2, qD z1.2]) := by rw [← hC, sset_ne heu.symm, sset_same]
      have hCs : μC st = some (.lst c6) := by rw [← hC, sset_ne hes.symm]; exact hst4
      have hCe : μC e = some (.lst []) := by rw [← hC, sset_same]
      have hCo : ∀ a, a ≠ b → a ≠ st → a ≠ m → a ≠ u → a ≠ e → μC a = μ a := fun a h1 h2 h3 h4 h5 => by rw [← hC, sset_ne h5, sset_ne h4, eo a h1 h2 h3 h4]
      have hμe : μ e = none := by
        by_cases z : e = b
        · rw [z]; exact hμb
        · rw [← eo e z hes hem heu]; exact he
      have hem' := hem
      clear hC he em eu es eo hum2 hst4 hBb hBs hBm hBu hBo
      rw [hM]; clear hM M
      refine seq_cut fun M hM => ?_
      walk_at "wp"
      refine ⟨_, hCm, fun i δ' μ' => ∃ (N : List (List Nat)) (y9 : Option D), δ' = [some (.hd (.ref st)), some (.tup (ws.map .int)), some (.lst [.tup (ws.map .int), .int (oc : Int)]), some (.hd (.ref b)), some (.hd (.ref m)), some (.hd (.ref u)), y6, some (.lst [qO T.c_Query z0.2 ws oc, qO T.c_Query z1.2 ws oc]), some (.hd (.ref e)), y9, none, none, none, none, none, none, none, none, none] ∧ μ' e = some (.lst (N.map fun l => .tup (nI l))) ∧ (∀ a, a ≠ e → a ≠ m → μ' a = μC a) ∧ N.length = i ∧ ∀ j (hj : j < N.length), N[j].Pairwise (· < ·) ∧ ∀ q, q ∈ N[j] ↔ q ∈ (if j = 0 then z0.1 else z1.1) ∧ 1 < wd ws q,
        ⟨[], _, rfl, by rw [sset_ne hem', hCe]; rfl, fun a h1 h2 => by rw [sset_ne h2], rfl, fun j hj => absurd hj (Nat.not_lt_zero j)⟩, ?_, ?_⟩
      · rintro i d δ' μ' hi ⟨N, y9, rfl, ee, eo, hN, hO⟩
        obtain ⟨l, rfl, hl, hln, hll⟩ : ∃ l : List Nat, d = .lst (nI l) ∧ (if i = 0 then z0.1 else z1.1) = l ∧ l.Nodup ∧ l.length ≤ 6 := by
          have k0 := nodup_leN K0.nd K0.sub
          have k1 := nodup_leN K1.nd K1.sub
          rcases i with _ | _ | i
          · cases hi; exact ⟨z0.1, rfl, rfl, K0.nd, by omega⟩
          · cases hi; exact ⟨z1.1, rfl, rfl, K1.nd, by omega⟩
          · simp at hi
        walk_at "wp"
        refine ⟨_, ee, ?_⟩
        refine lcFN (fun q => decide (1 < wd ws q)) (by omega) (fun q μ2 X Y hq hsub hx hy => ?_) ?_
        · walk_at "wp"
          refine ⟨ws, q, rfl, hw, ?_⟩
          walk_at "wp"
          exact ⟨fun z => hx (decide_eq_true (by omega)), fun z => hy (decide_eq_false (by omega))⟩
        · refine sortN (hln.sublist List.filter_sublist) (Nat.lt_of_le_of_lt (List.length_filter_le _ _) (by omega)) fun qs q1 q2 => ?_
          have i2 : i < 2 := by
            rcases i with _ | _ | i
            · omega
            · omega
            · simp at hi
          refine ⟨_, .lst _, _, ee, by rw [List.length_map]; omega, N ++ [qs], _, rfl, by rw [List.map_append]; rfl, fun a h1 h2 => by rw [sset_ne h1]; exact eo a h1 h2, by rw [List.length_append, hN]; rfl, fun j hj => ?_⟩
          rw [List.length_append, List.length_singleton] at hj
          by_cases c : j < N.length
          · rw [List.getElem_append_left c]; exact hO j c
          · obtain rfl : j = N.length := by omega
            rw [List.getElem_append_right (Nat.le_refl _)]
            simp only [Nat.sub_self, List.getElem_cons_zero]
            rw [hN, hl]
            exact ⟨q2, fun q => by rw [q1.mem_iff, List.mem_filter, decide_eq_true_iff]⟩
      · rintro δ' μ' ⟨N, y9, rfl, ee, eo, hN, hO⟩
        obtain ⟨n0, n1, rfl⟩ : ∃ n0 n1, N = [n0, n1] := by
          match N, hN with
          | [n0, n1], _ => exact ⟨n0, n1, rfl⟩
        obtain ⟨s0, m0⟩ := hO 0 (by simp)
        obtain ⟨s1, m1⟩ := hO 1 (by simp)
        have m0 : ∀ q, q ∈ n0 ↔ q ∈ z0.1 ∧ 1 < wd ws q := m0
        have m1 : ∀ q, q ∈ n1 ↔ q ∈ z1.1 ∧ 1 < wd ws q := m1
        clear hO hN
        rw [hM]; clear hM M
        refine seq_cut fun M hM => ?_
        walk_at "wp"
        have hem2 : m ≠ e := fun z => hem' z.symm
        have need : ∀ (P : List Nat) (z : List Nat × QT) (qs nd : List Nat), LotOk ws oc P z.1 z.2 → P.Nodup → QFit ws oc qs z.2 → (∀ q, q ∈ nd ↔ q ∈ z.1 ∧ 1 < wd ws q) → ∀ q, q ∈ nd ↔ q ∈ qPl (stl ws z.2) := fun P z qs nd K hn F h q => by
          obtain ⟨os, tot, h1, h2⟩ := K.fq
          rw [h, full_needed hw o2 (by omega) (h1.nodup_iff.mpr hn) (fun q hq => h1.mem_iff.mpr (K.sub q hq)) (fun q hq => h1.mem_iff.mpr (K.pl q hq)) (stl_of F) (fun z => by rw [K.ne z] at h1; exact h1.eq_nil) h2]
        refine .inl ⟨_, ee, _, rfl, ws, oc, q0, n0, z0.2, rfl, F0, s0, need _ _ _ _ K0 ld0 F0 m0, true, rfl, nofun, fun _ => .inl ⟨_, ee, _, rfl, ws, oc, q1, n1, z1.2, rfl, F1, s1, need _ _ _ _ K1 ldQ F1 m1, true, rfl, nofun, fun _ => ?_⟩⟩
        rw [hM]; clear hM M
        refine seq_cut fun M hM => ?_
        walk_at "wp"
        have dj : (n0 ++ n1).Nodup := by
          refine List.nodup_append.mpr ⟨s0.imp fun z => by omega, s1.imp fun z => by omega, fun a ha b hb2 e => ?_⟩
          have h1 := K0.sub a ((m0 a).mp ha).1
          have h2 := (hQsub b (K1.sub b ((m1 b).mp hb2).1)).2
          exact h2 (by rw [← e]; exact h1)
        have nl0 := nodup_leN (l := n0) (m := P0) (s0.imp fun z => by omega) fun q hq => K0.sub q ((m0 q).mp hq).1
        have nl1 := nodup_leN (l := n1) (m := Q1) (s1.imp fun z => by omega) fun q hq => K1.sub q ((m1 q).mp hq).1
        refine .inl ⟨_, ee, _, rfl, .inl ⟨_, ee, _, rfl, ?_⟩⟩
        walk_at "wp"
        rw [show nI n0 ++ nI n1 = nI (n0 ++ n1) by unfold nI; rw [List.map_append]]
        refine ⟨by rw [nI_len, nI_len]; omega, sortNT dj fun bo bp bs => ?_⟩
        have bl := bp.length_eq
        rw [List.length_append] at bl
        have bmem : ∀ q, q ∈ bo ↔ (q ∈ z0.1 ∨ q ∈ z1.1) ∧ 1 < wd ws q := fun q => by
          rw [bp.mem_iff, List.mem_append, m0, m1]
          constructor
          · rintro (⟨h1, h2⟩ | ⟨h1, h2⟩)
            · exact ⟨.inl h1, h2⟩
            · exact ⟨.inr h1, h2⟩
          · rintro ⟨h1 | h1, h2⟩
            · exact .inl ⟨h1, h2⟩
            · exact .inr ⟨h1, h2⟩
        rw [hM]; clear hM M
        refine seq_cut fun M hM => ?_
        walk_at "wp"
        rw [hM]; clear hM M
        refine seq_cut fun M hM => ?_
        walk_at "wp"
        refine ⟨fun i δ' μ2 => ∃ (y12 : Option D), δ' = [some (.hd (.ref st)), some (.tup (ws.map .int)), some (.lst [.tup (ws.map .int), .int (oc : Int)]), some (.hd (.ref b)), some (.hd (.ref m)), some (.hd (.ref u)), y6, some (.lst [qO T.c_Query z0.2 ws oc, qO T.c_Query z1.2 ws oc]), some (.hd (.ref e)), y9, some (.lst (nI bo)), some (.int (wpl ws (bo.take i) : Int)), y12, none, none, none, none, none, none] ∧ μ2 = μ', ⟨_, rfl, rfl⟩, ?_, ?_⟩
        · rintro i d δ' μ2 hi ⟨y12, rfl, rfl⟩
          obtain ⟨hil, rfl⟩ := nI_get hi
          walk_at "wp"
          refine ⟨ws, bo[i], rfl, hw, ?_⟩
          have tk : wpl ws (bo.take (i + 1)) = wpl ws (bo.take i) * wd ws bo[i] := by rw [List.take_add_one, List.getElem?_eq_getElem hil]; exact wpl_snoc ws _ _
          have w4 := (hw.wd1 bo[i]).2
          have wb : wpl ws (bo.take i) ≤ 4 ^ 12 := by
            rw [wpl_wpr]
            exact Nat.le_trans (wpr_le hw _) (Nat.pow_le_pow_right (by omega) (by rw [List.length_take]; omega))
          have w12 : (4 : Nat) ^ 12 < 2 ^ 30 := by decide
          walk_at "wp"
          refine ⟨mulx 30 3 (by omega) (by omega) (by decide), some (.int (bo[i] : Int)), ?_⟩
          rw [tk, Int.natCast_mul]
        · rintro δ' μ2 ⟨y12, rfl, rfl⟩
          rw [nI_len, List.take_length, hM]; clear hM M
          refine seq_cut fun M hM => ?_
          walk_at "wp"
          have hCu2 := eo u (fun z => heu z.symm) hum
          rw [hCu] at hCu2
          have F1' : QFit ws (oc + 1) q1 z1.2 := ⟨hw, by omega, by omega, qok_up (by omega) _ F1.ok, F1.sorted, F1.most, F1.few, F1.pl, F1.looks, F1.dep⟩
          refine .inr ⟨_, hCu2, _, rfl, fun x hx => ⟨x, ws, oc + 1, q1, z1.2, rfl, sset_same, F1', rfl, NS_Query, _, sset_same, ?_⟩⟩
          rw [sset_sset, sdel_sset hx, hM]; clear hM M hx x
          refine seq_cut fun M hM => ?_
          walk_at "wp"
          refine ref_mis F0 F1' (fun _ => by omega) ⟨by omega, ne3 ⟨false, rfl, nofun, fun _ => ref_mis F1' F0 (fun _ => by omega) ⟨by omega, ne3 ⟨false, rfl, nofun, fun _ => ?_⟩⟩⟩⟩
          have hfin : ∃ μ3, DW.Sub μ3 μ2 ∧ Φ (.bl true) μ3 := by
            refine ⟨_, fun a x hx => ?_, h c6 sc⟩
            by_cases as : a = st
            · rw [as, sset_same] at hx
              rw [as, eo st (fun z => hes z.symm) hms.symm, hCs]
              exact hx
            · rw [sset_ne as] at hx
              have k1 : a ≠ b := fun z => by rw [z, hμb] at hx; cases hx
              have k2 : a ≠ m := fun z => by rw [z, hμm] at hx; cases hx
              have k3 : a ≠ u := fun z => by rw [z, hμu] at hx; cases hx
              have k4 : a ≠ e := fun z => by rw [z, hμe] at hx; cases hx
              rw [eo a k4 k2, hCo a k1 as k2 k3 k4]
              exact hx
          have mem0 := need _ _ _ _ K0 ld0 F0 m0
          have mem1 := need _ _ _ _ K1 ldQ F1 m1
          have bm : ∀ q, q ∈ bo ↔ q ∈ qPl (stl ws z0.2) ∨ q ∈ qPl (stl ws z1.2) := fun q => by rw [bp.mem_iff, List.mem_append, mem0, mem1]
          rw [hM]; clear hM M
          refine seq_cut fun M hM => ?_
          walk_at "wp"
          refine ⟨fun big => ?_, fun small => ?_⟩
          · have big : 256 < wpr ws bo := by rw [← wpl_wpr]; omega
            exact ref_big F0 F1 bs bm big ⟨by omega, eq3 ⟨true, rfl, fun _ => ref_big F1 F0 bs (fun q => by rw [bm, Or.comm]) big ⟨by omega, eq3 hfin⟩, nofun⟩⟩
          · have small : wpl ws bo ≤ 256 := by omega
            have hb8 : bo.length ≤ 8 := by
              refine Classical.byContradiction fun z => ?_
              have t1 := wpr_two (ws := ws) bo fun q hq => ((bmem q).mp hq).2
              have t2 : 2 ^ 9 ≤ 2 ^ bo.length := Nat.pow_le_pow_right (by omega) (by omega)
              rw [wpl_wpr] at small
              omega
            have bH : (hs ws bo).length ≤ 256 := by rw [hs_wpr, ← wpl_wpr]; exact small
            rw [hM]; clear hM M
            refine seq_cut fun M hM => ?_
            walk_at "wp"
            refine ⟨ws, bo, rfl, hw, hb8, fun i hi => ?_, ?_⟩
            · rw [wpl_wpr] at small ⊢
              exact Nat.le_trans (wpr_sub hw (List.take_sublist i bo)) small
            rw [heads_hs, hM]; clear hM M
            have hCu2 := eo u (fun z => heu z.symm) hum
            rw [hCu] at hCu2
            refine seq_cut fun M hM => ?_
            walk_at "wp"
            refine lcM (l := hs ws bo) (G := fun l => .lst (nI l)) (fun c => .int ((tl z0.2 bo c : Nat) : Int)) (by omega) (fun c μ3 X hc hsub hx => ?_) ?_
            · walk_at "wp"
              exact .inr ⟨_, hsub _ _ hCu2, _, rfl, ws, oc, z0.2, bo, c, rfl, hw, K0.ok, F0.dep, hb8, hc, hx⟩
            rw [hM]; clear hM M
            refine seq_cut fun M hM => ?_
            walk_at "wp"
            refine lcM (l := hs ws bo) (G := fun l => .lst (nI l)) (fun c => .int ((tl z1.2 bo c : Nat) : Int)) (by omega) (fun c μ3 X hc hsub hx => ?_) ?_
            · walk_at "wp"
              exact .inr ⟨_, hsub _ _ hCu2, _, rfl, ws, oc, z1.2, bo, c, rfl, hw, K1.ok, F1.dep, hb8, hc, hx⟩
            rw [hM]; clear hM M
            rw [← nI_map, ← nI_map]
            walk_at "wps"
            exact ⟨ws, oc, bo, q0, q1, z0.2, z1.2, rfl, F0, F1, bs, by omega, fun q hq => ((bm q).mp hq).elim ((stl_of F0).p100 q) ((stl_of F1).p100 q), bH, fun q hq => (bm q).mpr (.inl hq), fun q hq => (bm q).mpr (.inr hq), hfin⟩
end
section
variable {P : Program} {w : World} {K : Fg} {mg : Str → Option Value} {base : Heap}
theorem fit_of {ws : List Int} {oc : Nat} {ps qs : List Nat} {t : QT} (hw : WsOk ws) (o1 : 1 ≤ oc) (o4 : oc ≤ 4) (nd : ps.Nodup) (hq : qs.Perm ps) (hs : qs.Pairwise (· < ·)) (h5 : ps.length ≤ 5) (h64 : wpl ws ps ≤ 64) (ht : QOk ws oc t) (hd : qDep t ≤ 8) (hp : ∀ q ∈ qPl t, q ∈ qs) (hl : (qPl t).length ≤ 300) : QFit ws oc qs t ∧ (LW.hs ws qs).length ≤ 64 := by
  have e1 : (LW.hs ws qs).length = wpl ws qs := by rw [← heads_len, heads_hs]
  have e2 : (LW.hs ws ps).length = wpl ws ps := by rw [← heads_len, heads_hs]
  have e3 := hs_perm (ws := ws) hq
  have e4 := hq.length_eq
  refine ⟨⟨hw, o1, o4, ht, hs, by omega, ?_, hp, hl, by omega⟩, by omega⟩
  rw [← wpl_wpr]
  omega
theorem tl_both {ws : List Int} {oc : Nat} {ps qs : List Nat} {t : QT} (h : QFit ws oc ps t) {c : List Nat} (hc : c ∈ hs ws qs) : tl t qs c = tl (stl ws t) qs c := tl_eq h.w (stl_of h).an hc
theorem ndl_ns {ws : List Int} {oc : Nat} {ps : List Nat} {t : QT} (h : QFit ws oc ps t) {T : List Nat} (hT : T = (hs ws ps).map (tl t ps)) : ∀ (B A : List Nat), A ++ B = ps → ndl ws T B = B.filter fun p => decide (p ∈ qPl (stl ws t))
  | [], A, e => rfl
  | p :: B, A, e => by
    have S := stl_of h
    have hTl : T.length = (hs ws ps).length := by rw [hT, List.length_map]
    have hnd : (A ++ p :: B).Nodup := by rw [e]; exact h.sorted.imp (fun z => by omega)
    have key := needed_iff (T := fun q => T.getD q 0) h.w S.is hnd (fun q hq => by rw [e]; exact h.pl q (S.pl q hq)) fun i c hc => by
      rw [e] at hc ⊢
      show T.getD i 0 = _
      rw [hT, List.getD_eq_getElem?_getD, List.getElem?_map, hc]
      exact tl_both h (List.mem_of_getElem? hc)
    rw [ndl, List.filter_cons, ndl_ns h hT B (A ++ [p]) (by rw [← e]; simp)]
    have e2 : (List.range T.length).any (ndB (fun q => T.getD q 0) (wd ws p) (hs ws B).length) = decide (p ∈ qPl (stl ws t)) := by
      rw [Bool.eq_iff_iff, decide_eq_true_eq, ← key, List.any_eq_true]
      constructor
      · rintro ⟨q, hq, hd⟩
        exact ⟨q, by rw [e, ← hTl]; exact List.mem_range.mp hq, hd⟩
      · rintro ⟨q, hq, hd⟩
        exact ⟨q, List.mem_range.mpr (by rw [hTl, ← e]; exact hq), hd⟩
    rw [e2]
def c_law : Con := fun ds μ Φ _ => ∃ ns : List Int, ds = [.scr ns] ∧ ns.length ≤ 63 ∧ Φ (.bl true) μ
theorem len_law {ds μ Φ Ψ} (h : c_law ds μ Φ Ψ) : ds.length = 1 := by obtain ⟨_, rfl, _⟩ := h; rfl
theorem ok_law (T : Txt P w K mg) : FnOk P w K mg base (L2N.CX P w) 70 T.f_law T.d_law ["_law_script"] (spOf K c_law) := by
  refine def_okC T.F_law sc_law _ (fun ds μ Φ Ψ h => len_law h) (fun cdv A outer s H E B hW hr =>
    have tk : L2N.Takes (cxOf (L2N.CX P w) P w K mg base N_law "law" (defScope s_law) T.f_law cdv A outer s H E) (fun cls d _ H => E cls d H) := L2N.takes_of rfl rfl rfl rfl
    ⟨_, (pss_cons (ps_set (i := 1) sc_law.nd rfl (Or.inl rfl) (pe_call (ok__law_start T) (hr.mono (by decide)) rfl T.g__law_start T.F__law_start.kp T.b__law_start .nil passN (pa_cons (pv 0) pa_nil)))
      (pss_cons (ps_set (i := 2) sc_law.nd rfl (Or.inl rfl) (pe_call (ok__law_widths T) (hr.mono (by decide)) rfl T.g__law_widths T.F__law_widths.kp T.b__law_widths .nil passN (pa_cons (pv 1) pa_nil)))
      (pss_cons (ps_if (PW.pt (pw_and (pt_cmpR op_eq (pe_callB (cr_maxT rfl hr) (by rfl) T.z_max (by decide +kernel) (pa_cons (pv 2) pa_nil)) pe_int (nomark _)) (pw_and1 (pt_cmpR op_gt (pe_call (ok__law_pick T) (hr.mono (by decide)) rfl T.g__law_pick T.F__law_pick.kp T.b__law_pick .nil passN (pa_cons (pv 1) (pa_cons pe_int pa_nil))) pe_int (nomark _))))) (pss_one (ps_set (i := 2) sc_law.nd rfl (Or.inl rfl) (pe_op op_catN (pe_slice sl_tupN (pv 2) po_none (po_some pe_int)) (pe_tupN (pa_cons (pe_op op_add pe_int (pe_call (ok__law_pick T) (hr.mono (by decide)) rfl T.g__law_pick T.F__law_pick.kp T.b__law_pick .nil passN (pa_cons (pv 1) (pa_cons pe_int pa_nil)))) pa_nil))))) pss_nil)
      (pss_cons (ps_set (i := 3) sc_law.nd rfl (Or.inl rfl) (pe_ix ix_list (pe_lst (pa_cons pe_int (pa_cons pe_int (pa_cons pe_int (pa_cons (pe_op op_add pe_int (pe_call (ok__law_pick T) (hr.mono (by decide)) rfl T.g__law_pick T.F__law_pick.kp T.b__law_pick .nil passN (pa_cons (pv 1) (pa_cons pe_int pa_nil)))) pa_nil))))) (pe_call (ok__law_pick T) (hr.mono (by decide)) rfl T.g__law_pick T.F__law_pick.kp T.b__law_pick .nil passN (pa_cons (pv 1) (pa_cons pe_int pa_nil))) (fun _ _ => rfl)))
      (pss_cons (ps_set (i := 4) sc_law.nd rfl (Or.inl rfl) (pe_lst (pa_cons (pv 2) (pa_cons (pv 3) pa_nil))))
      (pss_cons (ps_set (i := 5) sc_law.nd rfl (Or.inr rfl) (pe_call (ok__law_look_places T) (hr.mono (by decide)) rfl T.g__law_look_places T.F__law_look_places.kp T.b__law_look_places .nil passN (pa_cons (pv 1) (pa_cons (pv 2) (pa_cons (pe_op op_add pe_int (pe_call (ok__law_pick T) (hr.mono (by decide)) rfl T.g__law_pick T.F__law_pick.kp T.b__law_pick .nil passN (pa_cons (pv 1) (pa_cons pe_int pa_nil)))) (pa_cons (pe_ix ix_list (pe_lst (pa_cons pe_int (pa_cons pe_int (pa_cons pe_int pa_nil)))) (pe_call (ok__law_pick T) (hr.mono (by decide)) rfl T.g__law_pick T.F__law_pick.kp T.b__law_pick .nil passN (pa_cons (pv 1) (pa_cons pe_int pa_nil))) (fun _ _ => rfl)) pa_nil))))))
      (pss_cons (ps_set (i := 6) sc_law.nd rfl (Or.inl rfl) (pe_call (ok__law_first_term T) (hr.mono (by decide)) rfl T.g__law_first_term T.F__law_first_term.kp T.b__law_first_term .nil passN (pa_cons (pv 1) (pa_cons (pv 4) (pa_cons (pv 5) pa_nil)))))
      (pss_cons (ps_set (i := 7) sc_law.nd rfl (Or.inl rfl) (pe_call (ok__law_second_term T) (hr.mono (by decide)) rfl T.g__law_second_term T.F__law_second_term.kp T.b__law_second_term .nil passN (pa_cons (pv 1) (pa_cons (pv 4) (pa_cons (pv 5) (pa_cons (pv 6) pa_nil))))))
      (pss_cons (ps_set (i := 8) sc_law.nd rfl (Or.inl rfl) (pe_lst (pa_cons (pe_makeS T.mk_Query (ok_Query___init__ T) (hr.mono (by decide)) rfl T.g_Query T.b_Query___init__ (fun σ => L2N.passAt tk σ) (pa_cons (pv 6) (pa_cons (pv 2) (pa_cons (pv 3) pa_nil)))) (pa_cons (pe_makeS T.mk_Query (ok_Query___init__ T) (hr.mono (by decide)) rfl T.g_Query T.b_Query___init__ (fun σ => L2N.passAt tk σ) (pa_cons (pv 7) (pa_cons (pv 2) (pa_cons (pv 3) pa_nil)))) pa_nil))))
      (pss_cons (ps_set (i := 5) sc_law.nd rfl (Or.inr rfl) (pe_callB cr_sorted (by rfl) T.z_sorted (by decide +kernel) (pa_cons (pv 5) pa_nil)))
      (pss_cons (ps_set (i := 9) sc_law.nd rfl (Or.inr rfl) (pe_call (ok__law_heads T) (hr.mono (by decide)) rfl T.g__law_heads T.F__law_heads.kp T.b__law_heads .nil passN (pa_cons (pv 2) (pa_cons (pv 5) pa_nil))))
      (pss_cons (ps_setLc (i := 10) (own := [("_law_term", 12)]) rfl sc_law.nd rfl rfl (sw_true rfl rfl rfl (by decide +kernel)) (pi_list (pe_lst (pa_cons (pv 6) (pa_cons (pv 7) pa_nil)))) (blkOk_by (N := N_law) (sc := defScope s_law) (by decide +kernel)) (fun _ _ _ _ _ => (pg_name (i := 12) sc_law.nd rfl (Or.inr rfl))) (fun _ _ _ _ _ => pts_nil) (fun _ _ _ _ _ => (pe_lc (own := [("_law_head", 13)]) rfl sc_law.nd (pi_list (pv 9)) (blkOk_by (N := N_law) (by exact rfl)) (fun _ _ _ _ _ => (pg_name (i := 13) sc_law.nd rfl (Or.inl rfl))) (fun _ _ _ _ _ => pts_nil) (fun _ _ _ _ _ => (pe_call (ok__law_tell T) (hr.mono (by decide)) rfl T.g__law_tell T.F__law_tell.kp T.b__law_tell .nil passN (pa_cons (pv 12) (pa_cons (pv 5) (pa_cons (pv 13) pa_nil))))))))
      (pss_cons (ps_for (passes_of rfl) rfl (pi_list (pe_lst (pa_cons pe_int (pa_cons pe_int (pa_cons pe_int pa_nil))))) (pg_name (i := 11) sc_law.nd rfl (Or.inl rfl)) (pss_one (ps_if (pt_not (pt_val (pe_call (ok__law_least_rows T) (hr.mono (by decide)) rfl T.g__law_least_rows T.F__law_least_rows.kp T.b__law_least_rows .nil passN (pa_cons (pe_ix ix_list (pv 8) (pv 11) (fun _ _ => rfl)) (pa_cons (pv 3) (pa_cons (pv 5) (pa_cons (pv 9) (pa_cons (pe_ix ix_list (pv 10) (pv 11) (fun _ _ => rfl)) pa_nil)))))))) (pss_one (ps_ret pe_bl)) pss_nil)))
      (pss_cons (ps_for (passes_of rfl) rfl (pi_range1 rfl T.z_range (pa_cons pe_int pa_nil)) (pg_name (i := 11) sc_law.nd rfl (Or.inl rfl)) (pss_one (ps_if (pt_not (pt_val (pe_call (ok__law_needs T) (hr.mono (by decide)) rfl T.g__law_needs T.F__law_needs.kp T.b__law_needs .nil passN (pa_cons (pe_ix ix_list (pv 8) (pv 11) (fun _ _ => rfl)) (pa_cons (pe_call (ok__law_needed T) (hr.mono (by decide)) rfl T.g__law_needed T.F__law_needed.kp T.b__law_needed .nil passN (pa_cons (pv 2) (pa_cons (pv 5) (pa_cons (pe_ix ix_list (pv 10) (pv 11) (fun _ _ => rfl)) pa_nil)))) pa_nil))))) (pss_one (ps_ret pe_bl)) pss_nil)))
      (pss_cons (ps_if (pt_not (pt_val (pe_call (ok__law_parts T) (hr.mono (by decide)) rfl T.g__law_parts T.F__law_parts.kp T.b__law_parts .nil passN (pa_cons (pe_ix ix_list (pv 8) pe_int (fun _ _ => rfl)) (pa_cons (pe_ix ix_list (pv 8) pe_int (fun _ _ => rfl)) (pa_cons (pv 5) (pa_cons (pv 9) (pa_cons (pe_ix ix_list (pv 10) pe_int (fun _ _ => rfl)) (pa_cons (pe_ix ix_list (pv 10) pe_int (fun _ _ => rfl)) pa_nil))))))))) (pss_one (ps_ret pe_bl)) pss_nil)
      (pss_cons (ps_if (pt_not (pt_val (pe_call (ok__law_refuses T) (hr.mono (by decide)) rfl T.g__law_refuses T.F__law_refuses.kp T.b__law_refuses .nil passN (pa_cons (pv 1) (pa_cons (pe_ix ix_list (pv 8) pe_int (fun _ _ => rfl)) (pa_cons (pv 2) (pa_cons (pv 3) pa_nil))))))) (pss_one (ps_ret pe_bl)) pss_nil)
      (pss_cons (ps_if (PW.pt (pw_and (pt_cmpR op_eq (pe_call (ok__law_pick T) (hr.mono (by decide)) rfl T.g__law_pick T.F__law_pick.kp T.b__law_pick .nil passN (pa_cons (pv 1) (pa_cons pe_int pa_nil))) pe_int (nomark _)) (pw_and1 (pt_not (pt_val (pe_call (ok__law_far_apart T) (hr.mono (by decide)) rfl T.g__law_far_apart T.F__law_far_apart.kp T.b__law_far_apart .nil passN (pa_cons (pv 1) pa_nil))))))) (pss_one (ps_ret pe_bl)) pss_nil)
      (pss_one (ps_ret (pe_call (ok__law_same T) (hr.mono (by decide)) rfl T.g__law_same T.F__law_same.kp T.b__law_same .nil passN (pa_cons (pe_tupN (pa_cons (pe_fld (pe_ix ix_list (pv 8) pe_int (fun _ _ => rfl)) rfl) (pa_cons (pe_fld (pe_ix ix_list (pv 8) pe_int (fun _ _ => rfl)) rfl) pa_nil))) (pa_cons (pe_tupN (pa_cons (pv 6) (pa_cons (pv 7) pa_nil))) pa_nil)))))))))))))))))))))),
      (sSeq (sAsg (sCall (sCons sVar sNil)) sName)
      (sSeq (sAsg (sCall (sCons sVar sNil)) sName)
      (sSeq (sIfS (sAnd (sTest (sOp roEq (sCB rcMaxT (sCons sVar sNil)) sInt)) (sTest (sOp roBl0 (sCall (sCons sVar (sCons sInt sNil))) sInt))) (sAsg (sOp roCatT (sSlT sVar sNoPart (sPart sInt)) (sTup (sCons (sOp roInt0 sInt (sCall (sCons sVar (sCons sInt sNil)))) sNil))) sName) sNext)
      (sSeq (sAsg (sOp roIxL (sLst (sCons sInt (sCons sInt (sCons sInt (sCons (sOp roInt0 sInt (sCall (sCons sVar (sCons sInt sNil)))) sNil))))) (sCall (sCons sVar (sCons sInt sNil)))) sName)
      (sSeq (sAsg (sLst (sCons sVar (sCons sVar sNil))) sName)
      (sSeq (sAsg (sCall (sCons sVar (sCons sVar (sCons (sOp roInt0 sInt (sCall (sCons sVar (sCons sInt sNil)))) (sCons (sOp roIxL (sLst (sCons sInt (sCons sInt (sCons sInt sNil)))) (sCall (sCons sVar (sCons sInt sNil)))) sNil))))) sName)
      (sSeq (sAsg (sCall (sCons sVar (sCons sVar (sCons sVar sNil)))) sName)
      (sSeq (sAsg (sCall (sCons sVar (sCons sVar (sCons sVar (sCons sVar sNil))))) sName)
      (sSeq (sAsg (sLst (sCons (sMakeSW (W := fun cls d _ H => E cls d H) (by exact hW) (sCons sVar (sCons sVar (sCons sVar sNil)))) (sCons (sMakeSW (W := fun cls d _ H => E cls d H) (by exact hW) (sCons sVar (sCons sVar (sCons sVar sNil)))) sNil))) sName)
      (sSeq (sAsg (sCB rcSortL (sCons sVar sNil)) sName)
      (sSeq (sAsg (sCall (sCons sVar (sCons sVar sNil))) sName)
      (sSeq (sAsg (sLc (siL (sLst (sCons sVar (sCons sVar sNil)))) (gwName List.mem_cons_self) (fun _ _ _ => sName) (fun _ _ _ => sYes) (fun _ _ _ => (sLc (siL sVar) (gwName List.mem_cons_self) (fun _ _ _ => sName) (fun _ _ _ => sYes) (fun _ _ _ => (sCall (sCons sVar (sCons sVar (sCons sVar sNil)))))))) sName)
      (sSeq (sFor (siL (sLst (sCons sInt (sCons sInt (sCons sInt sNil))))) (fun _ _ _ => sName) (fun _ _ _ => (sIfS (sNot (sB (sCall (sCons (sOp roIxL sVar sVar) (sCons sVar (sCons sVar (sCons sVar (sCons (sOp roIxL sVar sVar) sNil)))))))) (sRet sBl) sNext)))
      (sSeq (sFor (siR1 sInt) (fun _ _ _ => sName) (fun _ _ _ => (sIfS (sNot (sB (sCall (sCons (sOp roIxL sVar sVar) (sCons (sCall (sCons sVar (sCons sVar (sCons (sOp roIxL sVar sVar) sNil)))) sNil))))) (sRet sBl) sNext)))
      (sSeq (sIfS (sNot (sB (sCall (sCons (sOp roIxL sVar sInt) (sCons (sOp roIxL sVar sInt) (sCons sVar (sCons sVar (sCons (sOp roIxL sVar sInt) (sCons (sOp roIxL sVar sInt) sNil))))))))) (sRet sBl) sNext)
      (sSeq (sIfS (sNot (sB (sCall (sCons sVar (sCons (sOp roIxL sVar sInt) (sCons sVar (sCons sVar sNil))))))) (sRet sBl) sNext)
      (sSeq (sIfS (sAnd (sTest (sOp roEq (sCall (sCons sVar (sCons sInt sNil))) sInt)) (sNot (sB (sCall (sCons sVar sNil))))) (sRet sBl) sNext)
      (sRet (sCall (sCons (sTup (sCons (sFldO (NS := NS_Query) (i := 0) T.cls_Query T.na_Query_term rfl (by decide) (sOp roIxL sVar sInt)) (sCons (sFldO (NS := NS_Query) (i := 0) T.cls_Query T.na_Query_term rfl (by decide) (sOp roIxL sVar sInt)) sNil))) (sCons (sTup (sCons sVar (sCons sVar sNil))) sNil)))))))))))))))))))))⟩) (fun ds μ Φ Ψ h => ?hv)
  case hv =>
    obtain ⟨ns, rfl, hlen, h⟩ := h
    refine seq_cut fun M hM => ?_
    walk_at "wp"
    refine ⟨ns, rfl, hlen, fun p c hp sc => ?_⟩
    have fin : ∀ c' : List D, ∃ μ2, DW.Sub μ2 (sset μ p (.lst c')) ∧ Φ (.bl true) μ2 := fun c' => ⟨μ, Sub.set Sub.refl hp, h⟩
    rw [hM]; clear hM M
    refine seq_cut fun M hM => ?_
    walk_at "wp"
    refine ⟨p, ns, c, rfl, sset_same, sc, fun ws c1 hw sc => ?_⟩
    rw [sset_sset, hM]; clear hM M
    refine seq_cut fun M hM => ?_
    have A1 : ∀ (ws : List Int) (c' : List D), WsOk ws → StC ns c' → M [some (.scr ns), some (.hd (.ref p)), some (.tup (ws.map .int)), none, none, none, none, none, none, none, none, none, none, none] (sset μ p (.lst c')) := fun ws c1 hw sc => by
      rw [hM]; clear hM M
      refine seq_cut fun M hM => ?_
      walk_at "wp"
      refine ⟨p, ns, c1, 4, rfl, sset_same, sc, by omega, log_small (n := 4) (by omega), fun y c2 y0 y1 sc => ?_⟩
      rw [sset_sset]
      walk_at "wp"
      refine ⟨by omega, p, ns, c2, 4, rfl, sset_same, sc, by omega, log_small (n := 4) (by omega), fun z c3 z0 z1 sc => ?_⟩
      rw [sset_sset]
      obtain ⟨oc, eo, o1, o4⟩ : ∃ oc : Nat, atI [D.int 2, D.int 2, D.int 3, D.int (1 + y)] z = some (D.int (oc : Int)) ∧ 1 ≤ oc ∧ oc ≤ 4 := by
        obtain ⟨z, rfl⟩ : ∃ m : Nat, z = (m : Int) := ⟨z.toNat, by omega⟩
        rcases (show z = 0 ∨ z = 1 ∨ z = 2 ∨ z = 3 by omega) with rfl | rfl | rfl | rfl
        · exact ⟨2, atI_nat (j := 0) rfl, by omega, by omega⟩
        · exact ⟨2, atI_nat (j := 1) rfl, by omega, by omega⟩
        · exact ⟨3, atI_nat (j := 2) rfl, by omega, by omega⟩
        · refine ⟨(1 + y).toNat, ?_, by omega, by omega⟩
          rw [show (((1 + y).toNat : Nat) : Int) = 1 + y by omega]
          exact atI_nat (j := 3) rfl
      walk_at "wp"
      refine ⟨_, eo, ?_⟩
      clear eo y0 y1 z0 z1 y z
      rw [hM]; clear hM M
      refine seq_cut fun M hM => ?_
      walk_at "wp"
      refine ⟨by omega, ?_⟩
      rw [hM]; clear hM M
      refine seq_cut fun M hM => ?_
      walk_at "wp"
      refine ⟨p, ns, c3, 5, rfl, sset_same, sc, by omega, log_small (n := 5) (by omega), fun y c4 y0 y1 sc => ?_⟩
      rw [sset_sset]
      walk_at "wp"
      refine ⟨by omega, p, ns, c4, 3, rfl, sset_same, sc, by omega, log_small (n := 3) (by omega), fun z c5 z0 z1 sc => ?_⟩
      rw [sset_sset]
      obtain ⟨m, em, m4, m64⟩ : ∃ m : Nat, atI [D.int 16, D.int 24, D.int 64] z = some (D.int (m : Int)) ∧ 4 ≤ m ∧ m ≤ 64 := by
        obtain ⟨z, rfl⟩ : ∃ m : Nat, z = (m : Int) := ⟨z.toNat, by omega⟩
        rcases (show z = 0 ∨ z = 1 ∨ z = 2 by omega) with rfl | rfl | rfl
        · exact ⟨16, atI_nat (j := 0) rfl, by omega, by omega⟩
        · exact ⟨24, atI_nat (j := 1) rfl, by omega, by omega⟩
        · exact ⟨64, atI_nat (j := 2) rfl, by omega, by omega⟩
      walk_at "wp"
      refine ⟨_, em, ?_⟩
      obtain ⟨n, en, n1, n5⟩ : ∃ n : Nat, 1 + y = (n : Int) ∧ 1 ≤ n ∧ n ≤ 5 := ⟨(1 + y).toNat, by omega, by omega, by omega⟩
      rw [en]
      refine ⟨p, ns, c5, ws, n, m, rfl, sset_same, sc, hw, by omega, m4, by omega, fun ps c6 nd lt hl hpr hne sc => ?_⟩
      rw [sset_sset]
      have hpr2 := hpr ps.length (Nat.le_refl _)
      rw [List.take_length] at hpr2
      have pne := hne n1
      have p64 : (hs ws ps).length ≤ 64 := by rw [← heads_hs, heads_len]; omega
      clear em m4 z0 z1 y0 y1 en hne
      rw [hM]; clear hM M
      refine seq_cut fun M hM => ?_
      walk_at "wp"
      refine ⟨p, ns, c6, ws, oc, ps, rfl, sset_same, sc, hw, o1, o4, pne, by omega, lt, p64, fun t1 c7 a1 a2 a3 a4 sc => ?_⟩
      rw [sset_sset, hM]; clear hM M
      refine seq_cut fun M hM => ?_
      walk_at "wp"
      refine ⟨p, ns, c7, ws, oc, ps, t1, rfl, sset_same, sc, hw, o1, o4, pne, by omega, lt, p64, a1, a2, fun t2 c8 b1 b2 b3 b4 sc => ?_⟩
      rw [sset_sset, hM]; clear hM M
      refine seq_cut fun M hM => ?_
      walk_at "wp"
      obtain ⟨qs, hq, hqs⟩ := sort_ex nd lt
      have ql : qs.length ≤ 5 := by rw [hq.length_eq]; omega
      have q64 : (hs ws qs).length ≤ 64 := by rw [hs_perm hq]; exact p64
      have qlt : ∀ q ∈ qs, q < 100 := fun q hq2 => lt q (hq.mem_iff.mp hq2)
      have F : ∀ t, QOk ws oc t → qDep t ≤ 8 → (∀ q ∈ qPl t, q ∈ ps) → (qPl t).length ≤ 300 → QFit ws oc qs t := fun t a b c d => (fit_of hw o1 o4 nd hq hqs (by omega) (by omega) a b (fun q hq2 => hq.mem_iff.mpr (c q hq2)) d).1
      have f1 := F t1 a1 a2 a3 a4
      have f2 := F t2 b1 b2 b3 b4
      refine fun x hx => ⟨x, ws, oc, qs, t1, rfl, sset_same, f1, rfl, NS_Query, _, sset_same, ?_⟩
      rw [sset_sset, sdel_sset hx]; clear hx x
      refine fun x hx => ⟨x, ws, oc, qs, t2, rfl, sset_same, f2, rfl, NS_Query, _, sset_same, by omega, ?_⟩
      rw [sset_sset, sdel_sset hx, hM]; clear hM M hx x
      refine seq_cut fun M hM => ?_
      walk_at "wp"
      refine sortN nd (by omega) fun qs' q1 q2 => ?_
      obtain rfl : qs' = qs := sort_uniq q2 hqs fun q => by rw [q1.mem_iff, hq.mem_iff]
      rw [hM]; clear hM M
      refine seq_cut fun M hM => ?_
      walk_at "wp"
      refine ⟨ws, qs', rfl, hw, by omega, fun i hi => ?_, ?_⟩
      · rw [hs_wpr] at q64
        rw [wpl_wpr]
        exact Nat.le_trans (wpr_sub hw (List.take_sublist i qs')) (by omega)
      rw [heads_hs, hM]; clear hM M
      refine seq_cut fun M hM => ?_
      walk_at "wp"
      have okt : ∀ t ∈ [t1, t2], QFit ws oc qs' t := fun t ht => by
        rcases List.mem_cons.mp ht with z | z
        · rw [z]; exact f1
        · rw [List.mem_singleton.mp z]; exact f2
      refine ⟨by omega, lcM (l := [t1, t2]) (G := qD) (fun t => .lst (nI ((hs ws qs').map (tl t qs')))) (by simp) (fun t μ2 X ht hsub hx => ?_) ?_⟩
      · walk_at "wp"
        refine lcM (l := hs ws qs') (G := fun l => .lst (nI l)) (fun c => .int ((tl t qs' c : Nat) : Int)) (by omega) (fun c μ3 X hc hsub hx => ?_) ?_
        · walk_at "wp"
          exact ⟨ws, oc, t, qs', c, rfl, hw, (okt t ht).ok, (okt t ht).dep, by omega, hc, hx⟩
        · rw [← nI_map]; exact hx
      rw [hM]; clear hM M
      have pick : ∀ k : Nat, k < 2 → ∃ t, QFit ws oc qs' t ∧ atI [qO T.c_Query t1 ws oc, qO T.c_Query t2 ws oc] (k : Int) = some (qO T.c_Query t ws oc) ∧ atI [D.lst (nI ((hs ws qs').map (tl t1 qs'))), .lst (nI ((hs ws qs').map (tl t2 qs')))] (k : Int) = some (.lst (nI ((hs ws qs').map (tl t qs')))) := fun k hk => by
        rcases (show k = 0 ∨ k = 1 by omega) with rfl | rfl
        · exact ⟨t1, f1, atI_nat (j := 0) rfl, atI_nat (j := 0) rfl⟩
        · exact ⟨t2, f2, atI_nat (j := 1) rfl, atI_nat (j := 1) rfl⟩
      have eD : [t1, t2].map (fun t => D.lst (nI ((hs ws qs').map (tl t qs')))) = [D.lst (nI ((hs ws qs').map (tl t1 qs'))), .lst (nI ((hs ws qs').map (tl t2 qs')))] := rfl
      rw [eD]
      have inp : ∀ t, QFit ws oc qs' t → ∀ q ∈ qPl (stl ws t), q ∈ qs' := fun t f q hq2 => f.pl q ((stl_of f).pl q hq2)
      refine seq_cut fun M hM => ?_
      walk_at "wp"
      refine ⟨by omega, fun i δ' μ' => ∃ (y11 y12 y13 : Option D), δ' = [some (.scr ns), some (.hd (.ref p)), some (.tup (ws.map .int)), some (.int (oc : Int)), some (.lst [.tup (ws.map .int), .int (oc : Int)]), some (.lst (nI qs')), some (qD t1), some (qD t2), some (.lst [qO T.c_Query t1 ws oc, qO T.c_Query t2 ws oc]), some (.lst (headsD (hs ws qs'))), some (.lst [.lst (nI ((hs ws qs').map (tl t1 qs'))), .lst (nI ((hs ws qs').map (tl t2 qs')))]), y11, y12, y13] ∧ μ' = sset μ p (.lst c8), ⟨_, _, _, rfl, rfl⟩, ?_, ?_⟩
      · rintro i d δ' μ' hi ⟨y11, y12, y13, rfl, rfl⟩
        obtain ⟨k, hk, rfl⟩ : ∃ k : Nat, k < 2 ∧ d = .int (k : Int) := by
          rcases i with _ | _ | _ | i
          · cases hi; exact ⟨0, by omega, rfl⟩
          · cases hi; exact ⟨1, by omega, rfl⟩
          · cases hi; exact ⟨0, by omega, rfl⟩
          · simp at hi
        obtain ⟨t, ft, eq1, eq2⟩ := pick k hk
        walk_at "wp"
        exact ⟨_, eq1, _, eq2, ws, oc, qs', qs', t, rfl, ft, hqs, by omega, inp t ft, qlt, by omega, true, rfl, nofun, fun _ => ⟨_, _, _, rfl, rfl⟩⟩
      · rintro δ' μ' ⟨y11, y12, y13, rfl, rfl⟩
        rw [hM]; clear hM M
        refine seq_cut fun M hM => ?_
        walk_at "wp"
        refine ⟨by omega, by omega, fun i δ' μ' => ∃ (y11 y12 y13 : Option D), δ' = [some (.scr ns), some (.hd (.ref p)), some (.tup (ws.map .int)), some (.int (oc : Int)), some (.lst [.tup (ws.map .int), .int (oc : Int)]), some (.lst (nI qs')), some (qD t1), some (qD t2), some (.lst [qO T.c_Query t1 ws oc, qO T.c_Query t2 ws oc]), some (.lst (headsD (hs ws qs'))), some (.lst [.lst (nI ((hs ws qs').map (tl t1 qs'))), .lst (nI ((hs ws qs').map (tl t2 qs')))]), y11, y12, y13] ∧ μ' = sset μ p (.lst c8), ⟨_, _, _, rfl, rfl⟩, ?_, ?_⟩
        · rintro i d δ' μ' hi ⟨y11, y12, y13, rfl, rfl⟩
          obtain ⟨hj, rfl⟩ := rngD_get hi
          have hj : i < 2 := hj
          obtain ⟨t, ft, eq1, eq2⟩ := pick i hj
          walk_at "wp"
          refine ⟨_, eq1, _, eq2, ws, qs', _, rfl, hw, by omega, by simp, by simp; omega, ws, oc, qs', _, t, rfl, ft, ?_, ?_, true, rfl, nofun, fun _ => ⟨_, _, _, rfl, rfl⟩⟩
          · rw [ndl_ns ft rfl qs' [] rfl]
            exact hqs.sublist List.filter_sublist
          · intro q
            rw [ndl_ns ft rfl qs' [] rfl, List.mem_filter, decide_eq_true_iff]
            exact ⟨fun z => z.2, fun z => ⟨inp t ft q z, z⟩⟩
        · rintro δ' μ' ⟨y11, y12, y13, rfl, rfl⟩
          rw [hM]; clear hM M
          refine seq_cut fun M hM => ?_
          walk_at "wp"
          refine ⟨ws, oc, qs', qs', qs', t1, t2, rfl, f1, f2, hqs, by omega, qlt, by omega, inp t1 f1, inp t2 f2, true, rfl, nofun, fun _ => ?_⟩
          rw [hM]; clear hM M
          refine seq_cut fun M hM => ?_
          walk_at "wp"
          refine ⟨p, ns, c8, ws, oc, qs', t1, rfl, sset_same, sc, f1, fun c9 sc => ⟨true, rfl, nofun, fun _ => ?_⟩⟩
          rw [sset_sset, hM]; clear hM M
          refine seq_cut fun M hM => ?_
          have lst : ∀ c9, StC ns c9 → M [some (.scr ns), some (.hd (.ref p)), some (.tup (ws.map .int)), some (.int (oc : Int)), some (.lst [.tup (ws.map .int), .int (oc : Int)]), some (.lst (nI qs')), some (qD t1), some (qD t2), some (.lst [qO T.c_Query t1 ws oc, qO T.c_Query t2 ws oc]), some (.lst (headsD (hs ws qs'))), some (.lst [.lst (nI ((hs ws qs').map (tl t1 qs'))), .lst (nI ((hs ws qs').map (tl t2 qs')))]), y11, y12, y13] (sset μ p (.lst c9)) := fun c9 sc => by
            rw [hM]; clear hM M
            walk_at "wps"
            refine ⟨_, _, rfl, rfl, _, _, rfl, rfl, by omega, by omega, ?_⟩
            have d1 := f1.dep
            have d2 := f2.dep
            have p1 := (pln_q hw t1 f1.ok).up (show qDep t1 + 2 ≤ 10 by omega)
            have p2 := (pln_q hw t2 f2.ok).up (show qDep t2 + 2 ≤ 10 by omega)
            refine same_self ((Pln.tup (n := 10) (by simp) fun d hd => ?_).up (by omega)) (fin c9)
            rcases List.mem_cons.mp hd with z | z
            · rw [z]; exact p1
            · rw [List.mem_singleton.mp z]; exact p2
          walk_at "wp"
          refine ⟨p, ns, c9, 4, rfl, sset_same, sc, by omega, log_small (n := 4) (by omega), fun y c10 y0 y1 sc => ?_⟩
          rw [sset_sset]
          walk_at "wp"
          refine ⟨fun _ => ⟨p, ns, c10, rfl, sset_same, sc, fun c11 sc => ⟨true, rfl, nofun, fun _ => ?_⟩⟩, fun _ => lst c10 sc⟩
          rw [sset_sset]
          exact lst c11 sc
    walk_at "wp"
    refine w_maxT ⟨fun z => ?_, fun m hm hmax => ?_⟩
    · have := hw.l0
      rw [z] at this
      simp at this
    walk_at "wp"
    refine ⟨fun _ => ⟨p, ns, c1, 4, rfl, sset_same, sc, by omega, log_small (n := 4) (by omega), fun y c2 y0 y1 sc => ?_⟩, fun _ => A1 ws c1 hw sc⟩
    rw [sset_sset]
    walk_at "wp"
    refine ⟨fun _ => ⟨p, ns, c2, 3, rfl, sset_same, sc, by omega, log_small (n := 3) (by omega), fun z c3 z0 z1 sc => ?_⟩, fun _ => A1 ws c2 hw sc⟩
    rw [sset_sset]
    have e5 : DW.cutD (ws.map D.int) none (some 5) ++ [D.int (2 + z)] = (ws.take 5 ++ [2 + z]).map D.int := by
      rw [show (5 : Int) = ((5 : Nat) : Int) from rfl, cut_to, List.map_append, List.map_take]
      rfl
    walk_at "wp"
    refine ⟨by omega, by rw [show (5 : Int) = ((5 : Nat) : Int) from rfl, cut_to, List.length_take, List.length_map]; omega, ?_⟩
    rw [e5]
    refine A1 _ c3 ⟨by simp, by rw [List.length_append, List.length_take]; simp; omega, fun x hx => ?_⟩ sc
    rcases List.mem_append.mp hx with w | w
    · exact hw.w x (List.mem_of_mem_take w)
    · rw [List.mem_singleton.mp w]; omega
end
end LW
set_option Elab.async false
set_option linter.all false
set_option maxRecDepth 100000
set_option maxHeartbeats 4000000
namespace LW
open PySem PySem.Spec L2 DW PyProof.Rows NdefX HX
theorem kit_refS {K : PySem.W.Frag} {R C : Addr} {b : Bool} (h0 : PySem.W.subIn K (.ref R) (.ref R) = some true) (h1 : PySem.W.isClsIn K C = true) (h2 : PySem.W.typeIn K (.ref C) = some (.type "type")) (h3 : PySem.W.subIn K (.ref R) (.ref C) = some b) : PySem.W.kitOne K (.ref R) (.ref C) = some b := by
  unfold PySem.W.kitOne
  by_cases e : R = C
  · subst e
    rw [h0] at h3
    rw [if_pos (by simp)]
    exact h3
  · rw [if_neg (by simp [e])]
    have h1' : (PySem.W.clsIn K C).isSome = true := h1
    show (if ((PySem.W.clsIn K C).isSome && PySem.W.typeIn K (.ref C) == some (.type "type")) = true then PySem.W.subIn K (.ref R) (.ref C) else none) = some b
    rw [if_pos (by rw [h1', h2] <;> rfl)]
    exact h3
theorem kit_tyS {K : PySem.W.Frag} {R : Addr} {T : String} {b : Bool} (h1 : PySem.W.kitMeta T = true) (h3 : PySem.W.subIn K (.ref R) (.type T) = some b) : PySem.W.kitOne K (.ref R) (.type T) = some b := by
  unfold PySem.W.kitOne
  rw [if_neg (by simp)]
  show (if PySem.W.kitMeta T = true then PySem.W.subIn K (.ref R) (.type T) else none) = some b
  rw [if_pos h1]
  exact h3
theorem sci_InvalidTerm : NScope ["self", "path", "__class__"] ["self", "path"] ["__class__"] (defScope si_InvalidTerm) := nscope_by (by decide +kernel)
theorem okinit_InvalidTerm {CX : CXT} {P : Program} {w : World} {K : Fg} {mg : Str → Option Value} {base : Heap} {f C D cc cda : Addr} {file : Str} {kV doc pm ct oc : Value} {an od : Option Addr} {osl : Array (Option Value)}
    (lk : K.lookup f = some ⟨oc, od, .func (PySem.W.ksFn "__init__" "InvalidTerm.__init__" (defArgs si_InvalidTerm) (defBody si_InvalidTerm) (defScope si_InvalidTerm) .none kV doc pm an (.ref cda) ct cc), osl⟩)
    (hcd : PySem.W.codeIn K (.ref cda) "InvalidTerm.__init__" = true) (T : SupC K C D cc f cda file) (hfile : ((P.main.file : Str) == file) = true) (htop : (P.main.scope.names.lookup ("super" : Str)).isSome = false) (hms : mg "super" = none) :
    FnOk P w K mg base CX 1 f (PySem.W.ksFn "__init__" "InvalidTerm.__init__" (defArgs si_InvalidTerm) (defBody si_InvalidTerm) (defScope si_InvalidTerm) .none kV doc pm an (.ref cda) ct cc) ["self", "path"] (spInit K C "path" (okPath K)) :=
  sup_fn (k := 0) lk hcd sci_InvalidTerm T rfl rfl hfile htop hms rfl (by decide) fun X hP hw hK hN hsc hL hr => by
    obtain ⟨L, hL⟩ := hL
    have v0 : ∀ p, PE X (.Name "self" p) (tVar 0) := fun p => pv 0 (hN := by rw [hN]; rfl) (hv := .inl (by rw [hsc]; rfl))
    have v1 : ∀ p, PE X (.Name "path" p) (tVar 1) := fun p => pv 1 (hN := by rw [hN]; rfl) (hv := .inl (by rw [hsc]; rfl))
    subst hK
    exact ⟨msg_path hr (by decide) (by decide) (v1 _), by rw [hL]; rfl, by rw [hL]; rfl, by rw [hL]; rfl, by rw [hL]; rfl, ⟨_, by rw [hL]; rfl⟩, by rw [hL]; rfl, v0 _, v1 _⟩
open PyProof.Rows in
theorem all_mk {P : Program} {w : World} {K : PySem.W.Frag} {h : Heap} {mg : Str → Option Value} {fa c_OutOfRange c_TooLarge c_InvalidQuery c_SizeMismatch c_InvalidTerm c_ChoosersError c_Query c_Row fi_InvalidQuery f0 f1 f2 f3 f4 f5 f6 f7 f8 f9 f10 f11 f12 f13 f14 f15 f16 f17 dA17 f18 f19 f20 f21 f22 f23 f24 f25 f26 f27 f28 f29 f30 f31 f32 f33 f34 f35 f36 f37 f38 f39 f40 f41 f42 f43 f44 f45 f46 f47 f48 f49 f50 f51 f52 f53 f54 f55 f56 f57 f58 f59 f60 : Addr} (X : K.In h) (G : h.Ns mainGlobals mg) (hfa : mg "law" = some (.ref fa)) (hP : ((P.main.file : Str) == fileP) = true) (htop_ : (P.main.scope.names.lookup ("super" : Str)).isSome = false)
    (FI0 : fnI K f0 = vI "is_number" "is_number" s_is_number [])
    (FI1 : fnI K f1 = vI "is_below" "is_below" s_is_below [])
    (FI2 : fnI K f2 = vI "count_choices" "count_choices" s_count_choices [])
    (FI3 : fnI K f3 = vI "has_outcomes" "has_outcomes" s_has_outcomes [])
    (FI4 : fnI K f4 = vI "width_at" "width_at" s_width_at [])
    (FI5 : fnI K f5 = vI "terms_behind" "terms_behind" s_terms_behind [])
    (FI6 : fnI K f6 = vI "are_widths" "are_widths" s_are_widths [])
    (FI7 : fnI K f7 = vI "require_form" "require_form" s_require_form [])
    (FI8 : fnI K f8 = vI "has_query_form" "has_query_form" s_has_query_form [])
    (FI9 : fnI K f9 = vI "wrong_query" "wrong_query" s_wrong_query [])
    (FI10 : fnI K f10 = vI "places_of" "places_of" s_places_of [])
    (FI11 : fnI K f11 = vI "require_few" "require_few" s_require_few [])
    (FI12 : fnI K f12 = vI "fixed_term" "fixed_term" s_fixed_term [])
    (FI13 : fnI K f13 = vI "__init__" "Query.__init__" s_Query___init__ [])
    (FI14 : fnI K f14 = vI "shortest_cycle" "shortest_cycle" s_shortest_cycle [])
    (FI15 : fnI K f15 = vI "turned_cycle" "turned_cycle" s_turned_cycle [])
    (FI16 : fnI K f16 = vI "count_spare" "count_spare" s_count_spare [])
    (FI17 : fnI K f17 = vI "__init__" "Row.__init__" s_Row___init__ [])
    (FI18 : fnI K f18 = vI "least" "Row.least" s_Row_least [])
    (FI19 : fnI K f19 = vI "settled_part" "settled_part" s_settled_part [])
    (FI20 : fnI K f20 = vI "settled_term" "settled_term" s_settled_term [])
    (FI21 : fnI K f21 = vI "term_reach" "term_reach" s_term_reach [])
    (FI22 : fnI K f22 = vI "query_reach" "query_reach" s_query_reach [])
    (FI23 : fnI K f23 = vI "require_outcome" "require_outcome" s_require_outcome [])
    (FI24 : fnI K f24 = vI "require_same_widths" "require_same_widths" s_require_same_widths [])
    (FI25 : fnI K f25 = vI "require_same_outcomes" "require_same_outcomes" s_require_same_outcomes [])
    (FI26 : fnI K f26 = vI "ascending" "ascending" s_ascending [])
    (FI27 : fnI K f27 = vI "part_behind" "part_behind" s_part_behind [])
    (FI28 : fnI K f28 = vI "needed_places" "needed_places" s_needed_places [])
    (FI29 : fnI K f29 = vI "path_to" "path_to" s_path_to [])
    (FI30 : fnI K f30 = vI "first_row" "first_row" s_first_row [])
    (FI31 : fnI K f31 = vI "least_row" "least_row" s_least_row [])
    (FI32 : fnI K f32 = vI "parting_path" "parting_path" s_parting_path [])
    (FI33 : fnI K f33 = vI "parting_row" "parting_row" s_parting_row [])
    (FI34 : fnI K f34 = vI "_law_start" "_law_start" s__law_start [])
    (FI35 : fnI K f35 = vI "_law_pick" "_law_pick" s__law_pick [])
    (FI36 : fnI K f36 = vI "_law_same" "_law_same" s__law_same [])
    (FI37 : fnI K f37 = vI "_law_width" "_law_width" s__law_width [])
    (FI38 : fnI K f38 = vI "_law_widths" "_law_widths" s__law_widths [])
    (FI39 : fnI K f39 = vI "_law_look_places" "_law_look_places" s__law_look_places [])
    (FI40 : fnI K f40 = vI "_law_query_term" "_law_query_term" s__law_query_term [])
    (FI41 : fnI K f41 = vI "_law_shuffled" "_law_shuffled" s__law_shuffled [])
    (FI42 : fnI K f42 = vI "_law_full_query" "_law_full_query" s__law_full_query [])
    (FI43 : fnI K f43 = vI "_law_longer" "_law_longer" s__law_longer [])
    (FI44 : fnI K f44 = vI "_law_heads" "_law_heads" s__law_heads [])
    (FI45 : fnI K f45 = vI "_law_tell" "_law_tell" s__law_tell [])
    (FI46 : fnI K f46 = vI "_law_retold" "_law_retold" s__law_retold [])
    (FI47 : fnI K f47 = vI "_law_changed_tell" "_law_changed_tell" s__law_changed_tell [])
    (FI48 : fnI K f48 = vI "_law_first_term" "_law_first_term" s__law_first_term [])
    (FI49 : fnI K f49 = vI "_law_second_term" "_law_second_term" s__law_second_term [])
    (FI50 : fnI K f50 = vI "_law_entries" "_law_entries" s__law_entries [])
    (FI51 : fnI K f51 = vI "_law_is_row" "_law_is_row" s__law_is_row [])
    (FI52 : fnI K f52 = vI "_law_needed" "_law_needed" s__law_needed [])
    (FI53 : fnI K f53 = vI "_law_needs" "_law_needs" s__law_needs [])
    (FI54 : fnI K f54 = vI "_law_least_rows" "_law_least_rows" s__law_least_rows [])
    (FI55 : fnI K f55 = vI "_law_parts" "_law_parts" s__law_parts [])
    (FI56 : fnI K f56 = vI "_law_ask" "_law_ask" s__law_ask [])
    (FI57 : fnI K f57 = vI "_law_refused" "_law_refused" s__law_refused [])
    (FI58 : fnI K f58 = vI "_law_refuses" "_law_refuses" s__law_refuses [])
    (FI59 : fnI K f59 = vI "_law_far_apart" "_law_far_apart" s__law_far_apart [])
    (FI60 : fnI K f60 = vI "law" "law" s_law [])
    (I_InvalidQuery : fnI K fi_InvalidQuery = vI "__init__" "InvalidTerm.__init__" si_InvalidTerm ["__class__"])
    (h0_ : ck0 K c_Query c_Row f0 f1 f2 f3 f4 f5 f6 f7 = true)
    (h1_ : ck1 K c_Query f7 f8 f9 f10 f11 f12 f13 f14 f15 = true)
    (h2_ : ck2 K c_Row f15 f16 f17 dA17 f18 f19 f20 f21 f22 = true)
    (h3_ : ck3 K f23 f24 f25 f26 f27 f28 f29 f30 f31 = true)
    (h4_ : ck4 K f31 f32 f33 f34 f35 f36 f37 f38 f39 = true)
    (h5_ : ck5 K f39 f40 f41 f42 f43 f44 f45 f46 f47 = true)
    (h6_ : ck6 K f48 f49 f50 f51 f52 f53 f54 f55 f56 = true)
    (h7_ : ck7 K f56 f57 f58 f59 f60 = true)
    (h8_ : ck8 K c_OutOfRange c_TooLarge c_InvalidQuery c_SizeMismatch c_InvalidTerm c_ChoosersError = true)
    (h9_ : ck9 K c_OutOfRange c_TooLarge c_SizeMismatch c_InvalidTerm c_ChoosersError = true)
    (h10_ : ck10 K c_OutOfRange c_TooLarge c_InvalidQuery c_SizeMismatch c_InvalidTerm c_ChoosersError = true)
    (h11_ : ck11 K c_OutOfRange c_TooLarge c_InvalidQuery c_SizeMismatch c_InvalidTerm c_ChoosersError fi_InvalidQuery = true)
    (h12_ : ck12 K c_InvalidTerm c_ChoosersError c_Query c_Row = true)
    (h13_ : ck13 K c_Row = true)
    : ∃ fd : FuncData, (∀ (s : Shared) (v : Value), BindsTo s fd ⟨[v], []⟩ [("_law_script", v)]) ∧ ∀ base : Heap, K.In base → base.Ns mainGlobals mg → FnOk P w K mg base (L2N.CX P w) 70 fa fd ["_law_script"] (spOf K c_law) := by
  obtain ⟨g_Query, h0_⟩ := He.ba h0_
  have g_Query := He.eqO_ok g_Query
  obtain ⟨g_Row, h0_⟩ := He.ba h0_
  have g_Row := He.eqO_ok g_Row
  obtain ⟨a0, h0_⟩ := He.ba h0_
  have a0 := He.eqO_ok a0
  obtain ⟨c0, h0_⟩ := He.ba h0_
  obtain ⟨k0, h0_⟩ := He.ba h0_
  obtain ⟨a1, h0_⟩ := He.ba h0_
  have a1 := He.eqO_ok a1
  obtain ⟨c1, h0_⟩ := He.ba h0_
  obtain ⟨k1, h0_⟩ := He.ba h0_
  obtain ⟨a2, h0_⟩ := He.ba h0_
  have a2 := He.eqO_ok a2
  obtain ⟨c2, h0_⟩ := He.ba h0_
  obtain ⟨k2, h0_⟩ := He.ba h0_
  obtain ⟨a3, h0_⟩ := He.ba h0_
  have a3 := He.eqO_ok a3
  obtain ⟨c3, h0_⟩ := He.ba h0_
  obtain ⟨k3, h0_⟩ := He.ba h0_
  obtain ⟨a4, h0_⟩ := He.ba h0_
  have a4 := He.eqO_ok a4
  obtain ⟨c4, h0_⟩ := He.ba h0_
  obtain ⟨k4, h0_⟩ := He.ba h0_
  obtain ⟨a5, h0_⟩ := He.ba h0_
  have a5 := He.eqO_ok a5
  obtain ⟨c5, h0_⟩ := He.ba h0_
  obtain ⟨k5, h0_⟩ := He.ba h0_
  obtain ⟨a6, h0_⟩ := He.ba h0_
  have a6 := He.eqO_ok a6
  obtain ⟨c6, h0_⟩ := He.ba h0_
  obtain ⟨k6, h0_⟩ := He.ba h0_
  obtain ⟨a7, h0_⟩ := He.ba h0_
  have a7 := He.eqO_ok a7
  have c7 := h0_
  obtain ⟨k7, h1_⟩ := He.ba h1_
  obtain ⟨a8, h1_⟩ := He.ba h1_
  have a8 := He.eqO_ok a8
  obtain ⟨c8, h1_⟩ := He.ba h1_
  obtain ⟨k8, h1_⟩ := He.ba h1_
  obtain ⟨a9, h1_⟩ := He.ba h1_
  have a9 := He.eqO_ok a9
  obtain ⟨c9, h1_⟩ := He.ba h1_
  obtain ⟨k9, h1_⟩ := He.ba h1_
  obtain ⟨a10, h1_⟩ := He.ba h1_
  have a10 := He.eqO_ok a10
  obtain ⟨c10, h1_⟩ := He.ba h1_
  obtain ⟨k10, h1_⟩ := He.ba h1_
  obtain ⟨a11, h1_⟩ := He.ba h1_
  have a11 := He.eqO_ok a11
  obtain ⟨c11, h1_⟩ := He.ba h1_
  obtain ⟨k11, h1_⟩ := He.ba h1_
  obtain ⟨a12, h1_⟩ := He.ba h1_
  have a12 := He.eqO_ok a12
  obtain ⟨c12, h1_⟩ := He.ba h1_
  obtain ⟨k12, h1_⟩ := He.ba h1_
  obtain ⟨a13, h1_⟩ := He.ba h1_
  have a13 := He.eqO_ok a13
  obtain ⟨i13, h1_⟩ := He.ba h1_
  obtain ⟨c13, h1_⟩ := He.ba h1_
  obtain ⟨k13, h1_⟩ := He.ba h1_
  obtain ⟨a14, h1_⟩ := He.ba h1_
  have a14 := He.eqO_ok a14
  obtain ⟨c14, h1_⟩ := He.ba h1_
  obtain ⟨k14, h1_⟩ := He.ba h1_
  obtain ⟨a15, h1_⟩ := He.ba h1_
  have a15 := He.eqO_ok a15
  have c15 := h1_
  obtain ⟨k15, h2_⟩ := He.ba h2_
  obtain ⟨a16, h2_⟩ := He.ba h2_
  have a16 := He.eqO_ok a16
  obtain ⟨c16, h2_⟩ := He.ba h2_
  obtain ⟨k16, h2_⟩ := He.ba h2_
  obtain ⟨a17, h2_⟩ := He.ba h2_
  have a17 := He.eqO_ok a17
  obtain ⟨i17, h2_⟩ := He.ba h2_
  obtain ⟨c17, h2_⟩ := He.ba h2_
  obtain ⟨dt17, h2_⟩ := He.ba h2_
  have dt17 := tupB_ok dt17
  obtain ⟨k17, h2_⟩ := He.ba h2_
  obtain ⟨a18, h2_⟩ := He.ba h2_
  have a18 := He.eqO_ok a18
  obtain ⟨i18, h2_⟩ := He.ba h2_
  obtain ⟨c18, h2_⟩ := He.ba h2_
  obtain ⟨k18, h2_⟩ := He.ba h2_
  obtain ⟨a19, h2_⟩ := He.ba h2_
  have a19 := He.eqO_ok a19
  obtain ⟨c19, h2_⟩ := He.ba h2_
  obtain ⟨k19, h2_⟩ := He.ba h2_
  obtain ⟨a20, h2_⟩ := He.ba h2_
  have a20 := He.eqO_ok a20
  obtain ⟨c20, h2_⟩ := He.ba h2_
  obtain ⟨k20, h2_⟩ := He.ba h2_
  obtain ⟨a21, h2_⟩ := He.ba h2_
  have a21 := He.eqO_ok a21
  obtain ⟨c21, h2_⟩ := He.ba h2_
  obtain ⟨k21, h2_⟩ := He.ba h2_
  obtain ⟨a22, h2_⟩ := He.ba h2_
  have a22 := He.eqO_ok a22
  obtain ⟨c22, h2_⟩ := He.ba h2_
  have k22 := h2_
  obtain ⟨a23, h3_⟩ := He.ba h3_
  have a23 := He.eqO_ok a23
  obtain ⟨c23, h3_⟩ := He.ba h3_
  obtain ⟨k23, h3_⟩ := He.ba h3_
  obtain ⟨a24, h3_⟩ := He.ba h3_
  have a24 := He.eqO_ok a24
  obtain ⟨c24, h3_⟩ := He.ba h3_
  obtain ⟨k24, h3_⟩ := He.ba h3_
  obtain ⟨a25, h3_⟩ := He.ba h3_
  have a25 := He.eqO_ok a25
  obtain ⟨c25, h3_⟩ := He.ba h3_
  obtain ⟨k25, h3_⟩ := He.ba h3_
  obtain ⟨a26, h3_⟩ := He.ba h3_
  have a26 := He.eqO_ok a26
  obtain ⟨c26, h3_⟩ := He.ba h3_
  obtain ⟨k26, h3_⟩ := He.ba h3_
  obtain ⟨a27, h3_⟩ := He.ba h3_
  have a27 := He.eqO_ok a27
  obtain ⟨c27, h3_⟩ := He.ba h3_
  obtain ⟨k27, h3_⟩ := He.ba h3_
  obtain ⟨a28, h3_⟩ := He.ba h3_
  have a28 := He.eqO_ok a28
  obtain ⟨c28, h3_⟩ := He.ba h3_
  obtain ⟨k28, h3_⟩ := He.ba h3_
  obtain ⟨a29, h3_⟩ := He.ba h3_
  have a29 := He.eqO_ok a29
  obtain ⟨c29, h3_⟩ := He.ba h3_
  obtain ⟨k29, h3_⟩ := He.ba h3_
  obtain ⟨a30, h3_⟩ := He.ba h3_
  have a30 := He.eqO_ok a30
  obtain ⟨c30, h3_⟩ := He.ba h3_
  obtain ⟨k30, h3_⟩ := He.ba h3_
  have a31 := h3_
  have a31 := He.eqO_ok a31
  obtain ⟨c31, h4_⟩ := He.ba h4_
  obtain ⟨k31, h4_⟩ := He.ba h4_
  obtain ⟨a32, h4_⟩ := He.ba h4_
  have a32 := He.eqO_ok a32
  obtain ⟨c32, h4_⟩ := He.ba h4_
  obtain ⟨k32, h4_⟩ := He.ba h4_
  obtain ⟨a33, h4_⟩ := He.ba h4_
  have a33 := He.eqO_ok a33
  obtain ⟨c33, h4_⟩ := He.ba h4_
  obtain ⟨k33, h4_⟩ := He.ba h4_
  obtain ⟨a34, h4_⟩ := He.ba h4_
  have a34 := He.eqO_ok a34
  obtain ⟨c34, h4_⟩ := He.ba h4_
  obtain ⟨k34, h4_⟩ := He.ba h4_
  obtain ⟨a35, h4_⟩ := He.ba h4_
  have a35 := He.eqO_ok a35
  obtain ⟨c35, h4_⟩ := He.ba h4_
  obtain ⟨k35, h4_⟩ := He.ba h4_
  obtain ⟨a36, h4_⟩ := He.ba h4_
  have a36 := He.eqO_ok a36
  obtain ⟨c36, h4_⟩ := He.ba h4_
  obtain ⟨k36, h4_⟩ := He.ba h4_
  obtain ⟨a37, h4_⟩ := He.ba h4_
  have a37 := He.eqO_ok a37
  obtain ⟨c37, h4_⟩ := He.ba h4_
  obtain ⟨k37, h4_⟩ := He.ba h4_
  obtain ⟨a38, h4_⟩ := He.ba h4_
  have a38 := He.eqO_ok a38
  obtain ⟨c38, h4_⟩ := He.ba h4_
  obtain ⟨k38, h4_⟩ := He.ba h4_
  obtain ⟨a39, h4_⟩ := He.ba h4_
  have a39 := He.eqO_ok a39
  have c39 := h4_
  obtain ⟨k39, h5_⟩ := He.ba h5_
  obtain ⟨a40, h5_⟩ := He.ba h5_
  have a40 := He.eqO_ok a40
  obtain ⟨c40, h5_⟩ := He.ba h5_
  obtain ⟨k40, h5_⟩ := He.ba h5_
  obtain ⟨a41, h5_⟩ := He.ba h5_
  have a41 := He.eqO_ok a41
  obtain ⟨c41, h5_⟩ := He.ba h5_
  obtain ⟨k41, h5_⟩ := He.ba h5_
  obtain ⟨a42, h5_⟩ := He.ba h5_
  have a42 := He.eqO_ok a42
  obtain ⟨c42, h5_⟩ := He.ba h5_
  obtain ⟨k42, h5_⟩ := He.ba h5_
  obtain ⟨a43, h5_⟩ := He.ba h5_
  have a43 := He.eqO_ok a43
  obtain ⟨c43, h5_⟩ := He.ba h5_
  obtain ⟨k43, h5_⟩ := He.ba h5_
  obtain ⟨a44, h5_⟩ := He.ba h5_
  have a44 := He.eqO_ok a44
  obtain ⟨c44, h5_⟩ := He.ba h5_
  obtain ⟨k44, h5_⟩ := He.ba h5_
  obtain ⟨a45, h5_⟩ := He.ba h5_
  have a45 := He.eqO_ok a45
  obtain ⟨c45, h5_⟩ := He.ba h5_
  obtain ⟨k45, h5_⟩ := He.ba h5_
  obtain ⟨a46, h5_⟩ := He.ba h5_
  have a46 := He.eqO_ok a46
  obtain ⟨c46, h5_⟩ := He.ba h5_
  obtain ⟨k46, h5_⟩ := He.ba h5_
  obtain ⟨a47, h5_⟩ := He.ba h5_
  have a47 := He.eqO_ok a47
  obtain ⟨c47, h5_⟩ := He.ba h5_
  have k47 := h5_
  obtain ⟨a48, h6_⟩ := He.ba h6_
  have a48 := He.eqO_ok a48
  obtain ⟨c48, h6_⟩ := He.ba h6_
  obtain ⟨k48, h6_⟩ := He.ba h6_
  obtain ⟨a49, h6_⟩ := He.ba h6_
  have a49 := He.eqO_ok a49
  obtain ⟨c49, h6_⟩ := He.ba h6_
  obtain ⟨k49, h6_⟩ := He.ba h6_
  obtain ⟨a50, h6_⟩ := He.ba h6_
  have a50 := He.eqO_ok a50
  obtain ⟨c50, h6_⟩ := He.ba h6_
  obtain ⟨k50, h6_⟩ := He.ba h6_
  obtain ⟨a51, h6_⟩ := He.ba h6_
  have a51 := He.eqO_ok a51
  obtain ⟨c51, h6_⟩ := He.ba h6_
  obtain ⟨k51, h6_⟩ := He.ba h6_
  obtain ⟨a52, h6_⟩ := He.ba h6_
  have a52 := He.eqO_ok a52
  obtain ⟨c52, h6_⟩ := He.ba h6_
  obtain ⟨k52, h6_⟩ := He.ba h6_
  obtain ⟨a53, h6_⟩ := He.ba h6_
  have a53 := He.eqO_ok a53
  obtain ⟨c53, h6_⟩ := He.ba h6_
  obtain ⟨k53, h6_⟩ := He.ba h6_
  obtain ⟨a54, h6_⟩ := He.ba h6_
  have a54 := He.eqO_ok a54
  obtain ⟨c54, h6_⟩ := He.ba h6_
  obtain ⟨k54, h6_⟩ := He.ba h6_
  obtain ⟨a55, h6_⟩ := He.ba h6_
  have a55 := He.eqO_ok a55
  obtain ⟨c55, h6_⟩ := He.ba h6_
  obtain ⟨k55, h6_⟩ := He.ba h6_
  have a56 := h6_
  have a56 := He.eqO_ok a56
  obtain ⟨c56, h7_⟩ := He.ba h7_
  obtain ⟨k56, h7_⟩ := He.ba h7_
  obtain ⟨a57, h7_⟩ := He.ba h7_
  have a57 := He.eqO_ok a57
  obtain ⟨c57, h7_⟩ := He.ba h7_
  obtain ⟨k57, h7_⟩ := He.ba h7_
  obtain ⟨a58, h7_⟩ := He.ba h7_
  have a58 := He.eqO_ok a58
  obtain ⟨c58, h7_⟩ := He.ba h7_
  obtain ⟨k58, h7_⟩ := He.ba h7_
  obtain ⟨a59, h7_⟩ := He.ba h7_
  have a59 := He.eqO_ok a59
  obtain ⟨c59, h7_⟩ := He.ba h7_
  obtain ⟨k59, h7_⟩ := He.ba h7_
  obtain ⟨a60, h7_⟩ := He.ba h7_
  have a60 := He.eqO_ok a60
  obtain ⟨c60, h7_⟩ := He.ba h7_
  obtain ⟨k60, h7_⟩ := He.ba h7_
  obtain ⟨z_isinstance, h7_⟩ := He.ba h7_
  have z_isinstance := He.eqO_ok z_isinstance
  obtain ⟨z_int, h7_⟩ := He.ba h7_
  have z_int := He.eqO_ok z_int
  obtain ⟨z_bool, h7_⟩ := He.ba h7_
  have z_bool := He.eqO_ok z_bool
  obtain ⟨z_all, h7_⟩ := He.ba h7_
  have z_all := He.eqO_ok z_all
  obtain ⟨z_str, h7_⟩ := He.ba h7_
  have z_str := He.eqO_ok z_str
  obtain ⟨z_len, h7_⟩ := He.ba h7_
  have z_len := He.eqO_ok z_len
  obtain ⟨z_enumerate, h7_⟩ := He.ba h7_
  have z_enumerate := He.eqO_ok z_enumerate
  obtain ⟨z_tuple, h7_⟩ := He.ba h7_
  have z_tuple := He.eqO_ok z_tuple
  obtain ⟨z_sorted, h7_⟩ := He.ba h7_
  have z_sorted := He.eqO_ok z_sorted
  obtain ⟨z_set, h7_⟩ := He.ba h7_
  have z_set := He.eqO_ok z_set
  have z_min := h7_
  have z_min := He.eqO_ok z_min
  obtain ⟨z_range, h8_⟩ := He.ba h8_
  have z_range := He.eqO_ok z_range
  obtain ⟨z_max, h8_⟩ := He.ba h8_
  have z_max := He.eqO_ok z_max
  obtain ⟨z_list, h8_⟩ := He.ba h8_
  have z_list := He.eqO_ok z_list
  obtain ⟨z_any, h8_⟩ := He.ba h8_
  have z_any := He.eqO_ok z_any
  obtain ⟨z_ValueError, h8_⟩ := He.ba h8_
  have z_ValueError := He.eqO_ok z_ValueError
  obtain ⟨gc_LETTERS, h8_⟩ := He.ba h8_
  obtain ⟨_, gc_LETTERS⟩ := strB_ok gc_LETTERS
  obtain ⟨gc_DIGITS, h8_⟩ := He.ba h8_
  obtain ⟨_, gc_DIGITS⟩ := strB_ok gc_DIGITS
  obtain ⟨gc_LONGEST_WORD, h8_⟩ := He.ba h8_
  obtain ⟨_, gc_LONGEST_WORD⟩ := intB_ok gc_LONGEST_WORD
  obtain ⟨gc_LONGEST_NUMBER, h8_⟩ := He.ba h8_
  obtain ⟨_, gc_LONGEST_NUMBER⟩ := intB_ok gc_LONGEST_NUMBER
  obtain ⟨gc_NUMBERS_END, h8_⟩ := He.ba h8_
  obtain ⟨_, gc_NUMBERS_END⟩ := intB_ok gc_NUMBERS_END
  obtain ⟨gc_DEEPEST_TUPLE, h8_⟩ := He.ba h8_
  obtain ⟨_, gc_DEEPEST_TUPLE⟩ := intB_ok gc_DEEPEST_TUPLE
  obtain ⟨gc_MOST_OUTCOMES, h8_⟩ := He.ba h8_
  obtain ⟨_, gc_MOST_OUTCOMES⟩ := intB_ok gc_MOST_OUTCOMES
  obtain ⟨gc_MOST_WIDTHS, h8_⟩ := He.ba h8_
  obtain ⟨_, gc_MOST_WIDTHS⟩ := intB_ok gc_MOST_WIDTHS
  obtain ⟨gc_WIDEST, h8_⟩ := He.ba h8_
  obtain ⟨_, gc_WIDEST⟩ := intB_ok gc_WIDEST
  obtain ⟨gc_PLACES, h8_⟩ := He.ba h8_
  obtain ⟨_, gc_PLACES⟩ := intB_ok gc_PLACES
  obtain ⟨gc_ITEMS_BEFORE, h8_⟩ := He.ba h8_
  obtain ⟨_, gc_ITEMS_BEFORE⟩ := intB_ok gc_ITEMS_BEFORE
  obtain ⟨gc_TWO_OUTCOMES, h8_⟩ := He.ba h8_
  obtain ⟨_, gc_TWO_OUTCOMES⟩ := intB_ok gc_TWO_OUTCOMES
  obtain ⟨g_OutOfRange, h8_⟩ := He.ba h8_
  have g_OutOfRange := He.eqO_ok g_OutOfRange
  obtain ⟨g_TooLarge, h8_⟩ := He.ba h8_
  have g_TooLarge := He.eqO_ok g_TooLarge
  obtain ⟨g_InvalidQuery, h8_⟩ := He.ba h8_
  have g_InvalidQuery := He.eqO_ok g_InvalidQuery
  obtain ⟨g_SizeMismatch, h8_⟩ := He.ba h8_
  have g_SizeMismatch := He.eqO_ok g_SizeMismatch
  obtain ⟨g_InvalidTerm, h8_⟩ := He.ba h8_
  have g_InvalidTerm := He.eqO_ok g_InvalidTerm
  obtain ⟨g_ChoosersError, h8_⟩ := He.ba h8_
  have g_ChoosersError := He.eqO_ok g_ChoosersError
  obtain ⟨x_OutOfRange, h8_⟩ := He.ba h8_
  have x_TooLarge := h8_
  obtain ⟨x_SizeMismatch, h9_⟩ := He.ba h9_
  obtain ⟨z_super, h9_⟩ := He.ba h9_
  have z_super := He.eqO_ok z_super
  obtain ⟨opq_, h9_⟩ := He.ba h9_
  have opq_ := He.eqO_ok opq_
  obtain ⟨kc_OutOfRange, h9_⟩ := He.ba h9_
  obtain ⟨e_OutOfRange, h9_⟩ := He.ba h9_
  have e_OutOfRange := of_decide_eq_true e_OutOfRange
  obtain ⟨t_OutOfRange, h9_⟩ := He.ba h9_
  have t_OutOfRange := of_decide_eq_true t_OutOfRange
  obtain ⟨hg_OutOfRange, h9_⟩ := He.ba h9_
  have hg_OutOfRange := He.eqO_ok hg_OutOfRange
  obtain ⟨hk_OutOfRange, h9_⟩ := He.ba h9_
  have hk_OutOfRange := He.eqO_ok hk_OutOfRange
  obtain ⟨hd_OutOfRange, h9_⟩ := He.ba h9_
  obtain ⟨ha_OutOfRange, h9_⟩ := He.ba h9_
  have ha_OutOfRange := He.eqO_ok ha_OutOfRange
  obtain ⟨hm_OutOfRange, h9_⟩ := He.ba h9_
  have hm_OutOfRange := of_decide_eq_true hm_OutOfRange
  obtain ⟨s_OutOfRange_OutOfRange, h9_⟩ := He.ba h9_
  have s_OutOfRange_OutOfRange := of_decide_eq_true s_OutOfRange_OutOfRange
  obtain ⟨s_OutOfRange_InvalidTerm, h9_⟩ := He.ba h9_
  have s_OutOfRange_InvalidTerm := of_decide_eq_true s_OutOfRange_InvalidTerm
  obtain ⟨s_OutOfRange_ValueError, h9_⟩ := He.ba h9_
  have s_OutOfRange_ValueError := of_decide_eq_true s_OutOfRange_ValueError
  obtain ⟨s_OutOfRange_SizeMismatch, h9_⟩ := He.ba h9_
  have s_OutOfRange_SizeMismatch := of_decide_eq_true s_OutOfRange_SizeMismatch
  obtain ⟨s_OutOfRange_TooLarge, h9_⟩ := He.ba h9_
  have s_OutOfRange_TooLarge := of_decide_eq_true s_OutOfRange_TooLarge
  obtain ⟨s_OutOfRange_ChoosersError, h9_⟩ := He.ba h9_
  have s_OutOfRange_ChoosersError := of_decide_eq_true s_OutOfRange_ChoosersError
  obtain ⟨kc_TooLarge, h9_⟩ := He.ba h9_
  obtain ⟨e_TooLarge, h9_⟩ := He.ba h9_
  have e_TooLarge := of_decide_eq_true e_TooLarge
  obtain ⟨t_TooLarge, h9_⟩ := He.ba h9_
  have t_TooLarge := of_decide_eq_true t_TooLarge
  obtain ⟨hg_TooLarge, h9_⟩ := He.ba h9_
  have hg_TooLarge := He.eqO_ok hg_TooLarge
  obtain ⟨hk_TooLarge, h9_⟩ := He.ba h9_
  have hk_TooLarge := He.eqO_ok hk_TooLarge
  obtain ⟨hd_TooLarge, h9_⟩ := He.ba h9_
  obtain ⟨ha_TooLarge, h9_⟩ := He.ba h9_
  have ha_TooLarge := He.eqO_ok ha_TooLarge
  have hm_TooLarge := h9_
  have hm_TooLarge := of_decide_eq_true hm_TooLarge
  obtain ⟨s_TooLarge_TooLarge, h10_⟩ := He.ba h10_
  have s_TooLarge_TooLarge := of_decide_eq_true s_TooLarge_TooLarge
  obtain ⟨s_TooLarge_InvalidTerm, h10_⟩ := He.ba h10_
  have s_TooLarge_InvalidTerm := of_decide_eq_true s_TooLarge_InvalidTerm
  obtain ⟨s_TooLarge_ValueError, h10_⟩ := He.ba h10_
  have s_TooLarge_ValueError := of_decide_eq_true s_TooLarge_ValueError
  obtain ⟨s_TooLarge_OutOfRange, h10_⟩ := He.ba h10_
  have s_TooLarge_OutOfRange := of_decide_eq_true s_TooLarge_OutOfRange
  obtain ⟨s_TooLarge_SizeMismatch, h10_⟩ := He.ba h10_
  have s_TooLarge_SizeMismatch := of_decide_eq_true s_TooLarge_SizeMismatch
  obtain ⟨s_TooLarge_ChoosersError, h10_⟩ := He.ba h10_
  have s_TooLarge_ChoosersError := of_decide_eq_true s_TooLarge_ChoosersError
  obtain ⟨kc_InvalidQuery, h10_⟩ := He.ba h10_
  obtain ⟨e_InvalidQuery, h10_⟩ := He.ba h10_
  have e_InvalidQuery := of_decide_eq_true e_InvalidQuery
  obtain ⟨t_InvalidQuery, h10_⟩ := He.ba h10_
  have t_InvalidQuery := of_decide_eq_true t_InvalidQuery
  obtain ⟨hg_InvalidQuery, h10_⟩ := He.ba h10_
  have hg_InvalidQuery := He.eqO_ok hg_InvalidQuery
  obtain ⟨hk_InvalidQuery, h10_⟩ := He.ba h10_
  have hk_InvalidQuery := He.eqO_ok hk_InvalidQuery
  obtain ⟨hd_InvalidQuery, h10_⟩ := He.ba h10_
  obtain ⟨ha_InvalidQuery, h10_⟩ := He.ba h10_
  have ha_InvalidQuery := He.eqO_ok ha_InvalidQuery
  obtain ⟨hm_InvalidQuery, h10_⟩ := He.ba h10_
  have hm_InvalidQuery := of_decide_eq_true hm_InvalidQuery
  obtain ⟨s_InvalidQuery_InvalidQuery, h10_⟩ := He.ba h10_
  have s_InvalidQuery_InvalidQuery := of_decide_eq_true s_InvalidQuery_InvalidQuery
  obtain ⟨s_InvalidQuery_InvalidTerm, h10_⟩ := He.ba h10_
  have s_InvalidQuery_InvalidTerm := of_decide_eq_true s_InvalidQuery_InvalidTerm
  obtain ⟨s_InvalidQuery_ValueError, h10_⟩ := He.ba h10_
  have s_InvalidQuery_ValueError := of_decide_eq_true s_InvalidQuery_ValueError
  obtain ⟨s_InvalidQuery_OutOfRange, h10_⟩ := He.ba h10_
  have s_InvalidQuery_OutOfRange := of_decide_eq_true s_InvalidQuery_OutOfRange
  obtain ⟨s_InvalidQuery_SizeMismatch, h10_⟩ := He.ba h10_
  have s_InvalidQuery_SizeMismatch := of_decide_eq_true s_InvalidQuery_SizeMismatch
  obtain ⟨s_InvalidQuery_TooLarge, h10_⟩ := He.ba h10_
  have s_InvalidQuery_TooLarge := of_decide_eq_true s_InvalidQuery_TooLarge
  obtain ⟨s_InvalidQuery_ChoosersError, h10_⟩ := He.ba h10_
  have s_InvalidQuery_ChoosersError := of_decide_eq_true s_InvalidQuery_ChoosersError
  obtain ⟨kc_SizeMismatch, h10_⟩ := He.ba h10_
  obtain ⟨e_SizeMismatch, h10_⟩ := He.ba h10_
  have e_SizeMismatch := of_decide_eq_true e_SizeMismatch
  obtain ⟨t_SizeMismatch, h10_⟩ := He.ba h10_
  have t_SizeMismatch := of_decide_eq_true t_SizeMismatch
  have hg_SizeMismatch := h10_
  have hg_SizeMismatch := He.eqO_ok hg_SizeMismatch
  obtain ⟨hk_SizeMismatch, h11_⟩ := He.ba h11_
  have hk_SizeMismatch := He.eqO_ok hk_SizeMismatch
  obtain ⟨hd_SizeMismatch, h11_⟩ := He.ba h11_
  obtain ⟨ha_SizeMismatch, h11_⟩ := He.ba h11_
  have ha_SizeMismatch := He.eqO_ok ha_SizeMismatch
  obtain ⟨hm_SizeMismatch, h11_⟩ := He.ba h11_
  have hm_SizeMismatch := of_decide_eq_true hm_SizeMismatch
  obtain ⟨s_SizeMismatch_SizeMismatch, h11_⟩ := He.ba h11_
  have s_SizeMismatch_SizeMismatch := of_decide_eq_true s_SizeMismatch_SizeMismatch
  obtain ⟨s_SizeMismatch_InvalidTerm, h11_⟩ := He.ba h11_
  have s_SizeMismatch_InvalidTerm := of_decide_eq_true s_SizeMismatch_InvalidTerm
  obtain ⟨s_SizeMismatch_ValueError, h11_⟩ := He.ba h11_
  have s_SizeMismatch_ValueError := of_decide_eq_true s_SizeMismatch_ValueError
  obtain ⟨s_SizeMismatch_OutOfRange, h11_⟩ := He.ba h11_
  have s_SizeMismatch_OutOfRange := of_decide_eq_true s_SizeMismatch_OutOfRange
  obtain ⟨s_SizeMismatch_TooLarge, h11_⟩ := He.ba h11_
  have s_SizeMismatch_TooLarge := of_decide_eq_true s_SizeMismatch_TooLarge
  obtain ⟨s_SizeMismatch_ChoosersError, h11_⟩ := He.ba h11_
  have s_SizeMismatch_ChoosersError := of_decide_eq_true s_SizeMismatch_ChoosersError
  obtain ⟨ic_InvalidQuery, h11_⟩ := He.ba h11_
  have ic_InvalidQuery := He.eqO_ok ic_InvalidQuery
  obtain ⟨ini_InvalidQuery, h11_⟩ := He.ba h11_
  obtain ⟨ti_InvalidQuery, h11_⟩ := He.ba h11_
  have ti_InvalidQuery := of_decide_eq_true ti_InvalidQuery
  obtain ⟨no_InvalidQuery, h11_⟩ := He.ba h11_
  have no_InvalidQuery := He.eqO_ok no_InvalidQuery
  obtain ⟨own_InvalidQuery, h11_⟩ := He.ba h11_
  obtain ⟨sb_InvalidQuery, h11_⟩ := He.ba h11_
  have sb_InvalidQuery := of_decide_eq_true sb_InvalidQuery
  obtain ⟨ve_InvalidQuery, h11_⟩ := He.ba h11_
  have ve_InvalidQuery := of_decide_eq_true ve_InvalidQuery
  obtain ⟨sup_InvalidQuery, h11_⟩ := He.ba h11_
  have sup_InvalidQuery := He.eqO_ok sup_InvalidQuery
  obtain ⟨ob_InvalidQuery, h11_⟩ := He.ba h11_
  have ob_InvalidQuery := excB_ok ob_InvalidQuery
  obtain ⟨sa_InvalidQuery, h11_⟩ := He.ba h11_
  have sa_InvalidQuery := He.eqO_ok sa_InvalidQuery
  obtain ⟨q_OutOfRange, h11_⟩ := He.ba h11_
  obtain ⟨q_TooLarge, h11_⟩ := He.ba h11_
  obtain ⟨q_InvalidQuery, h11_⟩ := He.ba h11_
  obtain ⟨q_SizeMismatch, h11_⟩ := He.ba h11_
  have q_InvalidTerm := h11_
  obtain ⟨t_InvalidTerm, h12_⟩ := He.ba h12_
  have t_InvalidTerm := of_decide_eq_true t_InvalidTerm
  obtain ⟨q_ChoosersError, h12_⟩ := He.ba h12_
  obtain ⟨t_ChoosersError, h12_⟩ := He.ba h12_
  have t_ChoosersError := of_decide_eq_true t_ChoosersError
  obtain ⟨e_ChoosersError, h12_⟩ := He.ba h12_
  have e_ChoosersError := of_decide_eq_true e_ChoosersError
  obtain ⟨hd_ChoosersError, h12_⟩ := He.ba h12_
  obtain ⟨hn_, h12_⟩ := He.ba h12_
  have hn_ := He.eqO_ok hn_
  obtain ⟨ht_, h12_⟩ := He.ba h12_
  have ht_ := of_decide_eq_true ht_
  obtain ⟨pg_Query, h12_⟩ := He.ba h12_
  obtain ⟨hdc_Query, h12_⟩ := He.ba h12_
  obtain ⟨po_Query, h12_⟩ := He.ba h12_
  obtain ⟨sac_Query, h12_⟩ := He.ba h12_
  have sac_Query := He.eqO_ok sac_Query
  obtain ⟨mk_Query, h12_⟩ := He.ba h12_
  obtain ⟨kcc_Query, h12_⟩ := He.ba h12_
  obtain ⟨na_Query_term, h12_⟩ := He.ba h12_
  have na_Query_term := He.eqO_ok na_Query_term
  obtain ⟨na_Query_widths, h12_⟩ := He.ba h12_
  have na_Query_widths := He.eqO_ok na_Query_widths
  obtain ⟨na_Query_outcomes, h12_⟩ := He.ba h12_
  have na_Query_outcomes := He.eqO_ok na_Query_outcomes
  obtain ⟨rdc_Query, h12_⟩ := He.ba h12_
  obtain ⟨rga_Query, h12_⟩ := He.ba h12_
  have rga_Query := He.eqO_ok rga_Query
  obtain ⟨cv_Query_MOST_LEVELS, h12_⟩ := He.ba h12_
  obtain ⟨_, cv_Query_MOST_LEVELS⟩ := cvB_ok cv_Query_MOST_LEVELS
  obtain ⟨cv_Query_MOST_LOOKS, h12_⟩ := He.ba h12_
  obtain ⟨_, cv_Query_MOST_LOOKS⟩ := cvB_ok cv_Query_MOST_LOOKS
  obtain ⟨cv_Query_MOST_CHOICES, h12_⟩ := He.ba h12_
  obtain ⟨_, cv_Query_MOST_CHOICES⟩ := cvB_ok cv_Query_MOST_CHOICES
  obtain ⟨pg_Row, h12_⟩ := He.ba h12_
  obtain ⟨hdc_Row, h12_⟩ := He.ba h12_
  obtain ⟨po_Row, h12_⟩ := He.ba h12_
  have sac_Row := h12_
  have sac_Row := He.eqO_ok sac_Row
  obtain ⟨mk_Row, h13_⟩ := He.ba h13_
  obtain ⟨kcc_Row, h13_⟩ := He.ba h13_
  obtain ⟨hac_Row, h13_⟩ := He.ba h13_
  have hac_Row := He.eqO_ok hac_Row
  obtain ⟨hmc_Row, h13_⟩ := He.ba h13_
  have hmc_Row := of_decide_eq_true hmc_Row
  obtain ⟨sic_Row, h13_⟩ := He.ba h13_
  have sic_Row := of_decide_eq_true sic_Row
  obtain ⟨qic_Row, h13_⟩ := He.ba h13_
  obtain ⟨tic_Row, h13_⟩ := He.ba h13_
  have tic_Row := of_decide_eq_true tic_Row
  obtain ⟨na_Row_head, h13_⟩ := He.ba h13_
  have na_Row_head := He.eqO_ok na_Row_head
  have na_Row_cycle := h13_
  have na_Row_cycle := He.eqO_ok na_Row_cycle
  have e := hfa.symm.trans (PySem.W.mg_of X G a60)
  cases e
  obtain ⟨_, F0⟩ := fun_of FI0 c0
  have b0 := F0.binds (ps := ["value"]) fun _ _ _ _ _ _ us hl => match us, hl with | [_], _ => rfl
  obtain ⟨_, F1⟩ := fun_of FI1 c1
  have b1 := F1.binds (ps := ["value", "limit"]) fun _ _ _ _ _ _ us hl => match us, hl with | [_, _], _ => rfl
  obtain ⟨_, F2⟩ := fun_of FI2 c2
  have b2 := F2.binds (ps := ["widths"]) fun _ _ _ _ _ _ us hl => match us, hl with | [_], _ => rfl
  obtain ⟨_, F3⟩ := fun_of FI3 c3
  have b3 := F3.binds (ps := ["outcomes"]) fun _ _ _ _ _ _ us hl => match us, hl with | [_], _ => rfl
  obtain ⟨_, F4⟩ := fun_of FI4 c4
  have b4 := F4.binds (ps := ["widths", "place"]) fun _ _ _ _ _ _ us hl => match us, hl with | [_, _], _ => rfl
  obtain ⟨_, F5⟩ := fun_of FI5 c5
  have b5 := F5.binds (ps := ["term"]) fun _ _ _ _ _ _ us hl => match us, hl with | [_], _ => rfl
  obtain ⟨_, F6⟩ := fun_of FI6 c6
  have b6 := F6.binds (ps := ["widths"]) fun _ _ _ _ _ _ us hl => match us, hl with | [_], _ => rfl
  obtain ⟨_, F7⟩ := fun_of FI7 c7
  have b7 := F7.binds (ps := ["widths", "outcomes"]) fun _ _ _ _ _ _ us hl => match us, hl with | [_, _], _ => rfl
  obtain ⟨_, F8⟩ := fun_of FI8 c8
  have b8 := F8.binds (ps := ["term", "widths", "level"]) fun _ _ _ _ _ _ us hl => match us, hl with | [_, _, _], _ => rfl
  obtain ⟨_, F9⟩ := fun_of FI9 c9
  have b9 := F9.binds (ps := ["term", "widths", "outcomes", "level"]) fun _ _ _ _ _ _ us hl => match us, hl with | [_, _, _, _], _ => rfl
  obtain ⟨_, F10⟩ := fun_of FI10 c10
  have b10 := F10.binds (ps := ["term"]) fun _ _ _ _ _ _ us hl => match us, hl with | [_], _ => rfl
  obtain ⟨_, F11⟩ := fun_of FI11 c11
  have b11 := F11.binds (ps := ["places", "widths"]) fun _ _ _ _ _ _ us hl => match us, hl with | [_, _], _ => rfl
  obtain ⟨_, F12⟩ := fun_of FI12 c12
  have b12 := F12.binds (ps := ["term", "place", "option"]) fun _ _ _ _ _ _ us hl => match us, hl with | [_, _, _], _ => rfl
  obtain ⟨_, F13⟩ := fun_of FI13 c13
  have b13 := F13.binds (ps := ["self", "term", "widths", "outcomes"]) fun _ _ _ _ _ _ us hl => match us, hl with | [_, _, _, _], _ => rfl
  obtain ⟨_, F14⟩ := fun_of FI14 c14
  have b14 := F14.binds (ps := ["cycle"]) fun _ _ _ _ _ _ us hl => match us, hl with | [_], _ => rfl
  obtain ⟨_, F15⟩ := fun_of FI15 c15
  have b15 := F15.binds (ps := ["cycle", "count"]) fun _ _ _ _ _ _ us hl => match us, hl with | [_, _], _ => rfl
  obtain ⟨_, F16⟩ := fun_of FI16 c16
  have b16 := F16.binds (ps := ["head", "cycle"]) fun _ _ _ _ _ _ us hl => match us, hl with | [_, _], _ => rfl
  obtain ⟨_, F17⟩ := funD_of FI17 c17
  have b17 := binds_full (F17.binds1 (ps := ["self", "head", "cycle"]) 3 1 (by nofun) rfl fun _ _ _ _ _ _ _ us its hu hi => match us, its, hu, hi with | [_, _, _], [_], _, _ => ⟨_, rfl, rfl⟩)
  have bd17 := F17.binds1 (ps := ["self", "head", "cycle"]) 2 0 (by nofun) rfl fun _ _ _ _ _ _ _ us its hu hi => match us, its, hu, hi with | [_, _], [_], _, _ => ⟨_, rfl, rfl⟩
  obtain ⟨_, F18⟩ := fun_of FI18 c18
  have b18 := F18.binds (ps := ["self"]) fun _ _ _ _ _ _ us hl => match us, hl with | [_], _ => rfl
  obtain ⟨_, F19⟩ := fun_of FI19 c19
  have b19 := F19.binds (ps := ["term", "widths"]) fun _ _ _ _ _ _ us hl => match us, hl with | [_, _], _ => rfl
  obtain ⟨_, F20⟩ := fun_of FI20 c20
  have b20 := F20.binds (ps := ["query"]) fun _ _ _ _ _ _ us hl => match us, hl with | [_], _ => rfl
  obtain ⟨_, F21⟩ := fun_of FI21 c21
  have b21 := F21.binds (ps := ["term"]) fun _ _ _ _ _ _ us hl => match us, hl with | [_], _ => rfl
  obtain ⟨_, F22⟩ := fun_of FI22 c22
  have b22 := F22.binds (ps := ["query"]) fun _ _ _ _ _ _ us hl => match us, hl with | [_], _ => rfl
  obtain ⟨_, F23⟩ := fun_of FI23 c23
  have b23 := F23.binds (ps := ["query", "outcome"]) fun _ _ _ _ _ _ us hl => match us, hl with | [_, _], _ => rfl
  obtain ⟨_, F24⟩ := fun_of FI24 c24
  have b24 := F24.binds (ps := ["first", "second"]) fun _ _ _ _ _ _ us hl => match us, hl with | [_, _], _ => rfl
  obtain ⟨_, F25⟩ := fun_of FI25 c25
  have b25 := F25.binds (ps := ["first", "others"]) fun _ _ _ _ _ _ us hl => match us, hl with | [_, _], _ => rfl
  obtain ⟨_, F26⟩ := fun_of FI26 c26
  have b26 := F26.binds (ps := ["numbers"]) fun _ _ _ _ _ _ us hl => match us, hl with | [_], _ => rfl
  obtain ⟨_, F27⟩ := fun_of FI27 c27
  have b27 := F27.binds (ps := ["term", "place", "option"]) fun _ _ _ _ _ _ us hl => match us, hl with | [_, _, _], _ => rfl
  obtain ⟨_, F28⟩ := fun_of FI28 c28
  have b28 := F28.binds (ps := ["query"]) fun _ _ _ _ _ _ us hl => match us, hl with | [_], _ => rfl
  obtain ⟨_, F29⟩ := fun_of FI29 c29
  have b29 := F29.binds (ps := ["term", "outcomes"]) fun _ _ _ _ _ _ us hl => match us, hl with | [_, _], _ => rfl
  obtain ⟨_, F30⟩ := fun_of FI30 c30
  have b30 := F30.binds (ps := ["path"]) fun _ _ _ _ _ _ us hl => match us, hl with | [_], _ => rfl
  obtain ⟨_, F31⟩ := fun_of FI31 c31
  have b31 := F31.binds (ps := ["query", "outcome"]) fun _ _ _ _ _ _ us hl => match us, hl with | [_, _], _ => rfl
  obtain ⟨_, F32⟩ := fun_of FI32 c32
  have b32 := F32.binds (ps := ["terms", "needed", "widths"]) fun _ _ _ _ _ _ us hl => match us, hl with | [_, _, _], _ => rfl
  obtain ⟨_, F33⟩ := fun_of FI33 c33
  have b33 := F33.binds (ps := ["first", "second"]) fun _ _ _ _ _ _ us hl => match us, hl with | [_, _], _ => rfl
  obtain ⟨_, F34⟩ := fun_of FI34 c34
  have b34 := F34.binds (ps := ["_law_script"]) fun _ _ _ _ _ _ us hl => match us, hl with | [_], _ => rfl
  obtain ⟨_, F35⟩ := fun_of FI35 c35
  have b35 := F35.binds (ps := ["_law_state", "_law_limit"]) fun _ _ _ _ _ _ us hl => match us, hl with | [_, _], _ => rfl
  obtain ⟨_, F36⟩ := fun_of FI36 c36
  have b36 := F36.binds (ps := ["_law_actual", "_law_due"]) fun _ _ _ _ _ _ us hl => match us, hl with | [_, _], _ => rfl
  obtain ⟨_, F37⟩ := fun_of FI37 c37
  have b37 := F37.binds (ps := ["_law_widths_here", "_law_place"]) fun _ _ _ _ _ _ us hl => match us, hl with | [_, _], _ => rfl
  obtain ⟨_, F38⟩ := fun_of FI38 c38
  have b38 := F38.binds (ps := ["_law_state"]) fun _ _ _ _ _ _ us hl => match us, hl with | [_], _ => rfl
  obtain ⟨_, F39⟩ := fun_of FI39 c39
  have b39 := F39.binds (ps := ["_law_state", "_law_widths_here", "_law_count", "_law_most"]) fun _ _ _ _ _ _ us hl => match us, hl with | [_, _, _, _], _ => rfl
  obtain ⟨_, F40⟩ := fun_of FI40 c40
  have b40 := F40.binds (ps := ["_law_state", "_law_size", "_law_places", "_law_levels"]) fun _ _ _ _ _ _ us hl => match us, hl with | [_, _, _, _], _ => rfl
  obtain ⟨_, F41⟩ := fun_of FI41 c41
  have b41 := F41.binds (ps := ["_law_state", "_law_places"]) fun _ _ _ _ _ _ us hl => match us, hl with | [_, _], _ => rfl
  obtain ⟨_, F42⟩ := fun_of FI42 c42
  have b42 := F42.binds (ps := ["_law_state", "_law_size", "_law_order", "_law_marked", "_law_total"]) fun _ _ _ _ _ _ us hl => match us, hl with | [_, _, _, _, _], _ => rfl
  obtain ⟨_, F43⟩ := fun_of FI43 c43
  have b43 := F43.binds (ps := ["_law_heads_here", "_law_options"]) fun _ _ _ _ _ _ us hl => match us, hl with | [_, _], _ => rfl
  obtain ⟨_, F44⟩ := fun_of FI44 c44
  have b44 := F44.binds (ps := ["_law_widths_here", "_law_places"]) fun _ _ _ _ _ _ us hl => match us, hl with | [_, _], _ => rfl
  obtain ⟨_, F45⟩ := fun_of FI45 c45
  have b45 := F45.binds (ps := ["_law_term", "_law_places", "_law_head"]) fun _ _ _ _ _ _ us hl => match us, hl with | [_, _, _], _ => rfl
  obtain ⟨_, F46⟩ := fun_of FI46 c46
  have b46 := F46.binds (ps := ["_law_size", "_law_term", "_law_order", "_law_head"]) fun _ _ _ _ _ _ us hl => match us, hl with | [_, _, _, _], _ => rfl
  obtain ⟨_, F47⟩ := fun_of FI47 c47
  have b47 := F47.binds (ps := ["_law_state", "_law_term", "_law_outcomes"]) fun _ _ _ _ _ _ us hl => match us, hl with | [_, _, _], _ => rfl
  obtain ⟨_, F48⟩ := fun_of FI48 c48
  have b48 := F48.binds (ps := ["_law_state", "_law_size", "_law_places"]) fun _ _ _ _ _ _ us hl => match us, hl with | [_, _, _], _ => rfl
  obtain ⟨_, F49⟩ := fun_of FI49 c49
  have b49 := F49.binds (ps := ["_law_state", "_law_size", "_law_places", "_law_first"]) fun _ _ _ _ _ _ us hl => match us, hl with | [_, _, _, _], _ => rfl
  obtain ⟨_, F50⟩ := fun_of FI50 c50
  have b50 := F50.binds (ps := ["_law_places", "_law_head"]) fun _ _ _ _ _ _ us hl => match us, hl with | [_, _], _ => rfl
  obtain ⟨_, F51⟩ := fun_of FI51 c51
  have b51 := F51.binds (ps := ["_law_actual", "_law_due"]) fun _ _ _ _ _ _ us hl => match us, hl with | [_, _], _ => rfl
  obtain ⟨_, F52⟩ := fun_of FI52 c52
  have b52 := F52.binds (ps := ["_law_widths_here", "_law_places", "_law_told"]) fun _ _ _ _ _ _ us hl => match us, hl with | [_, _, _], _ => rfl
  obtain ⟨_, F53⟩ := fun_of FI53 c53
  have b53 := F53.binds (ps := ["_law_query", "_law_needed_here"]) fun _ _ _ _ _ _ us hl => match us, hl with | [_, _], _ => rfl
  obtain ⟨_, F54⟩ := fun_of FI54 c54
  have b54 := F54.binds (ps := ["_law_query", "_law_outcomes", "_law_places", "_law_heads_here", "_law_told"]) fun _ _ _ _ _ _ us hl => match us, hl with | [_, _, _, _, _], _ => rfl
  obtain ⟨_, F55⟩ := fun_of FI55 c55
  have b55 := F55.binds (ps := ["_law_first", "_law_second", "_law_places", "_law_heads_here", "_law_one", "_law_two"]) fun _ _ _ _ _ _ us hl => match us, hl with | [_, _, _, _, _, _], _ => rfl
  obtain ⟨_, F56⟩ := fun_of FI56 c56
  have b56 := F56.binds (ps := ["_law_how", "_law_first", "_law_second", "_law_outcome"]) fun _ _ _ _ _ _ us hl => match us, hl with | [_, _, _, _], _ => rfl
  obtain ⟨_, F57⟩ := fun_of FI57 c57
  have b57 := F57.binds (ps := ["_law_how", "_law_first", "_law_second", "_law_outcome"]) fun _ _ _ _ _ _ us hl => match us, hl with | [_, _, _, _], _ => rfl
  obtain ⟨_, F58⟩ := fun_of FI58 c58
  have b58 := F58.binds (ps := ["_law_state", "_law_query", "_law_widths_here", "_law_outcomes"]) fun _ _ _ _ _ _ us hl => match us, hl with | [_, _, _, _], _ => rfl
  obtain ⟨_, F59⟩ := fun_of FI59 c59
  have b59 := F59.binds (ps := ["_law_state"]) fun _ _ _ _ _ _ us hl => match us, hl with | [_], _ => rfl
  obtain ⟨fdl_, F60⟩ := fun_of FI60 c60
  have b60 := F60.binds (ps := ["_law_script"]) fun _ _ _ _ _ _ us hl => match us, hl with | [_], _ => rfl
  obtain ⟨_, _, _, _, _, _, _, _, _, cc_InvalidQuery, li_InvalidQuery, cdi_InvalidQuery, cell_InvalidQuery, code_InvalidQuery⟩ := init_of I_InvalidQuery ini_InvalidQuery
  have ox_InvalidQuery : OexC K c_InvalidQuery := ⟨ob_InvalidQuery, sa_InvalidQuery, e_InvalidQuery, t_InvalidQuery, kc_InvalidQuery⟩
  have su_InvalidQuery : SupC K c_InvalidQuery c_InvalidTerm cc_InvalidQuery fi_InvalidQuery _ fileP := ⟨ox_InvalidQuery, cell_InvalidQuery, own_InvalidQuery, sb_InvalidQuery, ve_InvalidQuery, opq_, sup_InvalidQuery, code_InvalidQuery⟩
  have bl_ : ∀ (s : Shared) (v : Value), BindsTo s fdl_ ⟨[v], []⟩ [("_law_script", v)] := fun s v => by
    obtain ⟨⟨_, _, _, _, _, _, _, _, _, e, _, _⟩, _⟩ := F60
    rw [e]
    exact .of_eq rfl
  exact ⟨_, bl_, fun base _ _ => ok_law (⟨f0, _, F0, PySem.W.mg_of X G a0, b0,
    f1, _, F1, PySem.W.mg_of X G a1, b1,
    f2, _, F2, PySem.W.mg_of X G a2, b2,
    f3, _, F3, PySem.W.mg_of X G a3, b3,
    f4, _, F4, PySem.W.mg_of X G a4, b4,
    f5, _, F5, PySem.W.mg_of X G a5, b5,
    f6, _, F6, PySem.W.mg_of X G a6, b6,
    f7, _, F7, PySem.W.mg_of X G a7, b7,
    f8, _, F8, PySem.W.mg_of X G a8, b8,
    f9, _, F9, PySem.W.mg_of X G a9, b9,
    f10, _, F10, PySem.W.mg_of X G a10, b10,
    f11, _, F11, PySem.W.mg_of X G a11, b11,
    f12, _, F12, PySem.W.mg_of X G a12, b12,
    f13, _, F13, b13,
    f14, _, F14, PySem.W.mg_of X G a14, b14,
    f15, _, F15, PySem.W.mg_of X G a15, b15,
    f16, _, F16, PySem.W.mg_of X G a16, b16,
    dA17, dt17, f17, _, F17, b17, bd17,
    f18, _, F18, b18,
    f19, _, F19, PySem.W.mg_of X G a19, b19,
    f20, _, F20, PySem.W.mg_of X G a20, b20,
    f21, _, F21, PySem.W.mg_of X G a21, b21,
    f22, _, F22, PySem.W.mg_of X G a22, b22,
    f23, _, F23, PySem.W.mg_of X G a23, b23,
    f24, _, F24, PySem.W.mg_of X G a24, b24,
    f25, _, F25, PySem.W.mg_of X G a25, b25,
    f26, _, F26, PySem.W.mg_of X G a26, b26,
    f27, _, F27, PySem.W.mg_of X G a27, b27,
    f28, _, F28, PySem.W.mg_of X G a28, b28,
    f29, _, F29, PySem.W.mg_of X G a29, b29,
    f30, _, F30, PySem.W.mg_of X G a30, b30,
    f31, _, F31, PySem.W.mg_of X G a31, b31,
    f32, _, F32, PySem.W.mg_of X G a32, b32,
    f33, _, F33, PySem.W.mg_of X G a33, b33,
    f34, _, F34, PySem.W.mg_of X G a34, b34,
    f35, _, F35, PySem.W.mg_of X G a35, b35,
    f36, _, F36, PySem.W.mg_of X G a36, b36,
    f37, _, F37, PySem.W.mg_of X G a37, b37,
    f38, _, F38, PySem.W.mg_of X G a38, b38,
    f39, _, F39, PySem.W.mg_of X G a39, b39,
    f40, _, F40, PySem.W.mg_of X G a40, b40,
    f41, _, F41, PySem.W.mg_of X G a41, b41,
    f42, _, F42, PySem.W.mg_of X G a42, b42,
    f43, _, F43, PySem.W.mg_of X G a43, b43,
    f44, _, F44, PySem.W.mg_of X G a44, b44,
    f45, _, F45, PySem.W.mg_of X G a45, b45,
    f46, _, F46, PySem.W.mg_of X G a46, b46,
    f47, _, F47, PySem.W.mg_of X G a47, b47,
    f48, _, F48, PySem.W.mg_of X G a48, b48,
    f49, _, F49, PySem.W.mg_of X G a49, b49,
    f50, _, F50, PySem.W.mg_of X G a50, b50,
    f51, _, F51, PySem.W.mg_of X G a51, b51,
    f52, _, F52, PySem.W.mg_of X G a52, b52,
    f53, _, F53, PySem.W.mg_of X G a53, b53,
    f54, _, F54, PySem.W.mg_of X G a54, b54,
    f55, _, F55, PySem.W.mg_of X G a55, b55,
    f56, _, F56, PySem.W.mg_of X G a56, b56,
    f57, _, F57, PySem.W.mg_of X G a57, b57,
    f58, _, F58, PySem.W.mg_of X G a58, b58,
    f59, _, F59, PySem.W.mg_of X G a59, b59,
    fa, _, F60, PySem.W.mg_of X G a60, b60,
    PySem.W.mg_none_of X G z_isinstance,
    PySem.W.mg_none_of X G z_int,
    PySem.W.mg_none_of X G z_bool,
    PySem.W.mg_none_of X G z_all,
    PySem.W.mg_none_of X G z_str,
    PySem.W.mg_none_of X G z_len,
    PySem.W.mg_none_of X G z_enumerate,
    PySem.W.mg_none_of X G z_tuple,
    PySem.W.mg_none_of X G z_sorted,
    PySem.W.mg_none_of X G z_set,
    PySem.W.mg_none_of X G z_min,
    PySem.W.mg_none_of X G z_range,
    PySem.W.mg_none_of X G z_max,
    PySem.W.mg_none_of X G z_list,
    PySem.W.mg_none_of X G z_any,
    PySem.W.mg_none_of X G z_ValueError,
    ⟨_, PySem.W.mg_of X G gc_LETTERS⟩,
    ⟨_, PySem.W.mg_of X G gc_DIGITS⟩,
    ⟨_, PySem.W.mg_of X G gc_LONGEST_WORD⟩,
    ⟨_, PySem.W.mg_of X G gc_LONGEST_NUMBER⟩,
    ⟨_, PySem.W.mg_of X G gc_NUMBERS_END⟩,
    ⟨_, PySem.W.mg_of X G gc_DEEPEST_TUPLE⟩,
    ⟨_, PySem.W.mg_of X G gc_MOST_OUTCOMES⟩,
    ⟨_, PySem.W.mg_of X G gc_MOST_WIDTHS⟩,
    ⟨_, PySem.W.mg_of X G gc_WIDEST⟩,
    ⟨_, PySem.W.mg_of X G gc_PLACES⟩,
    ⟨_, PySem.W.mg_of X G gc_ITEMS_BEFORE⟩,
    ⟨_, PySem.W.mg_of X G gc_TWO_OUTCOMES⟩,
    c_OutOfRange, PySem.W.mg_of X G g_OutOfRange,
    c_TooLarge, PySem.W.mg_of X G g_TooLarge,
    c_InvalidQuery, PySem.W.mg_of X G g_InvalidQuery,
    c_SizeMismatch, PySem.W.mg_of X G g_SizeMismatch,
    c_InvalidTerm, PySem.W.mg_of X G g_InvalidTerm,
    c_ChoosersError, PySem.W.mg_of X G g_ChoosersError,
    fi_InvalidQuery, _, ox_InvalidQuery, ic_InvalidQuery, ti_InvalidQuery, no_InvalidQuery, ⟨hg_InvalidQuery, hk_InvalidQuery, e_InvalidQuery, hd_InvalidQuery⟩, ⟨hg_InvalidQuery, hk_InvalidQuery, e_InvalidQuery, hd_InvalidQuery, ha_InvalidQuery, hn_, ht_, hm_InvalidQuery⟩, okinit_InvalidTerm li_InvalidQuery cdi_InvalidQuery su_InvalidQuery hP htop_ (PySem.W.mg_none_of X G z_super), Binds.all fun us hl => match us, hl with | [_, _], _ => rfl,
    kit_refS s_InvalidQuery_InvalidQuery q_InvalidTerm t_InvalidTerm s_InvalidQuery_InvalidTerm,
    kit_tyS rfl s_InvalidQuery_ValueError,
    kit_refS s_InvalidQuery_InvalidQuery q_OutOfRange t_OutOfRange s_InvalidQuery_OutOfRange,
    kit_refS s_InvalidQuery_InvalidQuery q_SizeMismatch t_SizeMismatch s_InvalidQuery_SizeMismatch,
    kit_refS s_InvalidQuery_InvalidQuery q_TooLarge t_TooLarge s_InvalidQuery_TooLarge,
    PySem.W.exm_ref e_ChoosersError hd_ChoosersError t_ChoosersError s_InvalidQuery_ChoosersError,
    x_OutOfRange, kc_OutOfRange, e_OutOfRange, t_OutOfRange, ⟨hg_OutOfRange, hk_OutOfRange, e_OutOfRange, hd_OutOfRange, ha_OutOfRange, hn_, ht_, hm_OutOfRange⟩,
    kit_refS s_OutOfRange_OutOfRange q_InvalidTerm t_InvalidTerm s_OutOfRange_InvalidTerm,
    kit_tyS rfl s_OutOfRange_ValueError,
    kit_refS s_OutOfRange_OutOfRange q_OutOfRange t_OutOfRange s_OutOfRange_OutOfRange,
    kit_refS s_OutOfRange_OutOfRange q_SizeMismatch t_SizeMismatch s_OutOfRange_SizeMismatch,
    kit_refS s_OutOfRange_OutOfRange q_TooLarge t_TooLarge s_OutOfRange_TooLarge,
    PySem.W.exm_ref e_ChoosersError hd_ChoosersError t_ChoosersError s_OutOfRange_ChoosersError,
    x_TooLarge, kc_TooLarge, e_TooLarge, t_TooLarge, ⟨hg_TooLarge, hk_TooLarge, e_TooLarge, hd_TooLarge, ha_TooLarge, hn_, ht_, hm_TooLarge⟩,
    kit_refS s_TooLarge_TooLarge q_InvalidTerm t_InvalidTerm s_TooLarge_InvalidTerm,
    kit_tyS rfl s_TooLarge_ValueError,
    kit_refS s_TooLarge_TooLarge q_OutOfRange t_OutOfRange s_TooLarge_OutOfRange,
    kit_refS s_TooLarge_TooLarge q_SizeMismatch t_SizeMismatch s_TooLarge_SizeMismatch,
    kit_refS s_TooLarge_TooLarge q_TooLarge t_TooLarge s_TooLarge_TooLarge,
    PySem.W.exm_ref e_ChoosersError hd_ChoosersError t_ChoosersError s_TooLarge_ChoosersError,
    x_SizeMismatch, kc_SizeMismatch, e_SizeMismatch, t_SizeMismatch, ⟨hg_SizeMismatch, hk_SizeMismatch, e_SizeMismatch, hd_SizeMismatch, ha_SizeMismatch, hn_, ht_, hm_SizeMismatch⟩,
    kit_refS s_SizeMismatch_SizeMismatch q_InvalidTerm t_InvalidTerm s_SizeMismatch_InvalidTerm,
    kit_tyS rfl s_SizeMismatch_ValueError,
    kit_refS s_SizeMismatch_SizeMismatch q_OutOfRange t_OutOfRange s_SizeMismatch_OutOfRange,
    kit_refS s_SizeMismatch_SizeMismatch q_SizeMismatch t_SizeMismatch s_SizeMismatch_SizeMismatch,
    kit_refS s_SizeMismatch_SizeMismatch q_TooLarge t_TooLarge s_SizeMismatch_TooLarge,
    PySem.W.exm_ref e_ChoosersError hd_ChoosersError t_ChoosersError s_SizeMismatch_ChoosersError,
    c_Query, PySem.W.mg_of X G g_Query, ⟨mk_Query, a13, i13, kcc_Query⟩, ⟨pg_Query, hdc_Query, po_Query, sac_Query⟩,
    na_Query_term,
    na_Query_widths,
    na_Query_outcomes,
    .type "type", ⟨rdc_Query, rga_Query⟩,
    ⟨_, cv_Query_MOST_LEVELS, ⟨_, rfl⟩⟩,
    ⟨_, cv_Query_MOST_LOOKS, ⟨_, rfl⟩⟩,
    ⟨_, cv_Query_MOST_CHOICES, ⟨_, rfl⟩⟩,
    c_Row, PySem.W.mg_of X G g_Row, ⟨mk_Row, a17, i17, kcc_Row⟩, ⟨pg_Row, hdc_Row, po_Row, sac_Row⟩,
    ⟨fun e => .ins e ⟨pg_Row, hdc_Row, po_Row, sac_Row⟩ hac_Row hn_ ht_ hmc_Row, kit_refS sic_Row qic_Row tic_Row sic_Row⟩,
    na_Row_head,
    na_Row_cycle,
    ⟨a18, i18, k18⟩⟩ : Txt P w K mg)⟩
theorem sp_law_of {K : Fg} {H : Hp} {a : Addr} {ns : List Int} (hl : ns.length ≤ 63) (hS : SqL K H a (ns.map V.int)) : spOf K c_law [.ref a] H (fun v _ => v = .bl true) fun _ _ _ => False :=
  ⟨fun _ => none, [.scr ns], fun d _ => d = .bl true, fun _ _ => False, (fun _ _ z => nomatch z), .scr (hS.elim (fun q => .inl ⟨q, .of rfl⟩) fun q => .inr q) .nil, ⟨ns, rfl, hl, rfl⟩, fun v H' d μ' _ _ r e => by subst e; exact Rep.bl_inv r, fun _ _ _ _ _ _ _ _ z => z⟩
theorem facts {w : World} {K : PySem.W.Frag} {h : Heap} {mg : Str → Option Value} {fa : Addr} (X : K.In h) (G : h.Ns mainGlobals mg) (hfa : mg "law" = some (.ref fa)) (hc : ckA K = true) (hv : (atsA.map fun f => fnI K (f K)) = valsA) (hd : (dsA.map fun f => He.dicW K (f K)) = kysA.map fun k => some (He.keysIn w.params k)) :
    ∃ fd : FuncData, (∀ (s : Shared) (v : Value), BindsTo s fd ⟨[v], []⟩ [("_law_script", v)]) ∧ ∀ base : Heap, K.In base → base.Ns mainGlobals mg → FnOk (PySem.Challenge.rw_choosersrow_k42_whole_first_rows).prog w K mg base (L2N.CX (PySem.Challenge.rw_choosersrow_k42_whole_first_rows).prog w) 70 fa fd ["_law_script"] (spOf K c_law) := by
  obtain ⟨h0_, hc⟩ := He.ba hc
  obtain ⟨h1_, hc⟩ := He.ba hc
  obtain ⟨h2_, hc⟩ := He.ba hc
  obtain ⟨h3_, hc⟩ := He.ba hc
  obtain ⟨h4_, hc⟩ := He.ba hc
  obtain ⟨h5_, hc⟩ := He.ba hc
  obtain ⟨h6_, hc⟩ := He.ba hc
  obtain ⟨h7_, hc⟩ := He.ba hc
  obtain ⟨h8_, hc⟩ := He.ba hc
  obtain ⟨h9_, hc⟩ := He.ba hc
  obtain ⟨h10_, hc⟩ := He.ba hc
  obtain ⟨h11_, hc⟩ := He.ba hc
  obtain ⟨h12_, hc⟩ := He.ba hc
  have h13_ := hc
  exact all_mk X G hfa (by kernel_rfl) (by kernel_rfl) (fn_at hv 0) (fn_at hv 1) (fn_at hv 2) (fn_at hv 3) (fn_at hv 4) (fn_at hv 5) (fn_at hv 6) (fn_at hv 7) (fn_at hv 8) (fn_at hv 9) (fn_at hv 10) (fn_at hv 11) (fn_at hv 12) (fn_at hv 13) (fn_at hv 14) (fn_at hv 15) (fn_at hv 16) (fn_at hv 17) (fn_at hv 18) (fn_at hv 19) (fn_at hv 20) (fn_at hv 21) (fn_at hv 22) (fn_at hv 23) (fn_at hv 24) (fn_at hv 25) (fn_at hv 26) (fn_at hv 27) (fn_at hv 28) (fn_at hv 29) (fn_at hv 30) (fn_at hv 31) (fn_at hv 32) (fn_at hv 33) (fn_at hv 34) (fn_at hv 35) (fn_at hv 36) (fn_at hv 37) (fn_at hv 38) (fn_at hv 39) (fn_at hv 40) (fn_at hv 41) (fn_at hv 42) (fn_at hv 43) (fn_at hv 44) (fn_at hv 45) (fn_at hv 46) (fn_at hv 47) (fn_at hv 48) (fn_at hv 49) (fn_at hv 50) (fn_at hv 51) (fn_at hv 52) (fn_at hv 53) (fn_at hv 54) (fn_at hv 55) (fn_at hv 56) (fn_at hv 57) (fn_at hv 58) (fn_at hv 59) (fn_at hv 60) (fn_at hv 61) h0_ h1_ h2_ h3_ h4_ h5_ h6_ h7_ h8_ h9_ h10_ h11_ h12_ h13_
end LW
open PySem PySem.W PySem.Calls PyProof.Rows in
set_option maxRecDepth 100000 in
set_option maxHeartbeats 0 in
theorem PySem.Challenge.cw_choosersrow_k42_whole_first_rows_holds : PySem.Challenge.rw_choosersrow_k42_whole_first_rows.Holds := by
  w_on; o_law
  refine HandSHeadRun.head_any (r := OpenLaw.row PySem.Challenge.rw_choosersrow_k42_whole_first_rows) (q := view (OpenLaw.row PySem.Challenge.rw_choosersrow_k42_whole_first_rows).prog [102]) (H := LW.hkA) (ob := LW.obA) (M := 20000) (loose := LW.namesA) (d := HandSHeadRun.topDef (OpenLaw.row PySem.Challenge.rw_choosersrow_k42_whole_first_rows).prog 102) (kwd := []) LW.obA_eq
    (by kernel_rfl) (fun s => by kernel_rfl) LW.runA (by kernel_rfl) (by kernel_rfl) (by kernel_rfl) (by rfl) (by first | assumption | decide +kernel) (by decide +kernel) ⟨rfl, rfl, rfl, rfl, rfl, by decide +kernel⟩ ?hw ?hc
  case hw => w_witness2
  case hc =>
    refine HX.walk_of (l := PySem.Challenge.rw_choosersrow_k42_whole_first_rows) (n := 63) (k := 70) (x := "_law_script") (CX := fun w => L2N.CX (PySem.Challenge.rw_choosersrow_k42_whole_first_rows).prog w) rfl (by decide) (by kernel_rfl) ⟨rfl, by decide, by decide⟩ ?F (fun _ _ _ _ _ h => by
      obtain ⟨_, _, _, _, _, _, _, _, _, _, _, _, z⟩ := h
      exact z)
    intro w mg fa h Y G hmg0
    obtain ⟨K, KX, hc, hv, hd⟩ := Y
    have hmg : mg ("law" : PySem.Str) = some (.ref fa) := by
      have e : (HandSHeadRun.topDef (OpenLaw.row PySem.Challenge.rw_choosersrow_k42_whole_first_rows).prog 102).name = ("law" : PySem.Str) := by kernel_rfl
      rw [← e]
      exact hmg0
    obtain ⟨fd, hb, hF⟩ := LW.facts (w := w) KX G hmg hc hv hd
    exact ⟨K, fd, DW.spOf K LW.c_law, KX, hb, fun H a ns hl _ hS => LW.sp_law_of hl hS, hF⟩
