import PyProof.Rows.All
import HandS.ForMost
import HandS.TupAny
import HandS.TupMul
import HandS.ForExc
import HandS.EndBits
import HandS.Wide
import HandS.WideBits
import HandS.Zip
import HandS.IsInst
import HandS.ExcIs
import HandS.Flow
import HandS.Strs
import HandS.Conv
import HandS.Style
import HandS.GenList
import HandS.ExcCtx
import HandS.Hot
import HandS.HotCalls
import HandS.WordsExc
import HandS.Text
import HandS.RaiseMore
import KE.GoesEnumKw
import HandS.Nested
import HandS.ExcInit
import KE.KSuper
import KE.KExcSuper
import HandS.ExcField
import KE.KExcIs
import HandS.FStr
import HandS.FStrTup
import PyProof.ListStr
import HandS.ExcOwn
import HandS.SetFor
import HandS.More
import HandS.Sort
import PyProof.Rows.SetFrom
import HandS.IterVal
import HandS.Iter
import PyProof.Rows.CallKwBuiltin
import KE.GoesZip
import KE.GoesMore
import KE.GoesEnum
import PyProof.P3Eq
import KE.KOpsOwn
import KE.KCallOwn
import KE.KTupSum
import HandS.Star
import HandS.Defaults
import HandS.ClsMeth
import OpenK.KWalk
import KE.DataMinMax
import HandS.Deep
import PySem.Challenge.RW_choosersrow_k43_heads_counted_and_number
import HandS.Head0
import HandS.Head1
import HandS.Head2
import HandS.HeadEnd
import HandS.HeadHook1
import HandS.HeadHook2
import HandS.HeadHook3
import Wide.All
import OpenK.AllK
import Wide.FinOn
import KE.KStateDown
import Open.SpecLaws
import KE.OsGo
import KE.RegKSuper
set_option Elab.async false
set_option linter.all false
set_option maxRecDepth 100000
set_option maxHeartbeats 4000000
namespace DW
open PySem PySem.Spec PyProof.Rows L2
/-- the object of a new tuple -/
abbrev tupObj (its : List Value) : Obj := { cls := .type "tuple", data := .seq its.toArray }
theorem tup_okN {P : Program} {w : World} {H : Hp} {h : Heap} {xs : List V} {its : List Value} (hz : xs.length ≤ sizeLine) (r : Vals xs its) :
    ObjOk P w H (h.push (tupObj its)) h.objs.size (.frz (tupObj its) (.tup xs)) := ⟨Heap.get?_push_size _ rfl, hz, its, r, IsTup.new _ _⟩
section
variable {X : Cx} {pins : List (Addr × Obj)} {σ : L2.St} {H : Hp} {s : Shared} {Q : VK}
/-- what is wished of a new tuple -/
def NewT (H : Hp) (xs : List V) (Q : VK) : Prop := ∀ p o, o.dict = none → o.cls = .type "tuple" → H p = none → Q (.ref p) (upd H p (.frz o (.tup xs)))
theorem new_tup {xs : List V} {its : List Value} (I : Inv X pins σ H s) (hz : xs.length ≤ sizeLine) (r : Vals xs its) (q : NewT H xs Q) : EP X pins σ Q (.ref s.heap.objs.size) { s with heap := s.heap.push (tupObj its) } :=
  ⟨.ref s.heap.objs.size, _, I.laid (t' := s.toks) (fun b u e => Heap.get?_push_of_some _ e) (Nat.le_refl _) (tup_okN hz r), rfl, q _ _ rfl rfl (I.hok.fresh (Nat.le_refl _))⟩
end
def tTupN (t : TA) : TE := fun σ H Q => t σ H fun xs H1 => xs.length ≤ sizeLine ∧ NewT H1 xs Q
theorem pe_tupN {X : Cx} {es : List Expr} {x1 : Nat} {pos : Pos} {t : TA} (h : PA X es t) : PE X (.Tuple es x1 pos) (tTupN t) :=
  ⟨fun pins s σ H Q I hq => wpAny_Tuple_spliced (thn (h.run pos pins s σ H _ I hq) fun us s1 ⟨xs, H1, I1, r, z, q⟩ => ⟨by rw [← r.length]; exact z, new_tup I1 z r q⟩)⟩
/-- t + u -/
def rCatN (K : PySem.W.Frag) : R2 := fun x y H Q => ∃ a b xs ys, x = .ref a ∧ y = .ref b ∧ SqT K H a xs ∧ SqT K H b ys ∧ xs.length + ys.length ≤ sizeLine ∧
  (xs = [] → Q (.ref b) H) ∧ (xs ≠ [] → ys = [] → Q (.ref a) H) ∧ (xs ≠ [] → ys ≠ [] → NewT H (xs ++ ys) Q)
theorem op_catN {X : Cx} : OpR X (binaryOp .Add) (rCatN X.K) := by
  intro pins s σ H x y v u Q I rx ry h
  obtain ⟨a, b, xs, ys, rfl, rfl, ha, hb, hz, q0, q1, q2⟩ := h
  cases rx
  cases ry
  obtain ⟨its, r1, p1, _⟩ := I.tuple ha
  obtain ⟨its2, r2, p2, _⟩ := I.tuple hb
  by_cases hx : xs = []
  · subst hx
    cases r1
    exact cat_tup0 p1 p2 ⟨.ref b, H, I, rfl, q0 rfl⟩
  · refine HT.cat_tup p1 p2 (fun z => hx (r1.nil_iff.mp z)) (fun z => ⟨.ref a, H, I, rfl, q1 hx (r2.nil_iff.mp z)⟩) (fun z => ?_) (by rw [← r1.length, ← r2.length]; exact hz)
    exact new_tup I (by rw [List.length_append]; exact hz) (r1.append r2) (q2 hx fun w => z (r2.nil_iff.mpr w))
/-- t[lo:hi] -/
def rSlN (K : PySem.W.Frag) : V → Option Int → Option Int → Hp → VK → Prop := fun x lo hi H Q => ∃ a xs, x = .ref a ∧ SqT K H a xs ∧
  (HT.sIx xs.length 0 lo = 0 ∧ HT.sIx xs.length xs.length hi = xs.length → Q (.ref a) H) ∧ (¬ (HT.sIx xs.length 0 lo = 0 ∧ HT.sIx xs.length xs.length hi = xs.length) → NewT H (cutV xs lo hi) Q)
theorem sl_tupN {X : Cx} : SlR X (rSlN X.K) := by
  intro pins s σ H x v vl vu lo hi sl Q I rx hs pl pu h
  obtain ⟨a, xs, rfl, hx, q1, q2⟩ := h
  cases rx
  obtain ⟨its, r, ht, hz⟩ := I.tuple hx
  have many : its.toArray.size = xs.length := by rw [List.size_toArray]; exact r.length.symm
  refine ⟨"tuple", _, PyProof.Rows.slot_tuple_getitem.lookup, ht.typeIs, ?_⟩
  by_cases hw : HT.sIx xs.length 0 lo = 0 ∧ HT.sIx xs.length xs.length hi = xs.length
  · exact getItem_tuple_whole ht hs pl pu (by rw [many]; exact hw) ⟨.ref a, H, I, rfl, q1 hw⟩
  · refine HT.getItem_tuple_cut ht hs pl pu (by rw [many]; exact hw) ?_ (by rw [many]; exact hz)
    rw [many]
    exact new_tup I (Nat.le_trans (cutV_length xs lo hi) hz) ((r.drop (HT.sIx xs.length 0 lo)).take (HT.sIx xs.length xs.length hi - HT.sIx xs.length 0 lo)) (q2 hw)
/-- tuple(xs) -/
theorem call_tupleN {X : Cx} : CallR X (.type "tuple") (fun xs H Q => ∃ p ys, xs = [.ref p] ∧ ((SqL X.K H p ys ∧ NewT H ys Q) ∨ (SqT X.K H p ys ∧ Q (.ref p) H))) := by
  intro pins s σ H xs us Q I r h
  obtain ⟨p, ys, rfl, h⟩ := h
  obtain ⟨u, rfl, rx⟩ := vals1 r
  cases rx
  rcases h with ⟨hq, q⟩ | ⟨hq, q⟩
  · obtain ⟨its, r', pl, hz⟩ := I.list hq
    have many := r'.length
    refine call_tuple_list pl.isList (fun h' kp => ?_) (by simp only [List.size_toArray] <;> omega)
    have I1 : Inv X pins σ H { s with heap := h' } := I.kept (t' := s.toks) kp
    exact new_tup I1 hz r' q
  · obtain ⟨its, r', pl, hz⟩ := I.tuple hq
    exact call_tuple_same pl ⟨.ref p, H, I, rfl, q⟩
end DW
set_option Elab.async false
set_option linter.all false
set_option maxRecDepth 100000
namespace DW
open PySem PySem.Spec L2
abbrev Fg := PySem.W.Frag
/-- plain data: what a value stands for; hd: a value taken as it is (a handle, a def, a type) -/
inductive D where
  | non | bl (b : Bool) | int (i : Int) | str (x : Str)
  | tup (xs : List D) | lst (xs : List D)
  | pr (xs : List D)
  | obj (C : Addr) (ns : List Str) (ds : List D)
  | hd (v : V)
  | scr (ns : List Int)
/-- what stands at a handle's address: a list that may change, one that stands still, an instance in the making -/
inductive Cell where
  | lst (ds : List D) | frz (ds : List D) | ins (C : Addr) (ns : List Str) (ds : List D)
  /-- a range object -/
  | rng (lo hi : Int)
abbrev Sto := Addr → Option Cell
def sset (μ : Sto) (a : Addr) (c : Cell) : Sto := fun b => if b = a then some c else μ b
theorem sset_same {μ : Sto} {a : Addr} {c : Cell} : sset μ a c a = some c := by unfold sset; rw [if_pos rfl]
theorem sset_ne {μ : Sto} {a b : Addr} {c : Cell} (h : b ≠ a) : sset μ a c b = μ b := by unfold sset; rw [if_neg h]
theorem sset_sset {μ : Sto} {a : Addr} {c d : Cell} : sset (sset μ a c) a d = sset μ a d := by
  funext b; unfold sset; split <;> rfl
def still : Option Cell → Prop
  | some (.lst _) => False
  | some (.ins _ _ _) => False
  | _ => True
/-- nothing that may change stands at a -/
def NM (μ : Sto) (a : Addr) : Prop := still (μ a)
theorem NM.of {μ : Sto} {a : Addr} (h : μ a = none) : NM μ a := by unfold NM; rw [h]; exact trivial
theorem NM.frz {μ : Sto} {a : Addr} {ds : List D} (h : μ a = some (.frz ds)) : NM μ a := by unfold NM; rw [h]; exact trivial
theorem NM.notL {μ : Sto} {a : Addr} {ds : List D} (h : NM μ a) (q : μ a = some (.lst ds)) : False := by unfold NM at h; rw [q] at h; exact h
theorem NM.notI {μ : Sto} {a C : Addr} {ns : List Str} {ds : List D} (h : NM μ a) (q : μ a = some (.ins C ns ds)) : False := by unfold NM at h; rw [q] at h; exact h
def SqLw (K : Fg) (a : Addr) (xs : List V) : Prop :=
  ∃ (o : Obj) (its : Array Value) (n : Nat), K.lookup a = some o ∧ o.cls = .type "list" ∧ o.dict = none ∧ o.data = .seq its n ∧ its.size ≤ sizeLine ∧ Vals xs its.toList
def SqTw (K : Fg) (a : Addr) (xs : List V) : Prop :=
  ∃ (o : Obj) (its : Array Value) (n : Nat), K.lookup a = some o ∧ o.cls = .type "tuple" ∧ o.dict = none ∧ o.data = .seq its n ∧ its.size ≤ sizeLine ∧ Vals xs its.toList
def LstAt (μ : Sto) (H : Hp) (a : Addr) (xs : List V) : Prop := H a = some (.lst xs) ∧ NM μ a
def ScrAt (K : Fg) (μ : Sto) (H : Hp) (a : Addr) (xs : List V) : Prop := (Rd H a (.lst xs) ∧ NM μ a) ∨ SqLw K a xs
def TupAt (K : Fg) (μ : Sto) (H : Hp) (a : Addr) (xs : List V) : Prop := (∃ o : Obj, H a = some (.frz o (.tup xs)) ∧ o.dict = none ∧ o.cls = .type "tuple" ∧ NM μ a) ∨ SqTw K a xs
/-- a tuple that is taken apart at once -/
def PrAt (μ : Sto) (H : Hp) (a : Addr) (xs : List V) : Prop := Rd H a (.tup xs) ∧ NM μ a
theorem LstAt.sq {K : Fg} {μ : Sto} {H : Hp} {a : Addr} {xs : List V} (h : LstAt μ H a xs) : SqL K H a xs := .inl (.inl h.1)
theorem ScrAt.sq {K : Fg} {μ : Sto} {H : Hp} {a : Addr} {xs : List V} (h : ScrAt K μ H a xs) : SqL K H a xs := h.elim (fun q => .inl q.1) fun q => .inr q
theorem TupAt.sq {K : Fg} {μ : Sto} {H : Hp} {a : Addr} {xs : List V} (h : TupAt K μ H a xs) : SqT K H a xs := h.elim (fun ⟨o, q, _⟩ => .inl (.inr ⟨o, q⟩)) fun ⟨o, its, n, q1, q2, _, q3⟩ => .inr ⟨o, its, n, q1, q2, q3⟩
theorem PrAt.sq {K : Fg} {μ : Sto} {H : Hp} {a : Addr} {xs : List V} (h : PrAt μ H a xs) : SqT K H a xs := .inl h.1
/-- what values stand for what data -/
inductive Reps (K : Fg) (μ : Sto) (H : Hp) : List V → List D → Prop
  | nil : Reps K μ H [] []
  | non {vs ds} : Reps K μ H vs ds → Reps K μ H (.non :: vs) (.non :: ds)
  | bl {vs ds} (b : Bool) : Reps K μ H vs ds → Reps K μ H (.bl b :: vs) (.bl b :: ds)
  | int {vs ds} (i : Int) : Reps K μ H vs ds → Reps K μ H (.int i :: vs) (.int i :: ds)
  | str {vs ds} (x : Str) : Reps K μ H vs ds → Reps K μ H (.str x :: vs) (.str x :: ds)
  | hd {vs ds} (v : V) : Reps K μ H vs ds → Reps K μ H (v :: vs) (.hd v :: ds)
  | tup {vs ds a us es} : TupAt K μ H a us → Reps K μ H us es → Reps K μ H vs ds → Reps K μ H (.ref a :: vs) (.tup es :: ds)
  | pr {vs ds a us es} : PrAt μ H a us → Reps K μ H us es → Reps K μ H vs ds → Reps K μ H (.ref a :: vs) (.pr es :: ds)
  | scr {vs ds a ns} : ScrAt K μ H a (ns.map V.int) → Reps K μ H vs ds → Reps K μ H (.ref a :: vs) (.scr ns :: ds)
  | lst {vs ds a us es} : LstAt μ H a us → Reps K μ H us es → Reps K μ H vs ds → Reps K μ H (.ref a :: vs) (.lst es :: ds)
  | obj {vs ds a C dx ns us es} : H a = some (.ins C dx (ns.zip us)) → NM μ a → us.length = ns.length → Reps K μ H us es → Reps K μ H vs ds → Reps K μ H (.ref a :: vs) (.obj C ns es :: ds)
abbrev Rep (K : Fg) (μ : Sto) (H : Hp) (v : V) (d : D) : Prop := Reps K μ H [v] [d]
section
variable {K : Fg} {μ μ' μ'' : Sto} {H H' H'' : Hp} {v w : V} {d e : D} {vs us : List V} {ds es : List D}
theorem Reps.length (h : Reps K μ H vs ds) : vs.length = ds.length := by
  induction h <;> simp_all
theorem Reps.split (h : Reps K μ H (v :: vs) (d :: ds)) : Rep K μ H v d ∧ Reps K μ H vs ds := by
  cases h with
  | non r => exact ⟨.non .nil, r⟩
  | bl b r => exact ⟨.bl b .nil, r⟩
  | int i r => exact ⟨.int i .nil, r⟩
  | str x r => exact ⟨.str x .nil, r⟩
  | hd v r => exact ⟨.hd v .nil, r⟩
  | tup h1 h2 r => exact ⟨.tup h1 h2 .nil, r⟩
  | pr h1 h2 r => exact ⟨.pr h1 h2 .nil, r⟩
  | lst h1 h2 r => exact ⟨.lst h1 h2 .nil, r⟩
  | scr h1 r => exact ⟨.scr h1 .nil, r⟩
  | obj h1 h2 h3 h4 r => exact ⟨.obj h1 h2 h3 h4 .nil, r⟩
theorem Reps.cons (h : Rep K μ H v d) (r : Reps K μ H vs ds) : Reps K μ H (v :: vs) (d :: ds) := by
  cases h with
  | non _ => exact .non r
  | bl b _ => exact .bl b r
  | int i _ => exact .int i r
  | str x _ => exact .str x r
  | hd v _ => exact .hd v r
  | tup h1 h2 _ => exact .tup h1 h2 r
  | pr h1 h2 _ => exact .pr h1 h2 r
  | lst h1 h2 _ => exact .lst h1 h2 r
  | scr h1 _ => exact .scr h1 r
  | obj h1 h2 h3 h4 _ => exact .obj h1 h2 h3 h4 r
theorem Reps.get (h : Reps K μ H vs ds) : ∀ {i : Nat} {d : D}, ds[i]? = some d → ∃ v, vs[i]? = some v ∧ Rep K μ H v d := by
  intro i
  induction i generalizing vs ds with
  | zero =>
    intro d e
    cases ds with
    | nil => cases e
    | cons x r =>
      cases vs with
      | nil => have := h.length; simp at this
      | cons v vs =>
        cases e
        exact ⟨v, rfl, h.split.1⟩
  | succ i ih =>
    intro d e
    cases ds with
    | nil => cases e
    | cons x r =>
      cases vs with
      | nil => have := h.length; simp at this
      | cons v vs => exact ih h.split.2 e
theorem Reps.getV (h : Reps K μ H vs ds) {i : Nat} {v : V} (e : vs[i]? = some v) : ∃ d, ds[i]? = some d ∧ Rep K μ H v d := by
  have hi : i < ds.length := by rw [← h.length]; exact (List.getElem?_eq_some_iff.mp e).1
  obtain ⟨v', e', r⟩ := h.get (List.getElem?_eq_getElem hi)
  rw [e] at e'
  cases e'
  exact ⟨_, List.getElem?_eq_getElem hi, r⟩
theorem Reps.append (h : Reps K μ H vs ds) (r : Reps K μ H us es) : Reps K μ H (vs ++ us) (ds ++ es) := by
  induction vs generalizing ds with
  | nil => cases h; exact r
  | cons v vs ih =>
    cases ds with
    | nil => have := h.length; simp at this
    | cons d ds => exact .cons h.split.1 (ih h.split.2)
theorem Reps.take (h : Reps K μ H vs ds) : ∀ n, Reps K μ H (vs.take n) (ds.take n) := by
  intro n
  induction n generalizing vs ds with
  | zero => exact .nil
  | succ n ih =>
    cases ds with
    | nil =>
      cases vs with
      | nil => exact .nil
      | cons v vs => have := h.length; simp at this
    | cons d ds =>
      cases vs with
      | nil => have := h.length; simp at this
      | cons v vs => exact .cons h.split.1 (ih h.split.2)
theorem Reps.drop (h : Reps K μ H vs ds) : ∀ n, Reps K μ H (vs.drop n) (ds.drop n) := by
  intro n
  induction n generalizing vs ds with
  | zero => exact h
  | succ n ih =>
    cases ds with
    | nil =>
      cases vs with
      | nil => exact .nil
      | cons v vs => have := h.length; simp at this
    | cons d ds =>
      cases vs with
      | nil => have := h.length; simp at this
      | cons v vs => exact ih h.split.2
theorem Reps.set (h : Reps K μ H vs ds) (r : Rep K μ H v d) : ∀ j, Reps K μ H (vs.set j v) (ds.set j d) := by
  intro j
  induction j generalizing vs ds with
  | zero =>
    cases ds with
    | nil =>
      cases vs with
      | nil => exact .nil
      | cons v vs => have := h.length; simp at this
    | cons d ds =>
      cases vs with
      | nil => have := h.length; simp at this
      | cons v vs => exact .cons r h.split.2
  | succ n ih =>
    cases ds with
    | nil =>
      cases vs with
      | nil => exact .nil
      | cons v vs => have := h.length; simp at this
    | cons d ds =>
      cases vs with
      | nil => have := h.length; simp at this
      | cons v vs => exact .cons h.split.1 (ih h.split.2)
theorem Reps.reverse (h : Reps K μ H vs ds) : Reps K μ H vs.reverse ds.reverse := by
  induction vs generalizing ds with
  | nil => cases h; exact .nil
  | cons v vs ih =>
    cases ds with
    | nil => have := h.length; simp at this
    | cons d ds =>
      rw [List.reverse_cons, List.reverse_cons]
      exact (ih h.split.2).append (.cons h.split.1 .nil)
/-- all that stands still there, stands still here; nothing is gone -/
structure Evo (μ : Sto) (H : Hp) (μ' : Sto) (H' : Hp) : Prop where
  st : ∀ b o, H b = some o → NM μ b → H' b = some o ∧ NM μ' b
  th : ∀ b, H' b = none → H b = none
theorem Evo.refl : Evo μ H μ H := ⟨fun _ _ h n => ⟨h, n⟩, fun _ h => h⟩
theorem Evo.trans (a : Evo μ H μ' H') (b : Evo μ' H' μ'' H'') : Evo μ H μ'' H'' := ⟨fun c o h n => b.st c o (a.st c o h n).1 (a.st c o h n).2, fun c h => a.th c (b.th c h)⟩
theorem Evo.rd {a : Addr} {u : HO} (e : Evo μ H μ' H') (h : Rd H a u) (n : NM μ a) : Rd H' a u ∧ NM μ' a := by
  rcases h with h | ⟨o, h⟩
  · exact ⟨.inl (e.st a _ h n).1, (e.st a _ h n).2⟩
  · exact ⟨.inr ⟨o, (e.st a _ h n).1⟩, (e.st a _ h n).2⟩
theorem LstAt.mono {a : Addr} {xs : List V} (e : Evo μ H μ' H') (h : LstAt μ H a xs) : LstAt μ' H' a xs := e.st _ _ h.1 h.2
theorem ScrAt.mono {a : Addr} {xs : List V} (e : Evo μ H μ' H') (h : ScrAt K μ H a xs) : ScrAt K μ' H' a xs := by
  rcases h with ⟨h, n⟩ | h
  · exact .inl (e.rd h n)
  · exact .inr h
theorem TupAt.mono {a : Addr} {xs : List V} (e : Evo μ H μ' H') (h : TupAt K μ H a xs) : TupAt K μ' H' a xs := by
  rcases h with ⟨o, h, d, c, n⟩ | h
  · exact .inl ⟨o, (e.st a _ h n).1, d, c, (e.st a _ h n).2⟩
  · exact .inr h
theorem Reps.mono (e : Evo μ H μ' H') (h : Reps K μ H vs ds) : Reps K μ' H' vs ds := by
  induction h with
  | nil => exact .nil
  | non _ i => exact .non i
  | bl b _ i => exact .bl b i
  | int b _ i => exact .int b i
  | str b _ i => exact .str b i
  | hd b _ i => exact .hd b i
  | tup h1 _ _ i1 i2 => exact .tup (h1.mono e) i1 i2
  | pr h1 _ _ i1 i2 => exact .pr ⟨(e.rd h1.1 h1.2).1, (e.rd h1.1 h1.2).2⟩ i1 i2
  | lst h1 _ _ i1 i2 => exact .lst (h1.mono e) i1 i2
  | scr h1 _ i1 => exact .scr (h1.mono e) i1
  | obj h1 h2 h3 _ _ i1 i2 => exact .obj (e.st _ _ h1 h2).1 (e.st _ _ h1 h2).2 h3 i1 i2
/-- what is said of the handles holds of the heap -/
def CellOk (K : Fg) (μ : Sto) (H : Hp) (a : Addr) : Cell → Prop
  | .lst ds => ∃ vs, H a = some (.lst vs) ∧ Reps K μ H vs ds
  | .frz ds => ∃ vs, H a = some (.lst vs) ∧ Reps K μ H vs ds
  | .ins C ns ds => ∃ dx us, H a = some (.ins C dx (ns.zip us)) ∧ us.length = ns.length ∧ Reps K μ H us ds
  | .rng lo hi => H a = some (.rng lo hi)
def StoOk (K : Fg) (μ : Sto) (H : Hp) : Prop := ∀ a c, μ a = some c → CellOk K μ H a c
theorem CellOk.there {a : Addr} {c : Cell} (h : CellOk K μ H a c) : ∃ o, H a = some o := by
  cases c with
  | lst ds => obtain ⟨_, e, _⟩ := h; exact ⟨_, e⟩
  | frz ds => obtain ⟨_, e, _⟩ := h; exact ⟨_, e⟩
  | ins C ns ds => obtain ⟨_, _, e, _⟩ := h; exact ⟨_, e⟩
  | rng lo hi => exact ⟨_, h⟩
theorem StoOk.fresh {p : Addr} (s : StoOk K μ H) (h : H p = none) : μ p = none := by
  cases e : μ p with
  | none => rfl
  | some c =>
    obtain ⟨o, q⟩ := (s p c e).there
    rw [h] at q
    cases q
theorem CellOk.mono {a : Addr} {c : Cell} (e : Evo μ H μ' H') (hs : ∀ o, H a = some o → H' a = some o) (h : CellOk K μ H a c) : CellOk K μ' H' a c := by
  cases c with
  | lst ds => obtain ⟨vs, q, r⟩ := h; exact ⟨vs, hs _ q, r.mono e⟩
  | frz ds => obtain ⟨vs, q, r⟩ := h; exact ⟨vs, hs _ q, r.mono e⟩
  | ins C ns ds => obtain ⟨dx, us, q, l, r⟩ := h; exact ⟨dx, us, hs _ q, l, r.mono e⟩
  | rng lo hi => exact hs _ h
/-- a new object -/
theorem upd_th {p : Addr} {o : HO} {b : Addr} (h : upd H p o b = none) : H b = none := by
  by_cases e : b = p
  · subst e; rw [upd_same] at h; cases h
  · rw [upd_ne e] at h; exact h
theorem Evo.new {p : Addr} {o : HO} (h : H p = none) : Evo μ H μ (upd H p o) := ⟨fun b u e n => ⟨by rw [upd_ne (ne_of_none e h)]; exact e, n⟩, fun b q => upd_th q⟩
theorem StoOk.new {p : Addr} {o : HO} (s : StoOk K μ H) (h : H p = none) : StoOk K μ (upd H p o) := fun a c e =>
  (s a c e).mono (.new h) fun u q => by rw [upd_ne (ne_of_none q h)]; exact q
theorem NM.new {p : Addr} (s : StoOk K μ H) (h : H p = none) : NM μ p := .of (s.fresh h)
/-- a new object that has a cell -/
theorem Evo.newC {p : Addr} {o : HO} {c : Cell} (s : StoOk K μ H) (h : H p = none) : Evo μ H (sset μ p c) (upd H p o) := ⟨fun b u e n => by
  have hb : b ≠ p := ne_of_none e h
  refine ⟨by rw [upd_ne hb]; exact e, ?_⟩
  unfold NM
  rw [sset_ne hb]
  exact n, fun b q => upd_th q⟩
/-- the cell at p changes; nothing else does -/
theorem Evo.cell {p : Addr} {o : HO} {c c' : Cell} (hp : μ p = some c) (hn : ¬ NM μ p) : Evo μ H (sset μ p c') (upd H p o) := ⟨fun b u e n => by
  have hb : b ≠ p := fun q => hn (q ▸ n)
  refine ⟨by rw [upd_ne hb]; exact e, ?_⟩
  unfold NM
  rw [sset_ne hb]
  exact n, fun b q => upd_th q⟩
theorem StoOk.cell {p : Addr} {o : HO} {c' : Cell} (s : StoOk K μ H) (e : Evo μ H (sset μ p c') (upd H p o)) (h : CellOk K (sset μ p c') (upd H p o) p c') : StoOk K (sset μ p c') (upd H p o) := fun a x q => by
  by_cases ha : a = p
  · subst ha
    rw [sset_same] at q
    cases q
    exact h
  · rw [sset_ne ha] at q
    exact (s a x q).mono e fun u z => by rw [upd_ne ha]; exact z
/-- a list comes to rest -/
theorem Evo.rest {p : Addr} {ds : List D} (hp : μ p = some (.lst ds)) : Evo μ H (sset μ p (.frz ds)) H := ⟨fun b u e n => by
  have hb : b ≠ p := fun q => by subst q; exact n.notL hp
  refine ⟨e, ?_⟩
  unfold NM
  rw [sset_ne hb]
  exact n, fun _ q => q⟩
theorem StoOk.rest {p : Addr} {ds : List D} (s : StoOk K μ H) (hp : μ p = some (.lst ds)) : StoOk K (sset μ p (.frz ds)) H := fun a x q => by
  by_cases ha : a = p
  · subst ha
    rw [sset_same] at q
    cases q
    exact (s a _ hp).mono (.rest hp) fun _ z => z
  · rw [sset_ne ha] at q
    exact (s a x q).mono (.rest hp) fun _ z => z
/-- fewer cells -/
def Sub (μ μ' : Sto) : Prop := ∀ a c, μ a = some c → μ' a = some c
theorem Sub.refl : Sub μ μ := fun _ _ h => h
theorem Sub.trans (a : Sub μ μ') (b : Sub μ' μ'') : Sub μ μ'' := fun c x h => b c x (a c x h)
theorem Sub.set {p : Addr} {c : Cell} (s : Sub μ μ') (h : μ p = none) : Sub μ (sset μ' p c) := fun a x e => by
  have : a ≠ p := fun q => by subst q; rw [h] at e; cases e
  rw [sset_ne this]
  exact s a x e
theorem Sub.none {p : Addr} (s : Sub μ μ') (h : μ' p = none) : μ p = none := by
  cases e : μ p with
  | none => rfl
  | some c => rw [s p c e] at h; cases h
theorem Sub.nm {a : Addr} (s : Sub μ μ') (h : NM μ' a) : NM μ a := by
  unfold NM at h ⊢
  cases e : μ a with
  | none => exact trivial
  | some c => rw [s a c e] at h; exact h
theorem Sub.evo (s : Sub μ' μ) : Evo μ H μ' H := ⟨fun b o e n => ⟨e, s.nm n⟩, fun _ q => q⟩
/-- without the cell at p -/
def sdel (μ : Sto) (p : Addr) : Sto := fun b => if b = p then none else μ b
theorem sdel_sub {p : Addr} : Sub (sdel μ p) μ := fun a c e => by
  unfold sdel at e
  split at e
  · cases e
  · exact e
theorem sdel_sset {p : Addr} {c : Cell} (h : μ p = none) : sdel (sset μ p c) p = μ := by
  funext b; unfold sdel sset; by_cases e : b = p
  · subst e; rw [if_pos rfl, h]
  · rw [if_neg e, if_neg e]
theorem sdel_same {p : Addr} : sdel μ p p = none := by unfold sdel; rw [if_pos rfl]
theorem Sub.sto (s : Sub μ' μ) (h : StoOk K μ H) : StoOk K μ' H := fun a c e => (h a c (s a c e)).mono s.evo fun _ z => z
/-- the names' values -/
abbrev DEnv := List (Option D)
structure EnvOk (K : Fg) (μ : Sto) (H : Hp) (σ : St) (δ : DEnv) : Prop where
  len : σ.length = δ.length
  at_ : ∀ (i : Nat) (d : D), δ[i]? = some (some d) → ∃ v, σ[i]? = some (some v) ∧ Rep K μ H v d
theorem EnvOk.mono {σ : St} {δ : DEnv} (e : Evo μ H μ' H') (h : EnvOk K μ H σ δ) : EnvOk K μ' H' σ δ := ⟨h.len, fun i d q => by
  obtain ⟨v, a, b⟩ := h.at_ i d q
  exact ⟨v, a, b.mono e⟩⟩
theorem EnvOk.set {σ : St} {δ : DEnv} (h : EnvOk K μ H σ δ) (r : Rep K μ H v d) (j : Nat) : EnvOk K μ H (σ.set j (some v)) (δ.set j (some d)) := ⟨by rw [List.length_set, List.length_set]; exact h.len, fun i x q => by
  rw [List.getElem?_set] at q
  rw [List.getElem?_set]
  by_cases hj : j = i
  · rw [if_pos hj] at q ⊢
    rw [h.len]
    by_cases hl : j < δ.length
    · rw [if_pos hl] at q ⊢
      cases q
      exact ⟨v, rfl, r⟩
    · rw [if_neg hl] at q
      cases q
  · rw [if_neg hj] at q ⊢
    exact h.at_ i x q⟩
/-- what is known where one stands -/
structure Sm (K : Fg) (H0 : Hp) (μ0 : Sto) (σ : St) (H : Hp) (δ : DEnv) (μ : Sto) : Prop where
  evo : Evo μ0 H0 μ H
  sto : StoOk K μ H
  env : EnvOk K μ H σ δ
theorem Sm.step {H0 : Hp} {μ0 : Sto} {σ : St} {δ : DEnv} (S : Sm K H0 μ0 σ H δ μ) (e : Evo μ H μ' H') (s : StoOk K μ' H') : Sm K H0 μ0 σ H' δ μ' := ⟨S.evo.trans e, s, S.env.mono e⟩
theorem Sm.set {H0 : Hp} {μ0 : Sto} {σ : St} {δ : DEnv} (S : Sm K H0 μ0 σ H δ μ) (r : Rep K μ H v d) (j : Nat) : Sm K H0 μ0 (σ.set j (some v)) H (δ.set j (some d)) μ := ⟨S.evo, S.sto, S.env.set r j⟩
end
end DW
set_option Elab.async false
set_option linter.all false
set_option maxRecDepth 100000
namespace DW
open PySem PySem.Spec L2
/-- an exception that is on its way: its class, its own fields -/
inductive XD where
  | mk (C : Addr) (fs : Option (List Str × List D))
abbrev XP := XD → DEnv → Sto → Prop
abbrev DK := D → Sto → Prop
def RepX (K : Fg) (μ : Sto) (H : Hp) (cls : Value) (dd : Option Addr) : XD → Prop
  | .mk C none => cls = .ref C ∧ dd = none
  | .mk C (some (ns, ds)) => cls = .ref C ∧ ∃ d us, dd = some d ∧ H d = some (.xd (ns.zip us)) ∧ NM μ d ∧ us.length = ns.length ∧ Reps K μ H us ds
/-- where a piece of code stands: the written part, the heap and the handles at the entry, what is wished of exceptions -/
structure Bx (K : Fg) where
  H0 : Hp
  μ0 : Sto
  W : WX
  Ψ : XP
  hW : ∀ cls dd σ H x δ μ, Sm K H0 μ0 σ H δ μ → RepX K μ H cls dd x → Ψ x δ μ → W cls dd σ H
/-- the same, from a later moment on -/
abbrev Bx.re {K : Fg} (B : Bx K) (H1 : Hp) (μ1 : Sto) (e : Evo B.μ0 B.H0 μ1 H1) : Bx K := ⟨H1, μ1, B.W, B.Ψ, fun cls dd σ H x δ μ S => B.hW cls dd σ H x δ μ ⟨e.trans S.evo, S.sto, S.env⟩⟩
abbrev DE := XP → DEnv → Sto → DK → Prop
abbrev DA := XP → DEnv → Sto → (List D → Sto → Prop) → Prop
abbrev DT := XP → DEnv → Sto → (Bool → Sto → Prop) → Prop
structure DEnds where
  nx : DEnv → Sto → Prop
  rt : D → Sto → Prop
  bk : DEnv → Sto → Prop
  ct : DEnv → Sto → Prop
abbrev DSt := XP → DEnds → DEnv → Sto → Prop
section
variable {K : Fg} (B : Bx K)
abbrev Bx.S {K : Fg} (B : Bx K) (σ : L2.St) (H : Hp) (δ : DEnv) (μ : Sto) : Prop := Sm K B.H0 B.μ0 σ H δ μ
/-- the reading te follows from the data's reading φ -/
def SE (te : TE) (φ : DE) : Prop := ∀ (σ : L2.St) (H : Hp) (δ : DEnv) (μ : Sto) (Φ : DK) (Q : VK), B.S σ H δ μ → φ B.Ψ δ μ Φ →
  (∀ v H' d μ', B.S σ H' δ μ' → Evo μ H μ' H' → Rep K μ' H' v d → Φ d μ' → Q v H') → te σ H Q
def SA (ta : TA) (φ : DA) : Prop := ∀ (σ : L2.St) (H : Hp) (δ : DEnv) (μ : Sto) (Φ : List D → Sto → Prop) (Q : List V → Hp → Prop), B.S σ H δ μ → φ B.Ψ δ μ Φ →
  (∀ vs H' ds μ', B.S σ H' δ μ' → Evo μ H μ' H' → Reps K μ' H' vs ds → Φ ds μ' → Q vs H') → ta σ H Q
def ST (tt : TT) (φ : DT) : Prop := ∀ (σ : L2.St) (H : Hp) (δ : DEnv) (μ : Sto) (Φ : Bool → Sto → Prop) (Q : Bool → Hp → Prop), B.S σ H δ μ → φ B.Ψ δ μ Φ →
  (∀ b H' μ', B.S σ H' δ μ' → Evo μ H μ' H' → Φ b μ' → Q b H') → tt σ H Q
structure EO (D : Ends) (Δ : DEnds) : Prop where
  nx : ∀ σ H δ μ, B.S σ H δ μ → Δ.nx δ μ → D.nx σ H
  rt : ∀ v H d μ σ δ, B.S σ H δ μ → Rep K μ H v d → Δ.rt d μ → D.rt v H
  bk : ∀ σ H δ μ, B.S σ H δ μ → Δ.bk δ μ → D.bk σ H
  ct : ∀ σ H δ μ, B.S σ H δ μ → Δ.ct δ μ → D.ct σ H
def SS (ts : TS) (φ : DSt) : Prop := ∀ (D : Ends) (Δ : DEnds) (σ : L2.St) (H : Hp) (δ : DEnv) (μ : Sto), EO B D Δ → B.S σ H δ μ → φ B.Ψ Δ δ μ → ts D σ H
end
section
variable {K : Fg} {B : Bx K} {te ta tb tc : TE} {φ φa φb φc : DE} {tt tu : TT} {θ ϑ : DT} {tas : TA} {ψ : DA} {ts tz : TS} {ω ζ : DSt}
def dVar (i : Nat) : DE := fun _ δ μ Φ => ∃ d, δ[i]? = some (some d) ∧ Φ d μ
theorem sVar {i : Nat} : SE B (tVar i) (dVar i) := fun σ H δ μ Φ Q S h k => by
  obtain ⟨d, e, h⟩ := h
  obtain ⟨v, ev, r⟩ := S.env.at_ i d e
  exact ⟨v, ev, k v H d μ S .refl r h⟩
/-- a name that holds a list's handle, read as the list: it changes no more -/
def dRest (i : Nat) : DE := fun _ δ μ Φ => ∃ a ds, δ[i]? = some (some (.hd (.ref a))) ∧ μ a = some (.lst ds) ∧ Φ (.lst ds) (sset μ a (.frz ds))
theorem Rep.hd_inv {K : Fg} {μ : Sto} {H : Hp} {v w : V} (h : Rep K μ H v (.hd w)) : v = w := by cases h; rfl
theorem sRest {i : Nat} : SE B (tVar i) (dRest i) := fun σ H δ μ Φ Q S h k => by
  obtain ⟨a, ds, e, hm, h⟩ := h
  obtain ⟨v, ev, r⟩ := S.env.at_ i _ e
  obtain rfl := Rep.hd_inv r
  have ev2 : Evo μ H (sset μ a (.frz ds)) H := .rest hm
  have st2 := S.sto.rest hm
  obtain ⟨vs, q1, q2⟩ := st2 a _ sset_same
  exact ⟨_, ev, k _ H _ _ (S.step ev2 st2) ev2 (.lst ⟨q1, .frz sset_same⟩ q2 .nil) h⟩
def dC (d : D) : DE := fun _ _ μ Φ => Φ d μ
theorem sC {v : V} {d : D} (r : ∀ K μ H, Rep K μ H v d) : SE B (tC v) (dC d) := fun σ H δ μ Φ Q S h k => k v H d μ S .refl (r _ _ _) h
theorem sInt {i : Int} : SE B (tC (.int i)) (dC (.int i)) := sC fun _ _ _ => .int i .nil
theorem sStr {x : Str} : SE B (tC (.str x)) (dC (.str x)) := sC fun _ _ _ => .str x .nil
theorem sBl {b : Bool} : SE B (tC (.bl b)) (dC (.bl b)) := sC fun _ _ _ => .bl b .nil
theorem sNon : SE B (tC .non) (dC .non) := sC fun _ _ _ => .non .nil
theorem sHd {v : V} : SE B (tC v) (dC (.hd v)) := sC fun _ _ _ => .hd v .nil
/-- an operator by data -/
abbrev DO := D → D → Sto → DK → Prop
def RO (K : Fg) (r : R2) (ρ : DO) : Prop := ∀ (H : Hp) (μ : Sto) (v w : V) (d e : D) (Φ : DK) (Q : VK), StoOk K μ H → Rep K μ H v d → Rep K μ H w e → ρ d e μ Φ →
  (∀ z H' c μ', Evo μ H μ' H' → StoOk K μ' H' → Rep K μ' H' z c → Φ c μ' → Q z H') → r v w H Q
def dOp (ρ : DO) (φa φb : DE) : DE := fun Ψ δ μ Φ => φa Ψ δ μ fun x μ1 => φb Ψ δ μ1 fun y μ2 => ρ x y μ2 Φ
theorem sOp {r : R2} {ρ : DO} (h : RO K r ρ) (a : SE B ta φa) (b : SE B tb φb) : SE B (tOp r ta tb) (dOp ρ φa φb) := fun σ H δ μ Φ Q S q k =>
  a σ H δ μ _ _ S q fun v H1 x μ1 S1 e1 r1 q1 => b σ H1 δ μ1 _ _ S1 q1 fun w H2 y μ2 S2 e2 r2 q2 =>
    h H2 μ2 v w x y Φ Q S2.sto (Reps.mono e2 r1) r2 q2 fun z H3 c μ3 e3 s3 r3 p => k z H3 c μ3 (S2.step e3 s3) ((e1.trans e2).trans e3) r3 p
abbrev DU := D → Sto → DK → Prop
def RU (K : Fg) (r : V → Hp → VK → Prop) (ρ : DU) : Prop := ∀ (H : Hp) (μ : Sto) (v : V) (d : D) (Φ : DK) (Q : VK), StoOk K μ H → Rep K μ H v d → ρ d μ Φ →
  (∀ z H' c μ', Evo μ H μ' H' → StoOk K μ' H' → Rep K μ' H' z c → Φ c μ' → Q z H') → r v H Q
def dUn (ρ : DU) (φa : DE) : DE := fun Ψ δ μ Φ => φa Ψ δ μ fun x μ1 => ρ x μ1 Φ
theorem sUn {r : V → Hp → VK → Prop} {ρ : DU} (h : RU K r ρ) (a : SE B ta φa) : SE B (tUn r ta) (dUn ρ φa) := fun σ H δ μ Φ Q S q k =>
  a σ H δ μ _ _ S q fun v H1 x μ1 S1 e1 r1 q1 => h H1 μ1 v x Φ Q S1.sto r1 q1 fun z H3 c μ3 e3 s3 r3 p => k z H3 c μ3 (S1.step e3 s3) (e1.trans e3) r3 p
def dTest (φ : DE) : DT := fun Ψ δ μ Φ => φ Ψ δ μ fun x μ1 => ∃ b, x = .bl b ∧ Φ b μ1
theorem Rep.bl_inv {K : Fg} {μ : Sto} {H : Hp} {v : V} {b : Bool} (h : Rep K μ H v (.bl b)) : v = .bl b := by cases h; rfl
theorem Rep.int_inv {K : Fg} {μ : Sto} {H : Hp} {v : V} {b : Int} (h : Rep K μ H v (.int b)) : v = .int b := by cases h; rfl
theorem Rep.non_inv {K : Fg} {μ : Sto} {H : Hp} {v : V} (h : Rep K μ H v .non) : v = .non := by cases h; rfl
theorem sTest (a : SE B ta φa) : ST B (tTest ta) (dTest φa) := fun σ H δ μ Φ Q S q k =>
  a σ H δ μ _ _ S q fun v H1 x μ1 S1 e1 r1 q1 => by
    obtain ⟨b, rfl, q2⟩ := q1
    obtain rfl := Rep.bl_inv r1
    exact ⟨b, rfl, k b H1 μ1 S1 e1 q2⟩
theorem sB (a : SE B ta φa) : ST B (tB ta) (dTest φa) := fun σ H δ μ Φ Q S q k =>
  a σ H δ μ _ _ S q fun v H1 x μ1 S1 e1 r1 q1 => by
    obtain ⟨b, rfl, q2⟩ := q1
    obtain rfl := Rep.bl_inv r1
    exact ⟨b, rfl, k b H1 μ1 S1 e1 q2⟩
def dAnd (θ ϑ : DT) : DT := fun Ψ δ μ Φ => θ Ψ δ μ fun b μ1 => (b = true → ϑ Ψ δ μ1 Φ) ∧ (b = false → Φ false μ1)
def dOr (θ ϑ : DT) : DT := fun Ψ δ μ Φ => θ Ψ δ μ fun b μ1 => (b = true → Φ true μ1) ∧ (b = false → ϑ Ψ δ μ1 Φ)
def dNot (θ : DT) : DT := fun Ψ δ μ Φ => θ Ψ δ μ fun b μ1 => Φ (!b) μ1
theorem sAnd (a : ST B tt θ) (b : ST B tu ϑ) : ST B (tAnd tt tu) (dAnd θ ϑ) := fun σ H δ μ Φ Q S q k =>
  a σ H δ μ _ _ S q fun v H1 μ1 S1 e1 q1 => by
    cases v with
    | true => exact b σ H1 δ μ1 _ _ S1 (q1.1 rfl) fun w H2 μ2 S2 e2 q2 => k w H2 μ2 S2 (e1.trans e2) q2
    | false => exact k false H1 μ1 S1 e1 (q1.2 rfl)
theorem sOr (a : ST B tt θ) (b : ST B tu ϑ) : ST B (tOr tt tu) (dOr θ ϑ) := fun σ H δ μ Φ Q S q k =>
  a σ H δ μ _ _ S q fun v H1 μ1 S1 e1 q1 => by
    cases v with
    | true => exact k true H1 μ1 S1 e1 (q1.1 rfl)
    | false => exact b σ H1 δ μ1 _ _ S1 (q1.2 rfl) fun w H2 μ2 S2 e2 q2 => k w H2 μ2 S2 (e1.trans e2) q2
theorem sNot (a : ST B tt θ) : ST B (tNot tt) (dNot θ) := fun σ H δ μ Φ Q S q k =>
  a σ H δ μ _ _ S q fun v H1 μ1 S1 e1 q1 => k (!v) H1 μ1 S1 e1 q1
def dAndV (φa φb : DE) : DE := fun Ψ δ μ Φ => φa Ψ δ μ fun x μ1 => ∃ b, x = .bl b ∧ (b = true → φb Ψ δ μ1 Φ) ∧ (b = false → Φ (.bl false) μ1)
def dOrV (φa φb : DE) : DE := fun Ψ δ μ Φ => φa Ψ δ μ fun x μ1 => ∃ b, x = .bl b ∧ (b = true → Φ (.bl true) μ1) ∧ (b = false → φb Ψ δ μ1 Φ)
def dNotV (φa : DE) : DE := fun Ψ δ μ Φ => φa Ψ δ μ fun x μ1 => ∃ b, x = .bl b ∧ Φ (.bl (!b)) μ1
theorem sAndV (a : SE B ta φa) (b : SE B tb φb) : SE B (tAndV ta tb) (dAndV φa φb) := fun σ H δ μ Φ Q S q k =>
  a σ H δ μ _ _ S q fun v H1 x μ1 S1 e1 r1 q1 => by
    obtain ⟨c, rfl, q2, q3⟩ := q1
    obtain rfl := Rep.bl_inv r1
    refine ⟨c, rfl, ?_⟩
    cases c with
    | true => exact b σ H1 δ μ1 _ _ S1 (q2 rfl) fun w H2 y μ2 S2 e2 r2 p => k w H2 y μ2 S2 (e1.trans e2) r2 p
    | false => exact k _ H1 _ μ1 S1 e1 (.bl false .nil) (q3 rfl)
theorem sOrV (a : SE B ta φa) (b : SE B tb φb) : SE B (tOrV ta tb) (dOrV φa φb) := fun σ H δ μ Φ Q S q k =>
  a σ H δ μ _ _ S q fun v H1 x μ1 S1 e1 r1 q1 => by
    obtain ⟨c, rfl, q2, q3⟩ := q1
    obtain rfl := Rep.bl_inv r1
    refine ⟨c, rfl, ?_⟩
    cases c with
    | true => exact k _ H1 _ μ1 S1 e1 (.bl true .nil) (q2 rfl)
    | false => exact b σ H1 δ μ1 _ _ S1 (q3 rfl) fun w H2 y μ2 S2 e2 r2 p => k w H2 y μ2 S2 (e1.trans e2) r2 p
theorem sNotV (a : SE B ta φa) : SE B (tNotV ta) (dNotV φa) := fun σ H δ μ Φ Q S q k =>
  a σ H δ μ _ _ S q fun v H1 x μ1 S1 e1 r1 q1 => by
    obtain ⟨c, rfl, q2⟩ := q1
    obtain rfl := Rep.bl_inv r1
    exact ⟨c, rfl, k _ H1 _ μ1 S1 e1 (.bl _ .nil) q2⟩
def dIf (θ : DT) (φa φb : DE) : DE := fun Ψ δ μ Φ => θ Ψ δ μ fun b μ1 => (b = true → φa Ψ δ μ1 Φ) ∧ (b = false → φb Ψ δ μ1 Φ)
theorem sIf (c : ST B tt θ) (a : SE B ta φa) (b : SE B tb φb) : SE B (tIf tt ta tb) (dIf θ φa φb) := fun σ H δ μ Φ Q S q k =>
  c σ H δ μ _ _ S q fun v H1 μ1 S1 e1 q1 => by
    cases v with
    | true => exact a σ H1 δ μ1 _ _ S1 (q1.1 rfl) fun w H2 y μ2 S2 e2 r2 p => k w H2 y μ2 S2 (e1.trans e2) r2 p
    | false => exact b σ H1 δ μ1 _ _ S1 (q1.2 rfl) fun w H2 y μ2 S2 e2 r2 p => k w H2 y μ2 S2 (e1.trans e2) r2 p
/-- a comparison of three -/
def dChain (ρ ρ' : DO) (φa φb φc : DE) : DE := fun Ψ δ μ Φ => φa Ψ δ μ fun x μ1 => φb Ψ δ μ1 fun y μ2 => ρ x y μ2 fun z μ3 => ∃ b, z = .bl b ∧ (b = true → φc Ψ δ μ3 fun u μ4 => ρ' y u μ4 Φ) ∧ (b = false → Φ (.bl false) μ3)
theorem sChain {r r' : R2} {ρ ρ' : DO} (h : RO K r ρ) (h' : RO K r' ρ') (a : SE B ta φa) (b : SE B tb φb) (c : SE B tc φc) : SE B (tChain r r' ta tb tc) (dChain ρ ρ' φa φb φc) := fun σ H δ μ Φ Q S q k =>
  a σ H δ μ _ _ S q fun v H1 x μ1 S1 e1 r1 q1 => b σ H1 δ μ1 _ _ S1 q1 fun w H2 y μ2 S2 e2 r2 q2 =>
    h H2 μ2 v w x y _ _ S2.sto (Reps.mono e2 r1) r2 q2 fun z H3 d μ3 e3 s3 r3 p => by
      obtain ⟨i, rfl, p1, p2⟩ := p
      obtain rfl := Rep.bl_inv r3
      refine ⟨i, rfl, ?_⟩
      have S3 := S2.step e3 s3
      cases i with
      | true =>
        exact c σ H3 δ μ3 _ _ S3 (p1 rfl) fun w4 H4 y4 μ4 S4 e4 r4 p4 =>
          h' H4 μ4 w w4 y y4 _ _ S4.sto (Reps.mono (e3.trans e4) r2) r4 p4 fun z5 H5 d5 μ5 e5 s5 r5 p5 => k z5 H5 d5 μ5 (S4.step e5 s5) (((e1.trans e2).trans e3).trans (e4.trans e5)) r5 p5
      | false => exact k _ H3 _ μ3 S3 ((e1.trans e2).trans e3) (.bl false .nil) (p2 rfl)
def dNil : DA := fun _ _ μ Φ => Φ [] μ
def dCons (φ : DE) (ψ : DA) : DA := fun Ψ δ μ Φ => φ Ψ δ μ fun x μ1 => ψ Ψ δ μ1 fun xs μ2 => Φ (x :: xs) μ2
theorem sNil : SA B tNil dNil := fun σ H δ μ Φ Q S q k => k [] H [] μ S .refl .nil q
theorem sCons (a : SE B ta φa) (b : SA B tas ψ) : SA B (tCons ta tas) (dCons φa ψ) := fun σ H δ μ Φ Q S q k =>
  a σ H δ μ _ _ S q fun v H1 x μ1 S1 e1 r1 q1 => b σ H1 δ μ1 _ _ S1 q1 fun vs H2 xs μ2 S2 e2 r2 q2 => k _ H2 _ μ2 S2 (e1.trans e2) (.cons (Reps.mono e2 r1) r2) q2
def dTup (ψ : DA) : DE := fun Ψ δ μ Φ => ψ Ψ δ μ fun xs μ1 => xs.length ≤ 100000 ∧ Φ (.tup xs) μ1
theorem rep_tup {K : Fg} {μ : Sto} {H : Hp} {p : Addr} {vs : List V} {ds : List D} (s : StoOk K μ H) (hp : H p = none) (r : Reps K μ H vs ds) : Rep K μ (upd H p (.tup vs)) (.ref p) (.pr ds) :=
  .pr ⟨.inl upd_same, .new s hp⟩ (r.mono (.new hp)) .nil
theorem rep_tupN {K : Fg} {μ : Sto} {H : Hp} {p : Addr} {o : Obj} {vs : List V} {ds : List D} (s : StoOk K μ H) (hp : H p = none) (ho : o.dict = none) (hc : o.cls = .type "tuple") (r : Reps K μ H vs ds) : Rep K μ (upd H p (.frz o (.tup vs))) (.ref p) (.tup ds) :=
  .tup (.inl ⟨o, upd_same, ho, hc, .new s hp⟩) (r.mono (.new hp)) .nil
theorem rep_lst {K : Fg} {μ : Sto} {H : Hp} {p : Addr} {vs : List V} {ds : List D} (s : StoOk K μ H) (hp : H p = none) (r : Reps K μ H vs ds) : Rep K μ (upd H p (.lst vs)) (.ref p) (.lst ds) :=
  .lst ⟨upd_same, .new s hp⟩ (r.mono (.new hp)) .nil
theorem sz {n : Nat} (h : n ≤ 100000) : n ≤ sizeLine := Nat.le_trans h (by decide)
theorem sTup (b : SA B tas ψ) : SE B (tTupN tas) (dTup ψ) := fun σ H δ μ Φ Q S q k =>
  b σ H δ μ _ _ S q fun vs H1 xs μ1 S1 e1 r1 q1 => ⟨sz (by rw [r1.length]; exact q1.1), fun p o ho hc hp => k _ _ _ μ1 (S1.step (.new hp) (S1.sto.new hp)) (e1.trans (.new hp)) (rep_tupN S1.sto hp ho hc r1) q1.2⟩
def dLst (ψ : DA) : DE := fun Ψ δ μ Φ => ψ Ψ δ μ fun xs μ1 => xs.length ≤ 100000 ∧ Φ (.lst xs) μ1
theorem sLst (b : SA B tas ψ) : SE B (tLst tas) (dLst ψ) := fun σ H δ μ Φ Q S q k =>
  b σ H δ μ _ _ S q fun vs H1 xs μ1 S1 e1 r1 q1 => ⟨sz (by rw [r1.length]; exact q1.1), fun p hp => k _ _ _ μ1 (S1.step (.new hp) (S1.sto.new hp)) (e1.trans (.new hp)) (rep_lst S1.sto hp r1) q1.2⟩
/-- a list that will change: its handle -/
def dOwn (ψ : DA) : DE := fun Ψ δ μ Φ => ψ Ψ δ μ fun xs μ1 => xs.length ≤ 100000 ∧ ∀ p, μ1 p = none → Φ (.hd (.ref p)) (sset μ1 p (.lst xs))
theorem sto_own {K : Fg} {μ : Sto} {H : Hp} {p : Addr} {vs : List V} {ds : List D} (s : StoOk K μ H) (hp : H p = none) (r : Reps K μ H vs ds) : StoOk K (sset μ p (.lst ds)) (upd H p (.lst vs)) :=
  s.cell (.newC s hp) ⟨vs, upd_same, r.mono (.newC s hp)⟩
theorem sOwn (b : SA B tas ψ) : SE B (tLst tas) (dOwn ψ) := fun σ H δ μ Φ Q S q k =>
  b σ H δ μ _ _ S q fun vs H1 xs μ1 S1 e1 r1 q1 => ⟨sz (by rw [r1.length]; exact q1.1), fun p hp =>
    k _ _ _ _ (S1.step (.newC S1.sto hp) (sto_own S1.sto hp r1)) (e1.trans (.newC S1.sto hp)) (.hd _ .nil) (q1.2 p (S1.sto.fresh hp))⟩
def dSeq (ω ζ : DSt) : DSt := fun Ψ Δ δ μ => ω Ψ { Δ with nx := ζ Ψ Δ } δ μ
theorem sSeq (a : SS B ts ω) (b : SS B tz ζ) : SS B (tSeq ts tz) (dSeq ω ζ) := fun D Δ σ H δ μ E S q =>
  a { D with nx := tz D } { Δ with nx := ζ B.Ψ Δ } σ H δ μ ⟨fun σ' H' δ' μ' S' q' => b D Δ σ' H' δ' μ' E S' q', E.rt, E.bk, E.ct⟩ S q
def dNext : DSt := fun _ Δ δ μ => Δ.nx δ μ
theorem sNext : SS B tNext dNext := fun D Δ σ H δ μ E S q => E.nx σ H δ μ S q
def dBreak : DSt := fun _ Δ δ μ => Δ.bk δ μ
def dCont : DSt := fun _ Δ δ μ => Δ.ct δ μ
def dDrop (φ : DE) : DSt := fun Ψ Δ δ μ => φ Ψ δ μ fun _ μ1 => Δ.nx δ μ1
theorem sDrop (a : SE B ta φa) : SS B (tDrop ta) (dDrop φa) := fun D Δ σ H δ μ E S q => a σ H δ μ _ _ S q fun v H1 x μ1 S1 e1 r1 q1 => E.nx σ H1 δ μ1 S1 q1
def dRet (φ : DE) : DSt := fun Ψ Δ δ μ => φ Ψ δ μ Δ.rt
theorem sRet (a : SE B ta φa) : SS B (tRet ta) (dRet φa) := fun D Δ σ H δ μ E S q => a σ H δ μ _ _ S q fun v H1 x μ1 S1 e1 r1 q1 => E.rt v H1 x μ1 σ δ S1 r1 q1
def dRetN : DSt := fun _ Δ δ μ => Δ.rt .non μ
def dIfS (θ : DT) (ω ζ : DSt) : DSt := fun Ψ Δ δ μ => θ Ψ δ μ fun b μ1 => (b = true → ω Ψ Δ δ μ1) ∧ (b = false → ζ Ψ Δ δ μ1)
theorem sIfS (c : ST B tt θ) (a : SS B ts ω) (b : SS B tz ζ) : SS B (tIfS tt ts tz) (dIfS θ ω ζ) := fun D Δ σ H δ μ E S q =>
  c σ H δ μ _ _ S q fun v H1 μ1 S1 e1 q1 => by
    cases v with
    | true => exact a D Δ σ H1 δ μ1 E S1 (q1.1 rfl)
    | false => exact b D Δ σ H1 δ μ1 E S1 (q1.2 rfl)
/-- targets -/
abbrev DG := D → DEnv → Sto → (DEnv → Sto → Prop) → Prop
def SG {K : Fg} (B : Bx K) (g : TG) (γ : DG) : Prop := ∀ (v : V) (d : D) (σ : L2.St) (H : Hp) (δ : DEnv) (μ : Sto) (Φ : DEnv → Sto → Prop) (Q : L2.St → Hp → Prop), B.S σ H δ μ → Rep K μ H v d → γ d δ μ Φ →
  (∀ σ' H' δ' μ', B.S σ' H' δ' μ' → Evo μ H μ' H' → Φ δ' μ' → Q σ' H') → g v σ H Q
def SGs {K : Fg} (B : Bx K) (g : TGs) (γ : List D → DEnv → Sto → (DEnv → Sto → Prop) → Prop) : Prop := ∀ (v : List V) (d : List D) (σ : L2.St) (H : Hp) (δ : DEnv) (μ : Sto) (Φ : DEnv → Sto → Prop) (Q : L2.St → Hp → Prop), B.S σ H δ μ → Reps K μ H v d → γ d δ μ Φ →
  (∀ σ' H' δ' μ', B.S σ' H' δ' μ' → Evo μ H μ' H' → Φ δ' μ' → Q σ' H') → g v σ H Q
def eName (i : Nat) : DG := fun d δ μ Φ => Φ (δ.set i (some d)) μ
theorem sName {i : Nat} : SG B (gName i) (eName i) := fun v d σ H δ μ Φ Q S r q k => k _ H _ μ (S.set r i) .refl q
def eNil : List D → DEnv → Sto → (DEnv → Sto → Prop) → Prop := fun ds δ μ Φ => ds = [] ∧ Φ δ μ
def eCons (γ : DG) (η : List D → DEnv → Sto → (DEnv → Sto → Prop) → Prop) : List D → DEnv → Sto → (DEnv → Sto → Prop) → Prop := fun ds δ μ Φ => ∃ d r, ds = d :: r ∧ γ d δ μ fun δ' μ' => η r δ' μ' Φ
theorem sgNil : SGs B gNil eNil := fun v d σ H δ μ Φ Q S r q k => by
  obtain ⟨rfl, q⟩ := q
  cases r
  exact ⟨rfl, k σ H δ μ S .refl q⟩
theorem sgCons {g : TG} {gs : TGs} {γ : DG} {η : List D → DEnv → Sto → (DEnv → Sto → Prop) → Prop} (a : SG B g γ) (b : SGs B gs η) : SGs B (gCons g gs) (eCons γ η) := fun v d σ H δ μ Φ Q S r q k => by
  obtain ⟨x, xs, rfl, q⟩ := q
  cases v with
  | nil => have := r.length; simp at this
  | cons v vs =>
    exact ⟨v, vs, rfl, a v x σ H δ μ _ _ S r.split.1 q fun σ1 H1 δ1 μ1 S1 e1 q1 => b vs xs σ1 H1 δ1 μ1 _ _ S1 (r.split.2.mono e1) q1 fun σ2 H2 δ2 μ2 S2 e2 q2 => k σ2 H2 δ2 μ2 S2 (e1.trans e2) q2⟩
def tpl : D → Option (List D)
  | .tup ds => some ds
  | .pr ds => some ds
  | _ => none
def eTup (n : Nat) (η : List D → DEnv → Sto → (DEnv → Sto → Prop) → Prop) : DG := fun d δ μ Φ => ∃ ds, tpl d = some ds ∧ ds.length = n ∧ η ds δ μ Φ
theorem Rep.tup_inv {K : Fg} {μ : Sto} {H : Hp} {v : V} {ds : List D} (h : Rep K μ H v (.tup ds)) : ∃ a vs, v = .ref a ∧ TupAt K μ H a vs ∧ Reps K μ H vs ds := by
  cases h with
  | tup h1 h2 _ => exact ⟨_, _, rfl, h1, h2⟩
theorem Rep.lst_inv {K : Fg} {μ : Sto} {H : Hp} {v : V} {ds : List D} (h : Rep K μ H v (.lst ds)) : ∃ a vs, v = .ref a ∧ LstAt μ H a vs ∧ Reps K μ H vs ds := by
  cases h with
  | lst h1 h2 _ => exact ⟨_, _, rfl, h1, h2⟩
theorem Rep.tpl_inv {K : Fg} {μ : Sto} {H : Hp} {v : V} {d : D} {ds : List D} (h : Rep K μ H v d) (e : tpl d = some ds) : ∃ a vs, v = .ref a ∧ SqT K H a vs ∧ Reps K μ H vs ds := by
  cases h with
  | tup h1 h2 _ => cases e; exact ⟨_, _, rfl, h1.sq, h2⟩
  | pr h1 h2 _ => cases e; exact ⟨_, _, rfl, h1.sq, h2⟩
  | _ => cases e
theorem sgTup {n : Nat} {gs : TGs} {η : List D → DEnv → Sto → (DEnv → Sto → Prop) → Prop} (b : SGs B gs η) : SG B (gTup K n gs) (eTup n η) := fun v d σ H δ μ Φ Q S r q k => by
  obtain ⟨ds, ed, hn, q⟩ := q
  obtain ⟨a, vs, rfl, ht, hr⟩ := Rep.tpl_inv r ed
  exact ⟨a, vs, rfl, ht, by rw [hr.length]; exact hn, b vs ds σ H δ μ Φ Q S hr q k⟩
def dAsg (φ : DE) (γ : DG) : DSt := fun Ψ Δ δ μ => φ Ψ δ μ fun x μ1 => γ x δ μ1 Δ.nx
theorem sAsg {g : TG} {γ : DG} (a : SE B ta φa) (b : SG B g γ) : SS B (tAsg ta g) (dAsg φa γ) := fun D Δ σ H δ μ E S q =>
  a σ H δ μ _ _ S q fun v H1 x μ1 S1 e1 r1 q1 => b v x σ H1 δ μ1 _ _ S1 r1 q1 fun σ2 H2 δ2 μ2 S2 e2 q2 => E.nx σ2 H2 δ2 μ2 S2 q2
/-- x += e -/
def dAug (i : Nat) (φ : DE) (ρ : DO) : DSt := fun Ψ Δ δ μ => ∃ x, δ[i]? = some (some x) ∧ φ Ψ δ μ fun y μ1 => ρ x y μ1 fun z μ2 => Δ.nx (δ.set i (some z)) μ2
theorem sAug {i : Nat} {ip : TIp} {ρ : DO} (h : RO K ip ρ) (a : SE B ta φa) : SS B (tAug i ta ip) (dAug i φa ρ) := fun D Δ σ H δ μ E S q => by
  obtain ⟨x, ex, q⟩ := q
  obtain ⟨v, ev, rv⟩ := S.env.at_ i x ex
  exact ⟨v, ev, a σ H δ μ _ _ S q fun w H1 y μ1 S1 e1 r1 q1 => h H1 μ1 v w x y _ _ S1.sto (Reps.mono e1 rv) r1 q1 fun z H2 c μ2 e2 s2 r2 q2 => E.nx _ _ _ _ ((S1.step e2 s2).set r2 i) q2⟩
/-- while, by a word and a number that falls -/
def dWhile (θ : DT) (ω : DSt) : DSt := fun Ψ Δ δ μ => ∃ W : Nat → DEnv → Sto → Prop, (∃ m, W m δ μ) ∧ ∀ m δ μ, W m δ μ → θ Ψ δ μ fun b μ1 =>
  (b = true → ω Ψ { Δ with nx := fun δ' μ' => ∃ m', m' < m ∧ W m' δ' μ', ct := fun δ' μ' => ∃ m', m' < m ∧ W m' δ' μ', bk := Δ.nx } δ μ1) ∧ (b = false → Δ.nx δ μ1)
theorem sWhile (c : ST B tt θ) (a : SS B ts ω) : SS B (tWhile tt ts) (dWhile θ ω) := fun D Δ σ H δ μ E S q => by
  obtain ⟨W, ⟨m0, w0⟩, q⟩ := q
  refine ⟨fun m σ H => ∃ δ μ, B.S σ H δ μ ∧ W m δ μ, ⟨m0, δ, μ, S, w0⟩, fun m σ1 H1 ⟨δ1, μ1, S1, w1⟩ => ?_⟩
  refine c σ1 H1 δ1 μ1 _ _ S1 (q m δ1 μ1 w1) fun b H2 μ2 S2 e2 q2 => ?_
  cases b with
  | true =>
    refine ⟨fun σ' H' => ∃ δ' μ', B.S σ' H' δ' μ' ∧ ∃ m', m' < m ∧ W m' δ' μ', fun σ' H' ⟨δ', μ', S', m', hm, w'⟩ => ⟨m', hm, δ', μ', S', w'⟩, ?_⟩
    exact a _ { Δ with nx := fun δ' μ' => ∃ m', m' < m ∧ W m' δ' μ', ct := fun δ' μ' => ∃ m', m' < m ∧ W m' δ' μ', bk := Δ.nx } σ1 H2 δ1 μ2 ⟨fun σ' H' δ' μ' S' q' => ⟨δ', μ', S', q'⟩, E.rt, E.nx, fun σ' H' δ' μ' S' q' => ⟨δ', μ', S', q'⟩⟩ S2 (q2.1 rfl)
  | false => exact E.nx _ _ _ _ S2 (q2.2 rfl)
end
end DW
set_option Elab.async false
set_option linter.all false
set_option maxRecDepth 100000
namespace DW
open PySem PySem.Spec L2
section
variable {K : Fg}
def oI (C : Int → Int → Prop) (g : Int → Int → D) : DO := fun x y μ Φ => ∃ i j, x = .int i ∧ y = .int j ∧ C i j ∧ Φ (g i j) μ
def oI0 (g : Int → Int → D) : DO := fun x y μ Φ => ∃ i j, x = .int i ∧ y = .int j ∧ Φ (g i j) μ
theorem roI {C : Int → Int → Prop} {g : Int → Int → V} {g' : Int → Int → D} (hg : ∀ i j μ H, Rep K μ H (g i j) (g' i j)) : RO K (rI C g) (oI C g') := fun H μ v w d e Φ Q s r1 r2 q k => by
  obtain ⟨i, j, rfl, rfl, hc, q⟩ := q
  exact ⟨i, j, Rep.int_inv r1, Rep.int_inv r2, hc, k _ H _ μ .refl s (hg i j μ H) q⟩
theorem roI0 {g : Int → Int → V} {g' : Int → Int → D} (hg : ∀ i j μ H, Rep K μ H (g i j) (g' i j)) : RO K (rI0 g) (oI0 g') := fun H μ v w d e Φ Q s r1 r2 q k => by
  obtain ⟨i, j, rfl, rfl, q⟩ := q
  exact ⟨i, j, Rep.int_inv r1, Rep.int_inv r2, k _ H _ μ .refl s (hg i j μ H) q⟩
theorem roInt {C : Int → Int → Prop} {g : Int → Int → Int} : RO K (rI C fun i j => .int (g i j)) (oI C fun i j => .int (g i j)) := roI fun _ _ _ _ => .int _ .nil
theorem roInt0 {g : Int → Int → Int} : RO K (rI0 fun i j => .int (g i j)) (oI0 fun i j => .int (g i j)) := roI0 fun _ _ _ _ => .int _ .nil
theorem roBl0 {g : Int → Int → Bool} : RO K (rI0 fun i j => .bl (g i j)) (oI0 fun i j => .bl (g i j)) := roI0 fun _ _ _ _ => .bl _ .nil
theorem roIp {g : Int → Int → Int} : RO K (ipI g) (oI0 fun i j => .int (g i j)) := fun H μ v w d e Φ Q s r1 r2 q k => by
  obtain ⟨i, j, rfl, rfl, q⟩ := q
  exact ⟨i, j, Rep.int_inv r1, Rep.int_inv r2, k _ H _ μ .refl s (.int _ .nil) q⟩
def uI (g : Int → Int) : DU := fun x μ Φ => ∃ i, x = .int i ∧ Φ (.int (g i)) μ
theorem ruInt {g : Int → Int} : RU K (rU fun i => .int (g i)) (uI g) := fun H μ v d Φ Q s r q k => by
  obtain ⟨i, rfl, q⟩ := q
  exact ⟨i, Rep.int_inv r, k _ H _ μ .refl s (.int _ .nil) q⟩
def sEq : D → D → Option Bool
  | .int i, .int j => some (decide (i = j))
  | .str i, .str j => some (decide (i = j))
  | .bl i, .bl j => some (decide (i = j))
  | .non, .non => some true
  | .non, .int _ => some false
  | .int _, .non => some false
  | .non, .bl _ => some false
  | .bl _, .non => some false
  | .non, .str _ => some false
  | .str _, .non => some false
  | .int _, .str _ => some false
  | .str _, .int _ => some false
  | .bl _, .str _ => some false
  | .str _, .bl _ => some false
  | _, _ => none
theorem sEq_ok {μ : Sto} {H : Hp} {v w : V} {d e : D} {b : Bool} (r1 : Rep K μ H v d) (r2 : Rep K μ H w e) (h : sEq d e = some b) : scal v w = true ∧ decide (v = w) = b := by
  cases d <;> cases e <;> (first | (unfold sEq at h; cases h; done) | skip) <;> cases r1 <;> cases r2 <;> (injection h with h; subst h; first | exact ⟨rfl, by simp⟩ | exact ⟨rfl, rfl⟩)
def oEq : DO := fun x y μ Φ => ∃ b, sEq x y = some b ∧ Φ (.bl b) μ
def oNe : DO := fun x y μ Φ => ∃ b, sEq x y = some b ∧ Φ (.bl (!b)) μ
theorem roEq : RO K rEq oEq := fun H μ v w d e Φ Q s r1 r2 q k => by
  obtain ⟨b, hb, q⟩ := q
  obtain ⟨h1, h2⟩ := sEq_ok r1 r2 hb
  exact ⟨h1, by rw [h2]; exact k _ H _ μ .refl s (.bl _ .nil) q⟩
theorem roNe : RO K rNe oNe := fun H μ v w d e Φ Q s r1 r2 q k => by
  obtain ⟨b, hb, q⟩ := q
  obtain ⟨h1, h2⟩ := sEq_ok r1 r2 hb
  exact ⟨h1, by rw [h2]; exact k _ H _ μ .refl s (.bl _ .nil) q⟩
def isNone : D → Option Bool
  | .non => some true
  | .bl _ => some false
  | .int _ => some false
  | .str _ => some false
  | .tup _ => some false
  | .lst _ => some false
  | .obj _ _ _ => some false
  | _ => none
theorem isNone_ok {μ : Sto} {H : Hp} {v : V} {d : D} {b : Bool} (r1 : Rep K μ H v d) (h : isNone d = some b) : decide (v = .non) = b := by
  cases d <;> unfold isNone at h <;> first | (cases h; done) | (cases h; cases r1; rfl) | (cases h; cases r1; simp)
def oIsN : DO := fun x y μ Φ => y = .non ∧ ∃ b, isNone x = some b ∧ Φ (.bl b) μ
def oNotN : DO := fun x y μ Φ => y = .non ∧ ∃ b, isNone x = some b ∧ Φ (.bl (!b)) μ
theorem roIsN : RO K (fun x y H Q => y = .non ∧ Q (.bl (decide (x = .non))) H) oIsN := fun H μ v w d e Φ Q s r1 r2 q k => by
  obtain ⟨rfl, b, hb, q⟩ := q
  exact ⟨Rep.non_inv r2, by rw [isNone_ok r1 hb]; exact k _ H _ μ .refl s (.bl _ .nil) q⟩
theorem roNotN : RO K (fun x y H Q => y = .non ∧ Q (.bl (!decide (x = .non))) H) oNotN := fun H μ v w d e Φ Q s r1 r2 q k => by
  obtain ⟨rfl, b, hb, q⟩ := q
  exact ⟨Rep.non_inv r2, by rw [isNone_ok r1 hb]; exact k _ H _ μ .refl s (.bl _ .nil) q⟩
def flatD : D → Bool
  | .non => true
  | .bl _ => true
  | .int _ => true
  | .str _ => true
  | _ => false
def eqF : D → D → Bool
  | .non, .non => true
  | .bl a, .bl b => a == b
  | .bl a, .int b => (if a then 1 else 0) == b
  | .int a, .bl b => a == (if b then 1 else 0)
  | .int a, .int b => a == b
  | .str a, .str b => a == b
  | _, _ => false
theorem flatD_ok {μ : Sto} {H : Hp} {v : V} {d : D} (r : Rep K μ H v d) (h : flatD d = true) : flatV v = true := by
  cases d <;> (first | (exact absurd h Bool.false_ne_true) | skip) <;> cases r <;> rfl
theorem eqF_ok {μ : Sto} {H : Hp} {v w : V} {d e : D} (r1 : Rep K μ H v d) (r2 : Rep K μ H w e) (f1 : flatD d = true) (f2 : flatD e = true) : eqV v w = eqF d e := by
  cases d <;> (first | (exact absurd f1 Bool.false_ne_true) | skip) <;> cases r1 <;> cases e <;> (first | (exact absurd f2 Bool.false_ne_true) | skip) <;> cases r2 <;> rfl
theorem flatAll_ok {μ : Sto} {H : Hp} : ∀ {vs : List V} {ds : List D}, Reps K μ H vs ds → ds.all flatD = true → vs.all flatV = true
  | [], [], _, _ => rfl
  | [], _ :: _, r, _ => by have := r.length; simp at this
  | _ :: _, [], r, _ => by have := r.length; simp at this
  | v :: vs, d :: ds, r, h => by
    rw [List.all_cons, Bool.and_eq_true] at h ⊢
    exact ⟨flatD_ok r.split.1 h.1, flatAll_ok r.split.2 h.2⟩
def inD (x : D) (ds : List D) : Bool := ds.any fun y => eqF y x
theorem inD_ok {μ : Sto} {H : Hp} {v : V} {d : D} (r1 : Rep K μ H v d) (f1 : flatD d = true) : ∀ {vs : List V} {ds : List D}, Reps K μ H vs ds → ds.all flatD = true → inV v vs = inD d ds
  | [], [], _, _ => rfl
  | [], _ :: _, r, _ => by have := r.length; simp at this
  | _ :: _, [], r, _ => by have := r.length; simp at this
  | w :: vs, e :: ds, r, h => by
    rw [List.all_cons, Bool.and_eq_true] at h
    have ih := inD_ok r1 f1 r.split.2 h.2
    unfold inV inD at ih ⊢
    rw [List.any_cons, List.any_cons, eqF_ok r.split.1 r1 h.1 f1, ih]
/-- the items of a tuple, of a list, of a handle's list -/
inductive Items (μ : Sto) : D → List D → Prop
  | tup (ds) : Items μ (.tup ds) ds
  | lst (ds) : Items μ (.lst ds) ds
  | own {a ds} : μ a = some (.lst ds) → Items μ (.hd (.ref a)) ds
  | frz {a ds} : μ a = some (.frz ds) → Items μ (.hd (.ref a)) ds
  | scr (ns) : Items μ (.scr ns) (ns.map .int)
theorem reps_ints {μ : Sto} {H : Hp} : ∀ (ns : List Int), Reps K μ H (ns.map V.int) (ns.map D.int)
  | [] => .nil
  | n :: ns => .int n (reps_ints ns)
theorem Items.ok {μ : Sto} {H : Hp} {v : V} {d : D} {ds : List D} (s : StoOk K μ H) (r : Rep K μ H v d) (h : Items μ d ds) : ∃ a vs, v = .ref a ∧ (SqL K H a vs ∨ SqT K H a vs) ∧ Reps K μ H vs ds := by
  cases h with
  | tup => obtain ⟨a, vs, rfl, h1, h2⟩ := Rep.tup_inv r; exact ⟨a, vs, rfl, .inr h1.sq, h2⟩
  | lst => obtain ⟨a, vs, rfl, h1, h2⟩ := Rep.lst_inv r; exact ⟨a, vs, rfl, .inl h1.sq, h2⟩
  | own h => obtain rfl := Rep.hd_inv r; obtain ⟨vs, h1, h2⟩ := s _ _ h; exact ⟨_, vs, rfl, .inl (.of h1), h2⟩
  | frz h => obtain rfl := Rep.hd_inv r; obtain ⟨vs, h1, h2⟩ := s _ _ h; exact ⟨_, vs, rfl, .inl (.of h1), h2⟩
  | scr ns =>
    cases r with
    | scr h1 _ => exact ⟨_, _, rfl, .inl h1.sq, reps_ints ns⟩
def oIn (neg : Bool) : DO := fun x y μ Φ => ∃ ds, Items μ y ds ∧ flatD x = true ∧ ds.all flatD = true ∧ Φ (.bl (if neg then !inD x ds else inD x ds)) μ
theorem roIn {neg : Bool} : RO K (rIn K neg) (oIn neg) := fun H μ v w d e Φ Q s r1 r2 q k => by
  obtain ⟨ds, hi, f1, f2, q⟩ := q
  obtain ⟨a, vs, rfl, h1, h2⟩ := hi.ok s r2
  refine ⟨a, vs, rfl, h1, flatD_ok r1 f1, flatAll_ok h2 f2, ?_⟩
  rw [inD_ok r1 f1 h2 f2]
  exact k _ H _ μ .refl s (.bl _ .nil) q
theorem atI_reps {μ : Sto} {H : Hp} {vs : List V} {ds : List D} (r : Reps K μ H vs ds) {i : Int} {d : D} (h : atI ds i = some d) : ∃ v, atI vs i = some v ∧ Rep K μ H v d := by
  unfold atI at h ⊢
  rw [r.length]
  cases e : ixN ds.length i with
  | none => rw [e] at h; cases h
  | some j => rw [e] at h; exact r.get h
def isTup : D → Bool
  | .tup _ => true
  | _ => false
def oIxT : DO := fun x y μ Φ => ∃ ds i d, x = .tup ds ∧ y = .int i ∧ atI ds i = some d ∧ Φ d μ
theorem roIxT : RO K (rIxT K) oIxT := fun H μ v w d e Φ Q s r1 r2 q k => by
  obtain ⟨ds, i, c, rfl, rfl, hi, q⟩ := q
  obtain ⟨a, vs, rfl, h1, h2⟩ := Rep.tup_inv r1
  obtain ⟨z, hz, rz⟩ := atI_reps h2 hi
  exact ⟨a, vs, i, z, rfl, Rep.int_inv r2, h1.sq, hz, k _ H _ μ .refl s rz q⟩
def oIxL : DO := fun x y μ Φ => ∃ ds i d, Items μ x ds ∧ isTup x = false ∧ y = .int i ∧ atI ds i = some d ∧ Φ d μ
theorem Items.okL {μ : Sto} {H : Hp} {v : V} {d : D} {ds : List D} (s : StoOk K μ H) (r : Rep K μ H v d) (h : Items μ d ds) (n : isTup d = false) : ∃ a vs, v = .ref a ∧ SqL K H a vs ∧ Reps K μ H vs ds := by
  cases h with
  | tup => cases n
  | lst => obtain ⟨a, vs, rfl, h1, h2⟩ := Rep.lst_inv r; exact ⟨a, vs, rfl, h1.sq, h2⟩
  | own h => obtain rfl := Rep.hd_inv r; obtain ⟨vs, h1, h2⟩ := s _ _ h; exact ⟨_, vs, rfl, .of h1, h2⟩
  | frz h => obtain rfl := Rep.hd_inv r; obtain ⟨vs, h1, h2⟩ := s _ _ h; exact ⟨_, vs, rfl, .of h1, h2⟩
  | scr ns =>
    cases r with
    | scr h1 _ => exact ⟨_, _, rfl, h1.sq, reps_ints ns⟩
theorem roIxL : RO K (rIxL K) oIxL := fun H μ v w d e Φ Q s r1 r2 q k => by
  obtain ⟨ds, i, c, hi, hn, rfl, ha, q⟩ := q
  obtain ⟨a, vs, rfl, h1, h2⟩ := hi.okL s r1 hn
  obtain ⟨z, hz, rz⟩ := atI_reps h2 ha
  exact ⟨a, vs, i, z, rfl, Rep.int_inv r2, h1, hz, k _ H _ μ .refl s rz q⟩
/-- t + u, tuples -/
def oCatT : DO := fun x y μ Φ => ∃ xs ys, x = .tup xs ∧ y = .tup ys ∧ xs.length + ys.length ≤ 100000 ∧ Φ (.tup (xs ++ ys)) μ
theorem roCatT : RO K (rCatN K) oCatT := fun H μ v w d e Φ Q s r1 r2 q k => by
  obtain ⟨xs, ys, rfl, rfl, hz, q⟩ := q
  obtain ⟨a, vs, rfl, h1, h2⟩ := Rep.tup_inv r1
  obtain ⟨b, us, rfl, h3, h4⟩ := Rep.tup_inv r2
  refine ⟨a, b, vs, us, rfl, rfl, h1.sq, h3.sq, sz (by rw [h2.length, h4.length]; exact hz), fun e => ?_, fun _ e => ?_, fun _ _ p o ho hc hp => ?_⟩
  · subst e
    have ex : xs = [] := List.eq_nil_of_length_eq_zero (by rw [← h2.length]; rfl)
    subst ex
    exact k _ H _ μ .refl s r2 q
  · subst e
    have ex : ys = [] := List.eq_nil_of_length_eq_zero (by rw [← h4.length]; rfl)
    subst ex
    rw [List.append_nil] at q
    exact k _ H _ μ .refl s r1 q
  · exact k _ _ _ μ (.new hp) (s.new hp) (rep_tupN s hp ho hc (h2.append h4)) q
/-- xs + ys, lists -/
def oCatL : DO := fun x y μ Φ => ∃ xs ys, x = .lst xs ∧ y = .lst ys ∧ xs.length + ys.length ≤ 100000 ∧ Φ (.lst (xs ++ ys)) μ
theorem roCatL : RO K rCat oCatL := fun H μ v w d e Φ Q s r1 r2 q k => by
  obtain ⟨xs, ys, rfl, rfl, hz, q⟩ := q
  obtain ⟨a, vs, rfl, h1, h2⟩ := Rep.lst_inv r1
  obtain ⟨b, us, rfl, h3, h4⟩ := Rep.lst_inv r2
  exact ⟨a, b, vs, us, rfl, rfl, h1.1, h3.1, sz (by rw [h2.length, h4.length]; exact hz), fun p hp => k _ _ _ μ (.new hp) (s.new hp) (rep_lst s hp (h2.append h4)) q⟩
/-- t * k for k of two or more -/
theorem reps_rep {μ : Sto} {H : Hp} {vs : List V} {ds : List D} (r : Reps K μ H vs ds) : ∀ n, Reps K μ H (List.replicate n vs).flatten (List.replicate n ds).flatten
  | 0 => .nil
  | n + 1 => by
    rw [List.replicate_succ, List.replicate_succ, List.flatten_cons, List.flatten_cons]
    exact r.append (reps_rep r n)
def dNoPart : XP → DEnv → Sto → (Option Int → Sto → Prop) → Prop := fun _ _ μ Φ => Φ none μ
def dPart (φ : DE) : XP → DEnv → Sto → (Option Int → Sto → Prop) → Prop := fun Ψ δ μ Φ => φ Ψ δ μ fun x μ1 => ∃ i, x = .int i ∧ Φ (some i) μ1
def SO (B : Bx K) (to : TO) (φ : XP → DEnv → Sto → (Option Int → Sto → Prop) → Prop) : Prop := ∀ (σ : L2.St) (H : Hp) (δ : DEnv) (μ : Sto) (Φ : Option Int → Sto → Prop) (Q : Option Int → Hp → Prop), B.S σ H δ μ → φ B.Ψ δ μ Φ →
  (∀ o H' μ', B.S σ H' δ μ' → Evo μ H μ' H' → Φ o μ' → Q o H') → to σ H Q
theorem sNoPart {B : Bx K} : SO B tNoPart dNoPart := fun σ H δ μ Φ Q S q k => k none H μ S .refl q
theorem sPart {B : Bx K} {te : TE} {φ : DE} (a : SE B te φ) : SO B (tPart te) (dPart φ) := fun σ H δ μ Φ Q S q k =>
  a σ H δ μ _ _ S q fun v H1 x μ1 S1 e1 r1 q1 => by
    obtain ⟨i, rfl, q2⟩ := q1
    obtain rfl := Rep.int_inv r1
    exact ⟨i, rfl, k (some i) H1 μ1 S1 e1 q2⟩
def cutD (xs : List D) (lo hi : Option Int) : List D := (xs.drop (HT.sIx xs.length 0 lo)).take (HT.sIx xs.length xs.length hi - HT.sIx xs.length 0 lo)
theorem cut_reps {μ : Sto} {H : Hp} {vs : List V} {ds : List D} (r : Reps K μ H vs ds) (lo hi : Option Int) : Reps K μ H (cutV vs lo hi) (cutD ds lo hi) := by
  unfold cutV cutD
  rw [r.length]
  exact (r.drop _).take _
def dSlT (φ : DE) (ol oh : XP → DEnv → Sto → (Option Int → Sto → Prop) → Prop) : DE := fun Ψ δ μ Φ => φ Ψ δ μ fun x μ1 => ol Ψ δ μ1 fun lo μ2 => oh Ψ δ μ2 fun hi μ3 => ∃ ds, x = .tup ds ∧ Φ (.tup (cutD ds lo hi)) μ3
theorem cutD_whole {ds : List D} {lo hi : Option Int} (h : HT.sIx ds.length 0 lo = 0 ∧ HT.sIx ds.length ds.length hi = ds.length) : cutD ds lo hi = ds := by
  unfold cutD
  rw [h.1, h.2, List.drop_zero, Nat.sub_zero, List.take_length]
theorem sSlT {B : Bx K} {te : TE} {tl th : TO} {φ : DE} {ol oh : XP → DEnv → Sto → (Option Int → Sto → Prop) → Prop} (a : SE B te φ) (b : SO B tl ol) (c : SO B th oh) : SE B (tSl (rSlN K) te tl th) (dSlT φ ol oh) := fun σ H δ μ Φ Q S q k =>
  a σ H δ μ _ _ S q fun v H1 x μ1 S1 e1 r1 q1 => b σ H1 δ μ1 _ _ S1 q1 fun lo H2 μ2 S2 e2 q2 => c σ H2 δ μ2 _ _ S2 q2 fun hi H3 μ3 S3 e3 q3 => by
    obtain ⟨ds, rfl, q3⟩ := q3
    obtain ⟨p, vs, rfl, h1, h2⟩ := Rep.tup_inv ((r1.mono e2).mono e3)
    refine ⟨p, vs, rfl, h1.sq, fun w => ?_, fun w o ob hd hc ho => ?_⟩
    · rw [h2.length] at w
      rw [cutD_whole w] at q3
      exact k _ H3 _ μ3 S3 ((e1.trans e2).trans e3) (.tup h1 h2 .nil) q3
    · exact k _ _ _ μ3 (S3.step (.new ho) (S3.sto.new ho)) (((e1.trans e2).trans e3).trans (.new ho)) (rep_tupN S3.sto ho hd hc (cut_reps h2 lo hi)) q3
def dSlL (φ : DE) (ol oh : XP → DEnv → Sto → (Option Int → Sto → Prop) → Prop) : DE := fun Ψ δ μ Φ => φ Ψ δ μ fun x μ1 => ol Ψ δ μ1 fun lo μ2 => oh Ψ δ μ2 fun hi μ3 => ∃ ds, Items μ3 x ds ∧ isTup x = false ∧ Φ (.lst (cutD ds lo hi)) μ3
theorem sSlL {B : Bx K} {te : TE} {tl th : TO} {φ : DE} {ol oh : XP → DEnv → Sto → (Option Int → Sto → Prop) → Prop} (a : SE B te φ) (b : SO B tl ol) (c : SO B th oh) : SE B (tSl (rSlL K) te tl th) (dSlL φ ol oh) := fun σ H δ μ Φ Q S q k =>
  a σ H δ μ _ _ S q fun v H1 x μ1 S1 e1 r1 q1 => b σ H1 δ μ1 _ _ S1 q1 fun lo H2 μ2 S2 e2 q2 => c σ H2 δ μ2 _ _ S2 q2 fun hi H3 μ3 S3 e3 q3 => by
    obtain ⟨ds, hi', hn, q3⟩ := q3
    obtain ⟨p, vs, rfl, h1, h2⟩ := hi'.okL S3.sto ((r1.mono e2).mono e3) hn
    exact ⟨p, vs, rfl, h1, fun o ho => k _ _ _ μ3 (S3.step (.new ho) (S3.sto.new ho)) (((e1.trans e2).trans e3).trans (.new ho)) (rep_lst S3.sto ho (cut_reps h2 lo hi)) q3⟩
/-- xs[::-1], lists -/
def dRevL (φ : DE) : DE := fun Ψ δ μ Φ => φ Ψ δ μ fun x μ1 => ∃ ds, Items μ1 x ds ∧ isTup x = false ∧ Φ (.lst ds.reverse) μ1
theorem sRevL {B : Bx K} {te : TE} {φ : DE} (a : SE B te φ) : SE B (tRevL K te) (dRevL φ) := fun σ H δ μ Φ Q S q k =>
  a σ H δ μ _ _ S q fun v H1 x μ1 S1 e1 r1 q1 => by
    obtain ⟨ds, hi, hn, q2⟩ := q1
    obtain ⟨p, vs, rfl, h1, h2⟩ := hi.okL S1.sto r1 hn
    exact ⟨p, vs, rfl, h1, fun o ho => k _ _ _ μ1 (S1.step (.new ho) (S1.sto.new ho)) (e1.trans (.new ho)) (rep_lst S1.sto ho h2.reverse) q2⟩
abbrev DC := List D → Sto → DK → Prop
def RC (K : Fg) (r : List V → Hp → VK → Prop) (ρ : DC) : Prop := ∀ (H : Hp) (μ : Sto) (vs : List V) (ds : List D) (Φ : DK) (Q : VK), StoOk K μ H → Reps K μ H vs ds → ρ ds μ Φ →
  (∀ z H' c μ', Evo μ H μ' H' → StoOk K μ' H' → Rep K μ' H' z c → Φ c μ' → Q z H') → r vs H Q
def dCB (ρ : DC) (ψ : DA) : DE := fun Ψ δ μ Φ => ψ Ψ δ μ fun xs μ1 => ρ xs μ1 Φ
theorem sCB {B : Bx K} {r : List V → Hp → VK → Prop} {ρ : DC} {tas : TA} {ψ : DA} (h : RC K r ρ) (a : SA B tas ψ) : SE B (tCB r tas) (dCB ρ ψ) := fun σ H δ μ Φ Q S q k =>
  a σ H δ μ _ _ S q fun vs H1 xs μ1 S1 e1 r1 q1 => h H1 μ1 vs xs Φ Q S1.sto r1 q1 fun z H3 c μ3 e3 s3 r3 p => k z H3 c μ3 (S1.step e3 s3) (e1.trans e3) r3 p
theorem reps1 {μ : Sto} {H : Hp} {vs : List V} {d : D} (r : Reps K μ H vs [d]) : ∃ v, vs = [v] ∧ Rep K μ H v d := by
  cases vs with
  | nil => have := r.length; simp at this
  | cons v vs =>
    cases vs with
    | nil => exact ⟨v, rfl, r⟩
    | cons w vs => have := r.length; simp at this
theorem reps2 {μ : Sto} {H : Hp} {vs : List V} {d e : D} (r : Reps K μ H vs [d, e]) : ∃ v w, vs = [v, w] ∧ Rep K μ H v d ∧ Rep K μ H w e := by
  cases vs with
  | nil => have := r.length; simp at this
  | cons v vs =>
    obtain ⟨w, rfl, r2⟩ := reps1 r.split.2
    exact ⟨v, w, rfl, r.split.1, r2⟩
def cLen : DC := fun xs μ Φ => ∃ x ds, xs = [x] ∧ Items μ x ds ∧ Φ (.int ds.length) μ
theorem rcLen : RC K (fun xs H Q => ∃ p ys, xs = [.ref p] ∧ (SqL K H p ys ∨ SqT K H p ys) ∧ Q (.int ys.length) H) cLen := fun H μ vs ds Φ Q s r q k => by
  obtain ⟨x, es, rfl, hi, q⟩ := q
  obtain ⟨v, rfl, r⟩ := reps1 r
  obtain ⟨a, us, rfl, h1, h2⟩ := hi.ok s r
  refine ⟨a, us, rfl, h1, ?_⟩
  rw [h2.length]
  exact k _ H _ μ .refl s (.int _ .nil) q
/-- list(..) of a list or tuple -/
def cList : DC := fun xs μ Φ => ∃ x ds, xs = [x] ∧ Items μ x ds ∧ Φ (.lst ds) μ
theorem rcList : RC K (fun xs H Q => ∃ p ys, xs = [.ref p] ∧ (SqL K H p ys ∨ SqT K H p ys) ∧ ∀ l, H l = none → Q (.ref l) (upd H l (.lst ys))) cList := fun H μ vs ds Φ Q s r q k => by
  obtain ⟨x, es, rfl, hi, q⟩ := q
  obtain ⟨v, rfl, r⟩ := reps1 r
  obtain ⟨a, us, rfl, h1, h2⟩ := hi.ok s r
  exact ⟨a, us, rfl, h1, fun p hp => k _ _ _ μ (.new hp) (s.new hp) (rep_lst s hp h2) q⟩
/-- the same, a handle -/
def cListOwn : DC := fun xs μ Φ => ∃ x ds, xs = [x] ∧ Items μ x ds ∧ ∀ p, μ p = none → Φ (.hd (.ref p)) (sset μ p (.lst ds))
theorem rcListOwn : RC K (fun xs H Q => ∃ p ys, xs = [.ref p] ∧ (SqL K H p ys ∨ SqT K H p ys) ∧ ∀ l, H l = none → Q (.ref l) (upd H l (.lst ys))) cListOwn := fun H μ vs ds Φ Q s r q k => by
  obtain ⟨x, es, rfl, hi, q⟩ := q
  obtain ⟨v, rfl, r⟩ := reps1 r
  obtain ⟨a, us, rfl, h1, h2⟩ := hi.ok s r
  exact ⟨a, us, rfl, h1, fun p hp => k _ _ _ _ (.newC s hp) (sto_own s hp h2) (.hd _ .nil) (q p (s.fresh hp))⟩
def cTuple : DC := fun xs μ Φ => ∃ x ds, xs = [x] ∧ Items μ x ds ∧ Φ (.tup ds) μ
theorem rcTuple : RC K (fun xs H Q => ∃ p ys, xs = [.ref p] ∧ ((SqL K H p ys ∧ NewT H ys Q) ∨ (SqT K H p ys ∧ Q (.ref p) H))) cTuple := fun H μ vs ds Φ Q s r q k => by
  obtain ⟨x, es, rfl, hi, q⟩ := q
  obtain ⟨v, rfl, r⟩ := reps1 r
  cases hi with
  | tup => obtain ⟨a, us, rfl, h1, h2⟩ := Rep.tup_inv r; exact ⟨a, us, rfl, .inr ⟨h1.sq, k _ H _ μ .refl s r q⟩⟩
  | lst => obtain ⟨a, us, rfl, h1, h2⟩ := (Items.lst es).okL s r rfl; exact ⟨a, us, rfl, .inl ⟨h1, fun p o ho hc hp => k _ _ _ μ (.new hp) (s.new hp) (rep_tupN s hp ho hc h2) q⟩⟩
  | own h => obtain ⟨a, us, rfl, h1, h2⟩ := (Items.own h).okL s r rfl; exact ⟨a, us, rfl, .inl ⟨h1, fun p o ho hc hp => k _ _ _ μ (.new hp) (s.new hp) (rep_tupN s hp ho hc h2) q⟩⟩
  | frz h => obtain ⟨a, us, rfl, h1, h2⟩ := (Items.frz h).okL s r rfl; exact ⟨a, us, rfl, .inl ⟨h1, fun p o ho hc hp => k _ _ _ μ (.new hp) (s.new hp) (rep_tupN s hp ho hc h2) q⟩⟩
  | scr ns => obtain ⟨a, us, rfl, h1, h2⟩ := (Items.scr ns).okL s r rfl; exact ⟨a, us, rfl, .inl ⟨h1, fun p o ho hc hp => k _ _ _ μ (.new hp) (s.new hp) (rep_tupN s hp ho hc h2) q⟩⟩
def cInt : DC := fun xs μ Φ => ∃ i, xs = [.int i] ∧ Φ (.int i) μ ∨ ∃ b, xs = [.bl b] ∧ Φ (.int (if b then 1 else 0)) μ
theorem rcInt : RC K (fun xs H Q => (∃ i, xs = [.int i] ∧ Q (.int i) H) ∨ ∃ k, xs = [.bl k] ∧ Q (.int (if k then 1 else 0)) H) cInt := fun H μ vs ds Φ Q s r q k => by
  obtain ⟨i, q⟩ := q
  rcases q with ⟨rfl, q⟩ | ⟨b, rfl, q⟩
  · obtain ⟨v, rfl, r⟩ := reps1 r
    obtain rfl := Rep.int_inv r
    exact .inl ⟨i, rfl, k _ H _ μ .refl s r q⟩
  · obtain ⟨v, rfl, r⟩ := reps1 r
    obtain rfl := Rep.bl_inv r
    exact .inr ⟨b, rfl, k _ H _ μ .refl s (.int _ .nil) q⟩
theorem reps_bls {μ : Sto} {H : Hp} : ∀ {vs : List V} {bs : List Bool}, Reps K μ H vs (bs.map .bl) → vs = bs.map .bl
  | [], [], _ => rfl
  | [], _ :: _, r => by have := r.length; simp at this
  | _ :: _, [], r => by have := r.length; simp at this
  | v :: vs, b :: bs, r => by
    have e := Rep.bl_inv r.split.1
    have ih := reps_bls r.split.2
    rw [e, ih, List.map_cons]
theorem reps_intsV {μ : Sto} {H : Hp} : ∀ {vs : List V} {ns : List Int}, Reps K μ H vs (ns.map .int) → vs = ns.map .int
  | [], [], _ => rfl
  | [], _ :: _, r => by have := r.length; simp at this
  | _ :: _, [], r => by have := r.length; simp at this
  | v :: vs, b :: bs, r => by
    have e := Rep.int_inv r.split.1
    have ih := reps_intsV r.split.2
    rw [e, ih, List.map_cons]
def cAll : DC := fun xs μ Φ => ∃ bs : List Bool, xs = [.lst (bs.map .bl)] ∧ Φ (.bl (bs.all id)) μ
def cAny : DC := fun xs μ Φ => ∃ bs : List Bool, xs = [.lst (bs.map .bl)] ∧ Φ (.bl (bs.any id)) μ
theorem rcAll : RC K (rAll K) cAll := fun H μ vs ds Φ Q s r q k => by
  obtain ⟨bs, rfl, q⟩ := q
  obtain ⟨v, rfl, r⟩ := reps1 r
  obtain ⟨a, us, rfl, h1, h2⟩ := Rep.lst_inv r
  have e := reps_bls h2
  subst e
  exact ⟨a, bs, rfl, h1.sq, k _ H _ μ .refl s (.bl _ .nil) q⟩
theorem rcAny : RC K (rAny K) cAny := fun H μ vs ds Φ Q s r q k => by
  obtain ⟨bs, rfl, q⟩ := q
  obtain ⟨v, rfl, r⟩ := reps1 r
  obtain ⟨a, us, rfl, h1, h2⟩ := Rep.lst_inv r
  have e := reps_bls h2
  subst e
  exact ⟨a, bs, rfl, h1.sq, k _ H _ μ .refl s (.bl _ .nil) q⟩
def cMin2 : DC := fun xs μ Φ => ∃ i j, xs = [.int i, .int j] ∧ Φ (.int (if j < i then j else i)) μ
def cDivmod : DC := fun xs μ Φ => ∃ i j, xs = [.int i, .int j] ∧ CDivP i j ∧ Φ (.pr [.int (i / j), .int (i % j)]) μ
theorem rcDivmod : RC K (fun xs H Q => ∃ i j, xs = [.int i, .int j] ∧ CDivP i j ∧ ∀ p, H p = none → Q (.ref p) (upd H p (.tup [.int (i / j), .int (i % j)]))) cDivmod := fun H μ vs ds Φ Q s r q k => by
  obtain ⟨i, j, rfl, hc, q⟩ := q
  obtain ⟨v, w, rfl, r1, r2⟩ := reps2 r
  obtain rfl := Rep.int_inv r1
  obtain rfl := Rep.int_inv r2
  exact ⟨i, j, rfl, hc, fun p hp => k _ _ _ μ (.new hp) (s.new hp) (rep_tup s hp (.int _ (.int _ .nil))) q⟩
def tyD : D → Option String
  | .non => some "NoneType"
  | .bl _ => some "bool"
  | .int _ => some "int"
  | .str _ => some "str"
  | .tup _ => some "tuple"
  | .lst _ => some "list"
  | _ => none
theorem tyD_ok {μ : Sto} {H : Hp} {v : V} {d : D} {n : String} (r : Rep K μ H v d) (h : tyD d = some n) : TyX K H v (.type n) := by
  cases d with
  | non => cases h; cases r; exact .base .non
  | bl b => cases h; cases r; exact .base (.bl b)
  | int i => cases h; cases r; exact .base (.int i)
  | str i => cases h; cases r; exact .base (.str i)
  | tup ds =>
    cases h
    obtain ⟨a, vs, rfl, h1, h2⟩ := Rep.tup_inv r
    rcases h1 with ⟨o, h1, _⟩ | ⟨o, its, n, h1, h3, _⟩
    · exact .fTuple h1
    · exact .kTuple h1 h3
  | lst ds =>
    cases h
    obtain ⟨a, vs, rfl, h1, h2⟩ := Rep.lst_inv r
    exact .base (.lst h1.1)
  | obj C ns ds => cases h
  | hd v => cases h
  | scr ns => cases h
  | pr ns => cases h
def instB : D → String → Option Bool
  | .non, "int" => some false | .non, "bool" => some false | .non, "str" => some false | .non, "tuple" => some false | .non, "list" => some false
  | .int _, "int" => some true | .int _, "bool" => some false | .int _, "str" => some false | .int _, "tuple" => some false | .int _, "list" => some false
  | .bl _, "int" => some true | .bl _, "bool" => some true | .bl _, "str" => some false | .bl _, "tuple" => some false | .bl _, "list" => some false
  | .str _, "int" => some false | .str _, "bool" => some false | .str _, "str" => some true | .str _, "tuple" => some false | .str _, "list" => some false
  | .tup _, "int" => some false | .tup _, "bool" => some false | .tup _, "str" => some false | .tup _, "tuple" => some true | .tup _, "list" => some false
  | .lst _, "int" => some false | .lst _, "bool" => some false | .lst _, "str" => some false | .lst _, "tuple" => some false | .lst _, "list" => some true
  | _, _ => none
theorem instB_ok {d : D} {T : String} {b : Bool} (h : instB d T = some b) : ∃ n, tyD d = some n ∧ kitB n T = some b := by
  unfold instB at h
  split at h <;> first | (cases h; done) | (cases h; exact ⟨_, rfl, by decide +kernel⟩)
def cIsi (T : String) : DC := fun xs μ Φ => ∃ x b, xs = [x, .hd (.ty T)] ∧ instB x T = some b ∧ Φ (.bl b) μ
theorem rcIsi {T : String} : RC K (rIsi K) (cIsi T) := fun H μ vs ds Φ Q s r q k => by
  obtain ⟨x, b, rfl, hi, q⟩ := q
  obtain ⟨n, hn, hk⟩ := instB_ok hi
  obtain ⟨v, w, rfl, r1, r2⟩ := reps2 r
  obtain rfl := Rep.hd_inv r2
  exact ⟨v, _, _, _, b, rfl, .ty T, tyD_ok r1 hn, kit_ty hk, k _ H _ μ .refl s (.bl _ .nil) q⟩
def dApp (φa φb : DE) : DE := fun Ψ δ μ Φ => φa Ψ δ μ fun x μ1 => ∃ a ds, x = .hd (.ref a) ∧ μ1 a = some (.lst ds) ∧ φb Ψ δ μ1 fun y μ2 => ∃ es, μ2 a = some (.lst es) ∧ es.length ≤ 100000 ∧ Φ .non (sset μ2 a (.lst (es ++ [y])))
theorem own_upd {μ : Sto} {H : Hp} {a : Addr} {ds es : List D} {us : List V} (s : StoOk K μ H) (h : μ a = some (.lst ds)) (r : Reps K (sset μ a (.lst es)) (upd H a (.lst us)) us es) : Evo μ H (sset μ a (.lst es)) (upd H a (.lst us)) ∧ StoOk K (sset μ a (.lst es)) (upd H a (.lst us)) := by
  have e : Evo μ H (sset μ a (.lst es)) (upd H a (.lst us)) := .cell h fun n => n.notL h
  exact ⟨e, s.cell e ⟨us, upd_same, r⟩⟩
theorem own_evo {μ : Sto} {H : Hp} {a : Addr} {ds es : List D} {us : List V} (h : μ a = some (.lst ds)) : Evo μ H (sset μ a (.lst es)) (upd H a (.lst us)) := .cell h fun n => n.notL h
theorem sApp {B : Bx K} {ta tb : TE} {φa φb : DE} (a : SE B ta φa) (b : SE B tb φb) : SE B (tBM K "list" rAppend ta (tCons tb tNil)) (dApp φa φb) := fun σ H δ μ Φ Q S q k =>
  a σ H δ μ _ _ S q fun v H1 x μ1 S1 e1 r1 q1 => by
    obtain ⟨p, ds, rfl, hp, q1⟩ := q1
    obtain rfl := Rep.hd_inv r1
    obtain ⟨us, h1, h2⟩ := S1.sto _ _ hp
    refine ⟨.inl ⟨rfl, us, .of h1⟩, b σ H1 δ μ1 _ _ S1 q1 fun w H2 y μ2 S2 e2 r2 q2 => ?_⟩
    obtain ⟨es, hp2, hz, q2⟩ := q2
    obtain ⟨ws, h3, h4⟩ := S2.sto _ _ hp2
    refine ⟨p, ws, w, rfl, rfl, h3, Nat.lt_of_le_of_lt (by rw [h4.length]; exact hz) (by decide), ?_⟩
    have e3 : Evo μ2 H2 (sset μ2 p (.lst (es ++ [y]))) (upd H2 p (.lst (ws ++ [w]))) := own_evo hp2
    obtain ⟨e4, s4⟩ := own_upd S2.sto hp2 ((h4.append r2).mono e3)
    exact k _ _ _ _ (S2.step e4 s4) ((e1.trans e2).trans e4) (.non .nil) q2
/-- o[i] = e, o a handle of a list -/
def eSub (φo φi : DE) : XP → D → DEnv → Sto → (DEnv → Sto → Prop) → Prop := fun Ψ d δ μ Φ => φo Ψ δ μ fun x μ1 => φi Ψ δ μ1 fun y μ2 => ∃ a ds i j, x = .hd (.ref a) ∧ y = .int i ∧ μ2 a = some (.lst ds) ∧ ixN ds.length i = some j ∧ Φ δ (sset μ2 a (.lst (ds.set j d)))
theorem sSub {B : Bx K} {ta tb : TE} {φa φb : DE} (a : SE B ta φa) (b : SE B tb φb) : SG B (gSub ta tb rSetL) (eSub φa φb B.Ψ) := fun v d σ H δ μ Φ Q S r q k =>
  a σ H δ μ _ _ S q fun o H1 x μ1 S1 e1 r1 q1 => b σ H1 δ μ1 _ _ S1 q1 fun i H2 y μ2 S2 e2 r2 q2 => by
    obtain ⟨p, ds, i, j, rfl, rfl, hp, hj, q2⟩ := q2
    obtain rfl := Rep.hd_inv r1
    obtain rfl := Rep.int_inv r2
    obtain ⟨us, h1, h2⟩ := S2.sto _ _ hp
    refine ⟨p, us, i, j, rfl, rfl, h1, by rw [h2.length]; exact hj, ?_⟩
    have e3 : Evo μ2 H2 (sset μ2 p (.lst (ds.set j d))) (upd H2 p (.lst (us.set j v))) := own_evo hp
    obtain ⟨e4, s4⟩ := own_upd S2.sto hp ((h2.set ((r.mono e1).mono e2) j).mono e3)
    exact k σ _ δ _ (S2.step e4 s4) ((e1.trans e2).trans e4) q2
def dAsgS (φ φo φi : DE) : DSt := fun Ψ Δ δ μ => φ Ψ δ μ fun x μ1 => eSub φo φi Ψ x δ μ1 Δ.nx
theorem sAsgS {B : Bx K} {te ta tb : TE} {φ φa φb : DE} (e : SE B te φ) (a : SE B ta φa) (b : SE B tb φb) : SS B (tAsg te (gSub ta tb rSetL)) (dAsgS φ φa φb) := fun D Δ σ H δ μ E S q =>
  e σ H δ μ _ _ S q fun v H1 x μ1 S1 e1 r1 q1 => sSub a b v x σ H1 δ μ1 _ _ S1 r1 q1 fun σ2 H2 δ2 μ2 S2 e2 q2 => E.nx σ2 H2 δ2 μ2 S2 q2
end
end DW
set_option Elab.async false
set_option linter.all false
set_option maxRecDepth 100000
namespace DW
open PySem PySem.Spec L2
section
variable {K : Fg} {B : Bx K}
abbrev DI := XP → DEnv → Sto → (List D → Sto → Prop) → Prop
/-- the iterator hands out the items, as long as what stood still stands -/
def IterOk (K : Fg) (μ1 : Sto) (H1 : Hp) (J : It) (xs : List D) : Prop := ∀ (i : Nat) (H : Hp) (μ : Sto), StoOk K μ H → Evo μ1 H1 μ H →
  (i < xs.length → J.go i H ∧ ∀ x H', J.yld i H x H' → ∃ d, xs[i]? = some d ∧ StoOk K μ H' ∧ Evo μ H μ H' ∧ Rep K μ H' x d) ∧ (xs.length ≤ i → J.stop i H)
def SI (B : Bx K) (wi : TI) (ι : DI) : Prop := ∀ (σ : L2.St) (H : Hp) (δ : DEnv) (μ : Sto) (Φ : List D → Sto → Prop) (R : It → Hp → Prop), B.S σ H δ μ → ι B.Ψ δ μ Φ →
  (∀ xs J H' μ', B.S σ H' δ μ' → Evo μ H μ' H' → IterOk K μ' H' J xs → Φ xs μ' → R J H') → wi σ H R
def iSeqT (φ : DE) : DI := fun Ψ δ μ Φ => φ Ψ δ μ fun x μ1 => ∃ ds, x = .tup ds ∧ Φ ds μ1
def iSeqL (φ : DE) : DI := fun Ψ δ μ Φ => φ Ψ δ μ fun x μ1 => ∃ ds, x = .lst ds ∧ Φ ds μ1
theorem siT {te : TE} {φ : DE} (a : SE B te φ) : SI B (iTup K te) (iSeqT φ) := fun σ H δ μ Φ R S q k =>
  a σ H δ μ _ _ S q fun v H1 x μ1 S1 e1 r1 q1 => by
    obtain ⟨ds, rfl, q2⟩ := q1
    obtain ⟨p, vs, rfl, h1, h2⟩ := Rep.tup_inv r1
    refine ⟨p, rfl, ⟨vs, h1.sq⟩, k ds _ H1 μ1 S1 e1 (fun i H2 μ2 s2 e2 => ⟨fun hi => ?_, fun hi => ⟨vs, (h1.mono e2).sq, by rw [h2.length]; exact hi⟩⟩) q2⟩
    have hv : i < vs.length := by rw [h2.length]; exact hi
    refine ⟨⟨vs, vs[i], (h1.mono e2).sq, List.getElem?_eq_getElem hv⟩, fun x H' ⟨eH, hy⟩ => ?_⟩
    subst eH
    obtain ⟨d, hd, rd⟩ := (h2.mono e2).getV (hy vs (h1.mono e2).sq)
    exact ⟨d, hd, s2, .refl, rd⟩
theorem siL {te : TE} {φ : DE} (a : SE B te φ) : SI B (iList K te) (iSeqL φ) := fun σ H δ μ Φ R S q k =>
  a σ H δ μ _ _ S q fun v H1 x μ1 S1 e1 r1 q1 => by
    obtain ⟨ds, rfl, q2⟩ := q1
    obtain ⟨p, vs, rfl, h1, h2⟩ := Rep.lst_inv r1
    refine ⟨p, rfl, ⟨vs, h1.sq⟩, k ds _ H1 μ1 S1 e1 (fun i H2 μ2 s2 e2 => ⟨fun hi => ?_, fun hi => ⟨vs, (h1.mono e2).sq, by rw [h2.length]; exact hi⟩⟩) q2⟩
    have hv : i < vs.length := by rw [h2.length]; exact hi
    refine ⟨⟨vs, vs[i], (h1.mono e2).sq, List.getElem?_eq_getElem hv⟩, fun x H' ⟨eH, hy⟩ => ?_⟩
    subst eH
    obtain ⟨d, hd, rd⟩ := (h2.mono e2).getV (hy vs (h1.mono e2).sq)
    exact ⟨d, hd, s2, .refl, rd⟩
def rngD (lo : Int) (n : Nat) : List D := (List.range n).map fun (i : Nat) => .int (lo + (i : Int))
theorem rngD_len {lo : Int} {n : Nat} : (rngD lo n).length = n := by unfold rngD; rw [List.length_map, List.length_range]
theorem rngD_at {lo : Int} {n i : Nat} (h : i < n) : (rngD lo n)[i]? = some (.int (lo + (i : Int))) := by
  unfold rngD
  rw [List.getElem?_map, List.getElem?_range h]
  rfl
theorem iter_rng {μ : Sto} {H : Hp} {lo : Int} {n : Nat} : IterOk K μ H (Itr lo n) (rngD lo n) := fun i H2 μ2 s2 e2 => by
  rw [rngD_len]
  refine ⟨fun hi => ⟨hi, fun x H' ⟨eH, hy⟩ => ?_⟩, fun hi => hi⟩
  subst eH hy
  exact ⟨_, rngD_at hi, s2, .refl, .int _ .nil⟩
def iR1 (φ : DE) : DI := fun Ψ δ μ Φ => φ Ψ δ μ fun x μ1 => ∃ j, x = .int j ∧ j < 4611686018427387904 ∧ -4611686018427387904 ≤ j ∧ Φ (rngD 0 j.toNat) μ1
theorem siR1 {te : TE} {φ : DE} (a : SE B te φ) : SI B (iRng1 (tCons te tNil)) (iR1 φ) := fun σ H δ μ Φ R S q k =>
  a σ H δ μ _ _ S q fun v H1 x μ1 S1 e1 r1 q1 => by
    obtain ⟨j, rfl, h1, h2, q2⟩ := q1
    obtain rfl := Rep.int_inv r1
    exact ⟨j, rfl, by omega, by omega, k _ _ H1 μ1 S1 e1 iter_rng q2⟩
def iR2 (φ φ' : DE) : DI := fun Ψ δ μ Φ => φ Ψ δ μ fun x μ1 => φ' Ψ δ μ1 fun y μ2 => ∃ i j, x = .int i ∧ y = .int j ∧ (-4611686018427387904 ≤ i ∧ i < 4611686018427387904 ∧ -4611686018427387904 ≤ j ∧ j < 4611686018427387904) ∧ Φ (rngD i (j - i).toNat) μ2
theorem siR2 {te tf : TE} {φ φ' : DE} (a : SE B te φ) (b : SE B tf φ') : SI B (iRng2 (tCons te (tCons tf tNil))) (iR2 φ φ') := fun σ H δ μ Φ R S q k =>
  a σ H δ μ _ _ S q fun v H1 x μ1 S1 e1 r1 q1 => b σ H1 δ μ1 _ _ S1 q1 fun w H2 y μ2 S2 e2 r2 q2 => by
    obtain ⟨i, j, rfl, rfl, h, q2⟩ := q2
    obtain rfl := Rep.int_inv r1
    obtain rfl := Rep.int_inv r2
    exact ⟨i, j, rfl, by omega, k _ _ H2 μ2 S2 (e1.trans e2) iter_rng q2⟩
/-- zip of two tuples -/
def iZipT (φ φ' : DE) : DI := fun Ψ δ μ Φ => φ Ψ δ μ fun x μ1 => φ' Ψ δ μ1 fun y μ2 => ∃ xs ys, x = .tup xs ∧ y = .tup ys ∧ Φ ((xs.zip ys).map fun p => .pr [p.1, p.2]) μ2
theorem siZipT {te tf : TE} {φ φ' : DE} (a : SE B te φ) (b : SE B tf φ') : SI B (RZ.iZipA K (tCons te (tCons tf tNil))) (iZipT φ φ') := fun σ H δ μ Φ R S q k =>
  a σ H δ μ _ _ S q fun v H1 x μ1 S1 e1 r1 q1 => b σ H1 δ μ1 _ _ S1 q1 fun w H2 y μ2 S2 e2 r2 q2 => by
    obtain ⟨xs, ys, rfl, rfl, q2⟩ := q2
    obtain ⟨p, vs, rfl, h1, h2⟩ := Rep.tup_inv (r1.mono e2)
    obtain ⟨p', us, rfl, h3, h4⟩ := Rep.tup_inv r2
    refine ⟨p, p', vs, us, rfl, .inr ⟨h1.sq, h3.sq, k _ _ H2 μ2 S2 (e1.trans e2) (fun i H3 μ3 s3 e3 => ?_) q2⟩⟩
    rw [List.length_map, List.length_zip]
    have l1 := h2.length
    have l2 := h4.length
    refine ⟨fun hi => ?_, fun hi => ⟨vs, us, (h1.mono e3).sq, (h3.mono e3).sq, by omega⟩⟩
    have hv : i < vs.length := by omega
    have hu : i < us.length := by omega
    refine ⟨⟨vs, us, vs[i], us[i], (h1.mono e3).sq, (h3.mono e3).sq, List.getElem?_eq_getElem hv, List.getElem?_eq_getElem hu⟩, fun z H' ⟨T, v1, v2, ez, hT, eH, hy1, hy2⟩ => ?_⟩
    subst ez eH
    obtain ⟨d1, hd1, rd1⟩ := (h2.mono e3).getV (hy1 vs (h1.mono e3).sq)
    obtain ⟨d2, hd2, rd2⟩ := (h4.mono e3).getV (hy2 us (h3.mono e3).sq)
    refine ⟨.pr [d1, d2], ?_, s3.new hT, .new hT, rep_tup s3 hT (.cons rd1 (.cons rd2 .nil))⟩
    rw [List.getElem?_map, (List.getElem?_zip_eq_some (z := (d1, d2))).mpr ⟨hd1, hd2⟩]
    rfl
/-- a text, sign by sign -/
def iText (φ : DE) : DI := fun Ψ δ μ Φ => φ Ψ δ μ fun x μ1 => ∃ s, x = .str s ∧ Φ (s.cps.toList.map fun c => .str ⟨#[c]⟩) μ1
/-- a loop -/
def dFor (ι : DI) (γ : DG) (ω : DSt) : DSt := fun Ψ Δ δ μ => ι Ψ δ μ fun xs μ1 => ∃ W : Nat → DEnv → Sto → Prop, W 0 δ μ1 ∧
  (∀ i d δ' μ', xs[i]? = some d → W i δ' μ' → γ d δ' μ' fun δ2 μ2 => ω Ψ { Δ with nx := W (i + 1), ct := W (i + 1), bk := Δ.nx } δ2 μ2) ∧ ∀ δ' μ', W xs.length δ' μ' → Δ.nx δ' μ'
theorem sFor {wi : TI} {g : TG} {tb : TS} {ι : DI} {γ : DG} {ω : DSt} (a : SI B wi ι) (b : ∀ H1 μ1 e, SG (B.re H1 μ1 e) g γ) (c : ∀ H1 μ1 e, SS (B.re H1 μ1 e) tb ω) : SS B (tFor wi g tb) (dFor ι γ ω) := fun D Δ σ H δ μ E S q =>
  a σ H δ μ _ _ S q fun xs J H1 μ1 S1 e1 it q1 => by
    obtain ⟨W, w0, ws, wd⟩ := q1
    refine ⟨fun i m σ' H' => m = xs.length - i ∧ i ≤ xs.length ∧ ∃ δ' μ', (B.re H1 μ1 S1.evo).S σ' H' δ' μ' ∧ W i δ' μ', ⟨xs.length, by simp, Nat.zero_le _, δ, μ1, ⟨.refl, S1.sto, S1.env⟩, w0⟩, ?_⟩
    rintro i m σ' H' ⟨rfl, hi, δ', μ', S', w⟩
    by_cases hlt : i < xs.length
    · obtain ⟨hgo, hy⟩ := (it i H' μ' S'.sto S'.evo).1 hlt
      refine .inr ⟨hgo, fun σ2 H2 => ∃ δ2 μ2, (B.re H1 μ1 S1.evo).S σ2 H2 δ2 μ2 ∧ W (i + 1) δ2 μ2, fun σ2 H2 ⟨δ2, μ2, S2, w2⟩ => ⟨xs.length - (i + 1), by omega, rfl, by omega, δ2, μ2, S2, w2⟩, fun x H2 y => ?_⟩
      obtain ⟨d, hd, s2, e2, r2⟩ := hy x H2 y
      refine b H1 μ1 S1.evo x d σ' H2 δ' μ' _ _ (S'.step e2 s2) r2 (ws i d δ' μ' hd w) fun σ3 H3 δ3 μ3 S3 e3 q3 => ?_
      exact c H1 μ1 S1.evo _ { Δ with nx := W (i + 1), ct := W (i + 1), bk := Δ.nx } σ3 H3 δ3 μ3 ⟨fun σ4 H4 δ4 μ4 S4 q4 => ⟨δ4, μ4, S4, q4⟩, fun v4 H4 d4 μ4 σ4 δ4 S4 r4 q4 => E.rt v4 H4 d4 μ4 σ4 δ4 ⟨S1.evo.trans S4.evo, S4.sto, S4.env⟩ r4 q4, fun σ4 H4 δ4 μ4 S4 q4 => E.nx σ4 H4 δ4 μ4 ⟨S1.evo.trans S4.evo, S4.sto, S4.env⟩ q4, fun σ4 H4 δ4 μ4 S4 q4 => ⟨δ4, μ4, S4, q4⟩⟩ S3 q3
    · have e : i = xs.length := by omega
      subst e
      exact .inl ⟨(it _ H' μ' S'.sto S'.evo).2 (Nat.le_refl _), E.nx σ' H' δ' μ' ⟨S1.evo.trans S'.evo, S'.sto, S'.env⟩ (wd δ' μ' w)⟩
def dwipe (δ : DEnv) : List Nat → DEnv
  | [] => δ
  | v :: vs => (dwipe δ vs).set v none
theorem EnvOk.unset {μ : Sto} {H : Hp} {σ : L2.St} {δ : DEnv} (h : EnvOk K μ H σ δ) (j : Nat) : EnvOk K μ H (σ.set j none) (δ.set j none) := ⟨by rw [List.length_set, List.length_set]; exact h.len, fun i x q => by
  rw [List.getElem?_set] at q
  by_cases hj : j = i
  · rw [if_pos hj] at q
    split at q <;> cases q
  · rw [if_neg hj] at q
    obtain ⟨v, e, r⟩ := h.at_ i x q
    exact ⟨v, by rw [List.getElem?_set, if_neg hj]; exact e, r⟩⟩
theorem EnvOk.wipe {μ : Sto} {H : Hp} {σ : L2.St} {δ : DEnv} (h : EnvOk K μ H σ δ) : ∀ vs, EnvOk K μ H (L2.wipe σ vs) (dwipe δ vs)
  | [] => h
  | v :: vs => (EnvOk.wipe h vs).unset v
theorem wipe_get (σ : L2.St) : ∀ (vs : List Nat) (i : Nat), (L2.wipe σ vs)[i]? = if i ∈ vs ∧ i < σ.length then some none else σ[i]?
  | [], i => by simp [L2.wipe]
  | v :: vs, i => by
    have ih := wipe_get σ vs i
    show ((L2.wipe σ vs).set v none)[i]? = _
    rw [List.getElem?_set, L2.wipe_length, ih]
    by_cases h : v = i
    · subst h
      rw [if_pos rfl]
      by_cases hl : v < σ.length
      · rw [if_pos hl, if_pos ⟨List.mem_cons_self, hl⟩]
      · rw [if_neg hl, if_neg fun z => hl z.2, List.getElem?_eq_none (by omega)]
    · rw [if_neg h]
      have : (i ∈ v :: vs ∧ i < σ.length) ↔ (i ∈ vs ∧ i < σ.length) := by
        constructor
        · rintro ⟨a, b⟩
          rcases List.mem_cons.mp a with e | e
          · exact absurd e.symm h
          · exact ⟨e, b⟩
        · rintro ⟨a, b⟩
          exact ⟨List.mem_cons_of_mem _ a, b⟩
      simp only [this]
theorem wipe_set {σ : L2.St} {vs : List Nat} {j : Nat} {x : Option V} (h : j ∈ vs) : L2.wipe (σ.set j x) vs = L2.wipe σ vs := by
  apply List.ext_getElem?
  intro i
  rw [wipe_get, wipe_get, List.length_set, List.getElem?_set]
  by_cases hi : i ∈ vs ∧ i < σ.length
  · rw [if_pos hi, if_pos hi]
  · rw [if_neg hi, if_neg hi]
    by_cases e : j = i
    · subst e
      rw [if_pos rfl, if_neg (fun z => hi ⟨h, z⟩), List.getElem?_eq_none (Nat.le_of_not_lt fun z => hi ⟨h, z⟩)]
    · rw [if_neg e]
theorem wipe_wipe {σ : L2.St} {vs : List Nat} : L2.wipe (L2.wipe σ vs) vs = L2.wipe σ vs := by
  apply List.ext_getElem?
  intro i
  rw [wipe_get, L2.wipe_length, wipe_get]
  split <;> rfl
/-- a target stores nothing but own names -/
def GW (vs : List Nat) (g : TG) : Prop := ∀ (v : V) (σ W : L2.St) (H : Hp) (Q : L2.St → Hp → Prop), L2.wipe σ vs = W → g v σ H Q → g v σ H fun σ2 H2 => L2.wipe σ2 vs = W ∧ Q σ2 H2
theorem gwName {vs : List Nat} {j : Nat} (h : j ∈ vs) : GW vs (gName j) := fun v σ W H Q e q => ⟨by rw [wipe_set h]; exact e, q⟩
def dLc (ι : DI) (γ : DG) (θ : DT) (φ : DE) (vs : List Nat) : DE := fun Ψ δ μ Φ => ι Ψ δ μ fun xs μ1 => ∀ p, μ1 p = none → ∃ W : Nat → Sto → Prop, W 0 (sset μ1 p (.lst [])) ∧
  (∀ i d μ2, xs[i]? = some d → W i μ2 → γ d (dwipe δ vs) μ2 fun δ3 μ3 => θ Ψ δ3 μ3 fun b μ4 =>
    (b = true → φ Ψ δ3 μ4 fun y μ5 => ∃ acc, μ5 p = some (.lst acc) ∧ acc.length ≤ 100000 ∧ W (i + 1) (sset μ5 p (.lst (acc ++ [y])))) ∧ (b = false → W (i + 1) μ4)) ∧
  ∀ μ2, W xs.length μ2 → ∃ acc, μ2 p = some (.lst acc) ∧ Φ (.lst acc) (sdel μ2 p)
theorem sLc {wi : TI} {g : TG} {tt : TT} {te : TE} {vs : List Nat} {ι : DI} {γ : DG} {θ : DT} {φ : DE} (a : SI B wi ι) (w : GW vs g) (b : ∀ H1 μ1 e, SG (B.re H1 μ1 e) g γ) (c : ∀ H1 μ1 e, ST (B.re H1 μ1 e) tt θ) (d : ∀ H1 μ1 e, SE (B.re H1 μ1 e) te φ) :
    SE B (tLc wi g tt te vs) (dLc ι γ θ φ vs) := fun σ H δ μ Φ Q S q k =>
  a σ H δ μ _ _ S q fun xs J H1 μ1 S1 e1 it q1 => fun p hp => by
    have hμp : μ1 p = none := S1.sto.fresh hp
    obtain ⟨W, w0, ws, wd⟩ := q1 p hμp
    refine ⟨fun i m H' => m = xs.length - i ∧ i ≤ xs.length ∧ ∃ μ', Evo μ1 H1 μ' H' ∧ StoOk K μ' H' ∧ W i μ', ⟨xs.length, by simp, Nat.zero_le _, _, .newC S1.sto hp, sto_own S1.sto hp .nil, w0⟩, ?_⟩
    rintro i m H' ⟨rfl, hi, μ', e', s', wi'⟩
    by_cases hlt : i < xs.length
    · obtain ⟨hgo, hy⟩ := (it i H' μ' s' e').1 hlt
      refine .inr ⟨hgo, fun H2 => ∃ μ2, Evo μ1 H1 μ2 H2 ∧ StoOk K μ2 H2 ∧ W (i + 1) μ2, fun H2 ⟨μ2, e2, s2, w2⟩ => ⟨xs.length - (i + 1), by omega, rfl, by omega, μ2, e2, s2, w2⟩, fun x H2 y => ?_⟩
      obtain ⟨dd, hd, s2, e2, r2⟩ := hy x H2 y
      have S2 : (B.re H1 μ1 S1.evo).S (L2.wipe σ vs) H2 (dwipe δ vs) μ' := ⟨e'.trans e2, s2, ((S1.env.mono e').mono e2).wipe vs⟩
      refine w x (L2.wipe σ vs) (L2.wipe σ vs) H2 _ wipe_wipe ?_
      refine b H1 μ1 S1.evo x dd (L2.wipe σ vs) H2 (dwipe δ vs) μ' _ _ S2 r2 (ws i dd μ' hd wi') fun σ3 H3 δ3 μ3 S3 e3 q3 => ?_
      refine c H1 μ1 S1.evo σ3 H3 δ3 μ3 _ _ S3 q3 fun b4 H4 μ4 S4 e4 q4 => ?_
      cases b4 with
      | true =>
        rw [if_pos rfl]
        refine d H1 μ1 S1.evo σ3 H4 δ3 μ4 _ _ S4 (q4.1 rfl) fun v5 H5 y5 μ5 S5 e5 r5 q5 => ?_
        obtain ⟨acc, hacc, hz, w5⟩ := q5
        obtain ⟨us, h5, hr5⟩ := S5.sto _ _ hacc
        have e6 : Evo μ5 H5 (sset μ5 p (.lst (acc ++ [y5]))) (upd H5 p (.lst (us ++ [v5]))) := own_evo hacc
        obtain ⟨e7, s7⟩ := own_upd S5.sto hacc ((hr5.append r5).mono e6)
        exact ⟨us, h5, Nat.lt_of_le_of_lt (by rw [hr5.length]; exact hz) (by decide), _, S5.evo.trans e7, s7, w5⟩
      | false =>
        rw [if_neg Bool.false_ne_true]
        exact ⟨μ4, S4.evo, S4.sto, q4.2 rfl⟩
    · have e : i = xs.length := by omega
      subst e
      obtain ⟨acc, hacc, q2⟩ := wd μ' wi'
      obtain ⟨us, h5, hr5⟩ := s' _ _ hacc
      refine .inl ⟨(it _ H' μ' s' e').2 (Nat.le_refl _), ?_⟩
      have e8 : Evo μ1 H1 (sdel μ' p) H' := e'.trans sdel_sub.evo
      exact k (.ref p) H' (.lst acc) (sdel μ' p) (S1.step e8 (sdel_sub.sto s')) (e1.trans e8) (.lst ⟨h5, .of sdel_same⟩ (hr5.mono sdel_sub.evo) .nil) q2
def dYes : DT := fun _ _ μ Φ => Φ true μ
theorem sYes : ST B tYes dYes := fun σ H δ μ Φ Q S q k => k true H μ S .refl q
abbrev Con := List D → Sto → DK → (XD → Sto → Prop) → Prop
def spOf (K : Fg) (c : Con) : Sp := fun vs H Q E => ∃ μ ds Φ Ψ, StoOk K μ H ∧ Reps K μ H vs ds ∧ c ds μ Φ Ψ ∧
  (∀ v H' d μ', Evo μ H μ' H' → StoOk K μ' H' → Rep K μ' H' v d → Φ d μ' → Q v H') ∧
  ∀ cls dd H' x μ', Evo μ H μ' H' → StoOk K μ' H' → RepX K μ' H' cls dd x → Ψ x μ' → E cls dd H'
/-- a call that raises nothing -/
def dCall (c : Con) (ψ : DA) : DE := fun Ψ δ μ Φ => ψ Ψ δ μ fun xs μ1 => c xs μ1 Φ fun _ _ => False
theorem sCall {c : Con} {tas : TA} {ψ : DA} (a : SA B tas ψ) : SE B (tCall (spOf K c) [] E0 tas) (dCall c ψ) := fun σ H δ μ Φ Q S q k =>
  a σ H δ μ _ _ S q fun vs H1 xs μ1 S1 e1 r1 q1 => by
    rw [List.append_nil]
    exact ⟨μ1, xs, Φ, fun _ _ => False, S1.sto, r1, q1, fun v H2 d μ2 e2 s2 r2 q2 => k v H2 d μ2 (S1.step e2 s2) (e1.trans e2) r2 q2, fun _ _ _ _ _ _ _ _ z => z⟩
/-- a call that may raise -/
def dCallS (c : Con) (ψ : DA) : DE := fun Ψ δ μ Φ => ψ Ψ δ μ fun xs μ1 => c xs μ1 Φ fun x μ2 => Ψ x δ μ2
theorem sCallS {c : Con} {tas : TA} {ψ : DA} (a : SA B tas ψ) : SE B (tCallS (spOf K c) (WE B.W) tas) (dCallS c ψ) := fun σ H δ μ Φ Q S q k =>
  a σ H δ μ _ _ S q fun vs H1 xs μ1 S1 e1 r1 q1 =>
    ⟨μ1, xs, Φ, fun x μ2 => B.Ψ x δ μ2, S1.sto, r1, q1, fun v H2 d μ2 e2 s2 r2 q2 => k v H2 d μ2 (S1.step e2 s2) (e1.trans e2) r2 q2, fun cls dd H2 x μ2 e2 s2 r2 q2 => B.hW cls dd σ H2 x δ μ2 (S1.step e2 s2) r2 q2⟩
/-- raise C('..'), a class without own fields -/
def dRaise0 (C : Addr) : DSt := fun Ψ _ δ μ => Ψ (.mk C none) δ μ
theorem sRaise0 {C : Addr} : SS B (fun _ σ H => (fun (_ : L2.St) (H : Hp) (Q : XK) => Q (.ref C) none H) σ H fun cls d H' => B.W cls d σ H') (dRaise0 C) := fun D Δ σ H δ μ E S q => B.hW _ _ σ H (.mk C none) δ μ S ⟨rfl, rfl⟩ q
def dstart (N : List Str) (ds : List D) : DEnv := ds.map some ++ List.replicate (N.length - ds.length) none
theorem env_start {μ : Sto} {H : Hp} {N : List Str} {vs : List V} {ds : List D} (r : Reps K μ H vs ds) : EnvOk K μ H (L2.start N vs) (dstart N ds) := by
  have hl := r.length
  refine ⟨by unfold L2.start dstart; simp [hl], fun i d q => ?_⟩
  unfold dstart at q
  unfold L2.start
  by_cases h : i < ds.length
  · rw [List.getElem?_append_left (by simpa using h), List.getElem?_map] at q
    cases e : ds[i]? with
    | none => rw [e] at q; cases q
    | some y =>
      rw [e] at q
      cases q
      obtain ⟨v, ev, rv⟩ := r.get e
      exact ⟨v, by rw [List.getElem?_append_left (by simpa [hl] using h), List.getElem?_map, ev]; rfl, rv⟩
  · rw [List.getElem?_append_right (by simpa using h), List.getElem?_replicate] at q
    split at q <;> cases q
/-- what a def's body must bring about -/
abbrev goalE (Φ : DK) : DEnds := ⟨fun _ μ' => ∃ μ2, Sub μ2 μ' ∧ Φ .non μ2, fun d μ' => ∃ μ2, Sub μ2 μ' ∧ Φ d μ2, fun _ _ => False, fun _ _ => False⟩
abbrev goalX (Ψ : XD → Sto → Prop) : XP := fun x _ μ' => ∃ μ2, Sub μ2 μ' ∧ Ψ x μ2
theorem RepX.mono {μ μ' : Sto} {H H' : Hp} {cls : Value} {dd : Option Addr} {x : XD} (e : Evo μ H μ' H') (h : RepX K μ H cls dd x) : RepX K μ' H' cls dd x := by
  obtain ⟨C, fs⟩ := x
  cases fs with
  | none => exact h
  | some f =>
    obtain ⟨ns, ds⟩ := f
    obtain ⟨h1, d, us, h2, h3, h4, h5, h6⟩ := h
    exact ⟨h1, d, us, h2, (e.st _ _ h3 h4).1, (e.st _ _ h3 h4).2, h5, h6.mono e⟩
end
end DW
set_option Elab.async false
set_option linter.all false
set_option maxRecDepth 100000
namespace DW
open PySem PySem.Spec L2
section
variable {α : Type} {μ μ' : Sto} {Φ : DK} {i j : Int} {x y : D} {xs ys ds : List D} {δ : DEnv} {Ψ : XP} {Δ : DEnds} {b : Bool} {s t : Str}
theorem ex_some {a : α} {P : α → Prop} : (∃ d, some (some a) = some (some d) ∧ P d) = P a := propext ⟨fun ⟨d, e, p⟩ => by cases e; exact p, fun p => ⟨a, rfl, p⟩⟩
theorem w_I0 {g : Int → Int → D} : oI0 g (.int i) (.int j) μ Φ = Φ (g i j) μ := propext ⟨fun ⟨a, b, e1, e2, q⟩ => by cases e1; cases e2; exact q, fun q => ⟨i, j, rfl, rfl, q⟩⟩
theorem w_I {C : Int → Int → Prop} {g : Int → Int → D} : oI C g (.int i) (.int j) μ Φ = (C i j ∧ Φ (g i j) μ) := propext ⟨fun ⟨a, b, e1, e2, q⟩ => by cases e1; cases e2; exact q, fun q => ⟨i, j, rfl, rfl, q⟩⟩
theorem w_uI {g : Int → Int} : uI g (.int i) μ Φ = Φ (.int (g i)) μ := propext ⟨fun ⟨a, e1, q⟩ => by cases e1; exact q, fun q => ⟨i, rfl, q⟩⟩
theorem w_int : cInt [.int i] μ Φ = Φ (.int i) μ := propext (Iff.intro (by
  rintro ⟨a, q⟩
  rcases q with ⟨e, q⟩ | ⟨_, e, q⟩
  · cases e; exact q
  · cases e) (fun q => ⟨i, .inl ⟨rfl, q⟩⟩))
theorem w_bl {P : Bool → Prop} : (∃ c, D.bl b = .bl c ∧ P c) = P b := propext ⟨fun ⟨c, e, q⟩ => by cases e; exact q, fun q => ⟨b, rfl, q⟩⟩
theorem w_isi {T : String} : cIsi T [x, .hd (.ty T)] μ Φ = ∃ b, instB x T = some b ∧ Φ (.bl b) μ := propext ⟨fun ⟨y, b, e, q⟩ => by cases e; exact ⟨b, q⟩, fun ⟨b, q⟩ => ⟨x, b, rfl, q⟩⟩
theorem w_someb {P : Bool → Prop} : (∃ c, some b = some c ∧ P c) = P b := propext ⟨fun ⟨c, e, q⟩ => by cases e; exact q, fun q => ⟨b, rfl, q⟩⟩
theorem w_eqI : oEq (.int i) (.int j) μ Φ = Φ (.bl (decide (i = j))) μ := w_someb
theorem w_neI : oNe (.int i) (.int j) μ Φ = Φ (.bl (!decide (i = j))) μ := w_someb
theorem w_eqS : oEq (.str s) (.str t) μ Φ = Φ (.bl (decide (s = t))) μ := w_someb
theorem w_neS : oNe (.str s) (.str t) μ Φ = Φ (.bl (!decide (s = t))) μ := w_someb
theorem w_lenT : cLen [.tup ds] μ Φ = Φ (.int ds.length) μ := propext ⟨fun ⟨x, es, e, h, q⟩ => by cases e; cases h; exact q, fun q => ⟨_, _, rfl, .tup ds, q⟩⟩
theorem w_lenL : cLen [.lst ds] μ Φ = Φ (.int ds.length) μ := propext ⟨fun ⟨x, es, e, h, q⟩ => by cases e; cases h; exact q, fun q => ⟨_, _, rfl, .lst ds, q⟩⟩
theorem w_lenS {ns : List Int} : cLen [.scr ns] μ Φ = Φ (.int ns.length) μ := propext ⟨fun ⟨x, es, e, h, q⟩ => by cases e; cases h; rw [List.length_map] at q; exact q, fun q => ⟨_, _, rfl, .scr ns, by rw [List.length_map]; exact q⟩⟩
theorem w_tupL : cTuple [.lst ds] μ Φ = Φ (.tup ds) μ := propext ⟨fun ⟨x, es, e, h, q⟩ => by cases e; cases h; exact q, fun q => ⟨_, _, rfl, .lst ds, q⟩⟩
theorem w_tupT : cTuple [.tup ds] μ Φ = Φ (.tup ds) μ := propext ⟨fun ⟨x, es, e, h, q⟩ => by cases e; cases h; exact q, fun q => ⟨_, _, rfl, .tup ds, q⟩⟩
theorem w_ixT : oIxT (.tup ds) (.int i) μ Φ = ∃ d, atI ds i = some d ∧ Φ d μ := propext ⟨fun ⟨x, es, d, e1, e2, q⟩ => by cases e1; cases e2; exact ⟨d, q⟩, fun ⟨d, q⟩ => ⟨_, _, d, rfl, rfl, q⟩⟩
theorem w_ixL : oIxL (.lst ds) (.int i) μ Φ = ∃ d, atI ds i = some d ∧ Φ d μ := propext ⟨fun ⟨x, es, d, e1, _, e2, q⟩ => by cases e1; cases e2; exact ⟨d, q⟩, fun ⟨d, q⟩ => ⟨_, _, d, .lst ds, rfl, rfl, q⟩⟩
theorem w_ixS {ns : List Int} : oIxL (.scr ns) (.int i) μ Φ = ∃ d, atI (ns.map D.int) i = some d ∧ Φ d μ := propext ⟨fun ⟨x, es, d, e1, _, e2, q⟩ => by cases e1; cases e2; exact ⟨d, q⟩, fun ⟨d, q⟩ => ⟨_, _, d, .scr ns, rfl, rfl, q⟩⟩
theorem w_catT : oCatT (.tup xs) (.tup ys) μ Φ = (xs.length + ys.length ≤ 100000 ∧ Φ (.tup (xs ++ ys)) μ) := propext ⟨fun ⟨x, es, e1, e2, q⟩ => by cases e1; cases e2; exact q, fun q => ⟨_, _, rfl, rfl, q⟩⟩
theorem w_catL : oCatL (.lst xs) (.lst ys) μ Φ = (xs.length + ys.length ≤ 100000 ∧ Φ (.lst (xs ++ ys)) μ) := propext ⟨fun ⟨x, es, e1, e2, q⟩ => by cases e1; cases e2; exact q, fun q => ⟨_, _, rfl, rfl, q⟩⟩
theorem w_all {bs : List Bool} : cAll [.lst (bs.map .bl)] μ Φ = Φ (.bl (bs.all id)) μ := propext (Iff.intro (by
  rintro ⟨cs, e, q⟩
  have e2 : bs = cs := by
    injection e with e _
    injection e with e
    exact (List.map_inj_right (fun _ _ z => by cases z; rfl)).mp e
  subst e2
  exact q) (fun q => ⟨bs, rfl, q⟩))
theorem w_any {bs : List Bool} : cAny [.lst (bs.map .bl)] μ Φ = Φ (.bl (bs.any id)) μ := propext (Iff.intro (by
  rintro ⟨cs, e, q⟩
  have e2 : bs = cs := by
    injection e with e _
    injection e with e
    exact (List.map_inj_right (fun _ _ z => by cases z; rfl)).mp e
  subst e2
  exact q) (fun q => ⟨bs, rfl, q⟩))
theorem w_min2 : cMin2 [.int i, .int j] μ Φ = Φ (.int (if j < i then j else i)) μ := propext ⟨fun ⟨a, b, e, q⟩ => by cases e; exact q, fun q => ⟨_, _, rfl, q⟩⟩
theorem w_divmod : cDivmod [.int i, .int j] μ Φ = (CDivP i j ∧ Φ (.pr [.int (i / j), .int (i % j)]) μ) := propext ⟨fun ⟨a, b, e, q⟩ => by cases e; exact q, fun q => ⟨_, _, rfl, q⟩⟩
theorem w_listS {ns : List Int} : cList [.scr ns] μ Φ = Φ (.lst (ns.map .int)) μ := propext ⟨fun ⟨x, es, e, h, q⟩ => by cases e; cases h; exact q, fun q => ⟨_, _, rfl, .scr ns, q⟩⟩
theorem w_listL : cList [.lst ds] μ Φ = Φ (.lst ds) μ := propext ⟨fun ⟨x, es, e, h, q⟩ => by cases e; cases h; exact q, fun q => ⟨_, _, rfl, .lst ds, q⟩⟩
theorem w_listT : cList [.tup ds] μ Φ = Φ (.lst ds) μ := propext ⟨fun ⟨x, es, e, h, q⟩ => by cases e; cases h; exact q, fun q => ⟨_, _, rfl, .tup ds, q⟩⟩
theorem w_isN {x : D} : oIsN x .non μ Φ = ∃ b, isNone x = some b ∧ Φ (.bl b) μ := propext ⟨fun ⟨_, q⟩ => q, fun q => ⟨rfl, q⟩⟩
theorem w_notN {x : D} : oNotN x .non μ Φ = ∃ b, isNone x = some b ∧ Φ (.bl (!b)) μ := propext ⟨fun ⟨_, q⟩ => q, fun q => ⟨rfl, q⟩⟩
section
variable {φ φa φb φc : DE} {γ : DG} {ω ζ : DSt} {θ ϑ : DT} {ψ : DA} {ρ ρ' : DO} {σ : DU} {κ : DC} {c : Con} {n : Nat} {C : Addr} {d : D} {Th : Bool → Sto → Prop} {Ls : List D → Sto → Prop} {Pn : DEnv → Sto → Prop} {η : List D → DEnv → Sto → (DEnv → Sto → Prop) → Prop} {ol oh : XP → DEnv → Sto → (Option Int → Sto → Prop) → Prop} {Xo : Option Int → Sto → Prop}
theorem u_seq : dSeq ω ζ Ψ Δ δ μ = ω Ψ { Δ with nx := ζ Ψ Δ } δ μ := rfl
theorem u_asg : dAsg φ γ Ψ Δ δ μ = φ Ψ δ μ fun x μ1 => γ x δ μ1 Δ.nx := rfl
theorem u_asgS : dAsgS φ φa φb Ψ Δ δ μ = φ Ψ δ μ fun x μ1 => eSub φa φb Ψ x δ μ1 Δ.nx := rfl
theorem u_ret : dRet φ Ψ Δ δ μ = φ Ψ δ μ Δ.rt := rfl
theorem u_retN : dRetN Ψ Δ δ μ = Δ.rt .non μ := rfl
theorem u_if : dIfS θ ω ζ Ψ Δ δ μ = θ Ψ δ μ fun b μ1 => (b = true → ω Ψ Δ δ μ1) ∧ (b = false → ζ Ψ Δ δ μ1) := rfl
theorem u_next : dNext Ψ Δ δ μ = Δ.nx δ μ := rfl
theorem u_break : dBreak Ψ Δ δ μ = Δ.bk δ μ := rfl
theorem u_cont : dCont Ψ Δ δ μ = Δ.ct δ μ := rfl
theorem u_drop : dDrop φ Ψ Δ δ μ = φ Ψ δ μ fun _ μ1 => Δ.nx δ μ1 := rfl
theorem u_raise : dRaise0 C Ψ Δ δ μ = Ψ (.mk C none) δ μ := rfl
theorem u_aug : dAug n φ ρ Ψ Δ δ μ = ∃ x, δ[n]? = some (some x) ∧ φ Ψ δ μ fun y μ1 => ρ x y μ1 fun z μ2 => Δ.nx (δ.set n (some z)) μ2 := rfl
theorem u_var : dVar n Ψ δ μ Φ = ∃ d, δ[n]? = some (some d) ∧ Φ d μ := rfl
theorem u_rest : dRest n Ψ δ μ Φ = ∃ a ds, δ[n]? = some (some (.hd (.ref a))) ∧ μ a = some (.lst ds) ∧ Φ (.lst ds) (sset μ a (.frz ds)) := rfl
theorem u_c : dC d Ψ δ μ Φ = Φ d μ := rfl
theorem u_op : dOp ρ φa φb Ψ δ μ Φ = φa Ψ δ μ fun x μ1 => φb Ψ δ μ1 fun y μ2 => ρ x y μ2 Φ := rfl
theorem u_un : dUn σ φa Ψ δ μ Φ = φa Ψ δ μ fun x μ1 => σ x μ1 Φ := rfl
theorem u_test : dTest φ Ψ δ μ Th = φ Ψ δ μ fun x μ1 => ∃ b, x = .bl b ∧ Th b μ1 := rfl
theorem u_and : dAnd θ ϑ Ψ δ μ Th = θ Ψ δ μ fun b μ1 => (b = true → ϑ Ψ δ μ1 Th) ∧ (b = false → Th false μ1) := rfl
theorem u_or : dOr θ ϑ Ψ δ μ Th = θ Ψ δ μ fun b μ1 => (b = true → Th true μ1) ∧ (b = false → ϑ Ψ δ μ1 Th) := rfl
theorem u_not : dNot θ Ψ δ μ Th = θ Ψ δ μ fun b μ1 => Th (!b) μ1 := rfl
theorem u_yes : dYes Ψ δ μ Th = Th true μ := rfl
theorem u_andV : dAndV φa φb Ψ δ μ Φ = φa Ψ δ μ fun x μ1 => ∃ b, x = .bl b ∧ (b = true → φb Ψ δ μ1 Φ) ∧ (b = false → Φ (.bl false) μ1) := rfl
theorem u_orV : dOrV φa φb Ψ δ μ Φ = φa Ψ δ μ fun x μ1 => ∃ b, x = .bl b ∧ (b = true → Φ (.bl true) μ1) ∧ (b = false → φb Ψ δ μ1 Φ) := rfl
theorem u_notV : dNotV φa Ψ δ μ Φ = φa Ψ δ μ fun x μ1 => ∃ b, x = .bl b ∧ Φ (.bl (!b)) μ1 := rfl
theorem u_ifE : dIf θ φa φb Ψ δ μ Φ = θ Ψ δ μ fun b μ1 => (b = true → φa Ψ δ μ1 Φ) ∧ (b = false → φb Ψ δ μ1 Φ) := rfl
theorem u_chain : dChain ρ ρ' φa φb φc Ψ δ μ Φ = φa Ψ δ μ fun x μ1 => φb Ψ δ μ1 fun y μ2 => ρ x y μ2 fun z μ3 => ∃ b, z = .bl b ∧ (b = true → φc Ψ δ μ3 fun u μ4 => ρ' y u μ4 Φ) ∧ (b = false → Φ (.bl false) μ3) := rfl
theorem u_nil : dNil Ψ δ μ Ls = Ls [] μ := rfl
theorem u_cons : dCons φ ψ Ψ δ μ Ls = φ Ψ δ μ fun x μ1 => ψ Ψ δ μ1 fun xs μ2 => Ls (x :: xs) μ2 := rfl
theorem u_tup : dTup ψ Ψ δ μ Φ = ψ Ψ δ μ fun xs μ1 => xs.length ≤ 100000 ∧ Φ (.tup xs) μ1 := rfl
theorem u_lst : dLst ψ Ψ δ μ Φ = ψ Ψ δ μ fun xs μ1 => xs.length ≤ 100000 ∧ Φ (.lst xs) μ1 := rfl
theorem u_own : dOwn ψ Ψ δ μ Φ = ψ Ψ δ μ fun xs μ1 => xs.length ≤ 100000 ∧ ∀ p, μ1 p = none → Φ (.hd (.ref p)) (sset μ1 p (.lst xs)) := rfl
theorem u_cb : dCB κ ψ Ψ δ μ Φ = ψ Ψ δ μ fun xs μ1 => κ xs μ1 Φ := rfl
theorem u_call : dCall c ψ Ψ δ μ Φ = ψ Ψ δ μ fun xs μ1 => c xs μ1 Φ fun _ _ => False := rfl
theorem u_callS : dCallS c ψ Ψ δ μ Φ = ψ Ψ δ μ fun xs μ1 => c xs μ1 Φ fun x μ2 => Ψ x δ μ2 := rfl
theorem u_name : eName n d δ μ Pn = Pn (δ.set n (some d)) μ := rfl
theorem u_etup : eTup n η d δ μ Pn = ∃ ds, tpl d = some ds ∧ ds.length = n ∧ η ds δ μ Pn := rfl
theorem w_tplT {P : List D → Prop} : (∃ es, tpl (.tup ds) = some es ∧ P es) = P ds := propext ⟨fun ⟨c, e, q⟩ => by cases e; exact q, fun q => ⟨ds, rfl, q⟩⟩
theorem w_tplP {P : List D → Prop} : (∃ es, tpl (.pr ds) = some es ∧ P es) = P ds := propext ⟨fun ⟨c, e, q⟩ => by cases e; exact q, fun q => ⟨ds, rfl, q⟩⟩
theorem u_enil : eNil xs δ μ Pn = (xs = [] ∧ Pn δ μ) := rfl
theorem u_econs : eCons γ η xs δ μ Pn = ∃ d r, xs = d :: r ∧ γ d δ μ fun δ' μ' => η r δ' μ' Pn := rfl
theorem u_sub : eSub φa φb Ψ d δ μ Pn = φa Ψ δ μ fun x μ1 => φb Ψ δ μ1 fun y μ2 => ∃ a ds i j, x = .hd (.ref a) ∧ y = .int i ∧ μ2 a = some (.lst ds) ∧ ixN ds.length i = some j ∧ Pn δ (sset μ2 a (.lst (ds.set j d))) := rfl
theorem u_app : dApp φa φb Ψ δ μ Φ = φa Ψ δ μ fun x μ1 => ∃ a ds, x = .hd (.ref a) ∧ μ1 a = some (.lst ds) ∧ φb Ψ δ μ1 fun y μ2 => ∃ es, μ2 a = some (.lst es) ∧ es.length ≤ 100000 ∧ Φ .non (sset μ2 a (.lst (es ++ [y]))) := rfl
theorem u_slT : dSlT φ ol oh Ψ δ μ Φ = φ Ψ δ μ fun x μ1 => ol Ψ δ μ1 fun lo μ2 => oh Ψ δ μ2 fun hi μ3 => ∃ ds, x = .tup ds ∧ Φ (.tup (cutD ds lo hi)) μ3 := rfl
theorem u_slL : dSlL φ ol oh Ψ δ μ Φ = φ Ψ δ μ fun x μ1 => ol Ψ δ μ1 fun lo μ2 => oh Ψ δ μ2 fun hi μ3 => ∃ ds, Items μ3 x ds ∧ isTup x = false ∧ Φ (.lst (cutD ds lo hi)) μ3 := rfl
theorem u_noPart : dNoPart Ψ δ μ Xo = Xo none μ := rfl
theorem u_part : dPart φ Ψ δ μ Xo = φ Ψ δ μ fun x μ1 => ∃ i, x = .int i ∧ Xo (some i) μ1 := rfl
theorem u_revL : dRevL φ Ψ δ μ Φ = φ Ψ δ μ fun x μ1 => ∃ ds, Items μ1 x ds ∧ isTup x = false ∧ Φ (.lst ds.reverse) μ1 := rfl
end
theorem w_tupE {P : List D → Prop} : (∃ es, D.tup ds = .tup es ∧ P es) = P ds := propext ⟨fun ⟨c, e, q⟩ => by cases e; exact q, fun q => ⟨ds, rfl, q⟩⟩
theorem w_intE {P : Int → Prop} : (∃ j, D.int i = .int j ∧ P j) = P i := propext ⟨fun ⟨c, e, q⟩ => by cases e; exact q, fun q => ⟨i, rfl, q⟩⟩
theorem w_consE {P : D → List D → Prop} : (∃ d r, x :: xs = d :: r ∧ P d r) = P x xs := propext ⟨fun ⟨c, r, e, q⟩ => by cases e; exact q, fun q => ⟨x, xs, rfl, q⟩⟩
theorem w_hdE {a : Addr} {P : Addr → List D → Prop} : (∃ b es, D.hd (.ref a) = .hd (.ref b) ∧ P b es) = ∃ es, P a es := propext ⟨fun ⟨b, es, e, q⟩ => by cases e; exact ⟨es, q⟩, fun ⟨es, q⟩ => ⟨a, es, rfl, q⟩⟩
theorem w_cell {a : Addr} {P : List D → Prop} (h : μ a = some (.lst ds)) : (∃ es, μ a = some (.lst es) ∧ P es) = P ds := propext ⟨fun ⟨es, e, q⟩ => by rw [h] at e; cases e; exact q, fun q => ⟨ds, h, q⟩⟩
theorem w_cellS {a : Addr} {P : List D → Prop} : (∃ es, sset μ a (.lst ds) a = some (.lst es) ∧ P es) = P ds := w_cell sset_same
theorem w_set {a : Addr} {P' : Addr → List D → Nat → Prop} : (∃ b es k j, D.hd (.ref a) = .hd (.ref b) ∧ D.int i = .int k ∧ μ b = some (.lst es) ∧ ixN es.length k = some j ∧ P' b es j) = (∃ es, μ a = some (.lst es) ∧ ∃ j, ixN es.length i = some j ∧ P' a es j) := propext ⟨fun ⟨b, es, k, j, e1, e2, q1, q2⟩ => by cases e1; cases e2; exact ⟨es, q1, j, q2⟩, fun ⟨es, q1, j, q2⟩ => ⟨a, es, i, j, rfl, rfl, q1, q2⟩⟩
theorem at0 {P : D → Prop} {x0 : D} : (∃ d, atI (x0 :: xs) 0 = some d ∧ P d) = P x0 := propext ⟨fun ⟨d, e, q⟩ => by rw [show (0 : Int) = ((0 : Nat) : Int) from rfl, atI_nat (j := 0) rfl] at e; cases e; exact q, fun q => ⟨x0, atI_nat (j := 0) rfl, q⟩⟩
theorem at1 {P : D → Prop} {x0 x1 : D} : (∃ d, atI (x0 :: x1 :: xs) 1 = some d ∧ P d) = P x1 := propext ⟨fun ⟨d, e, q⟩ => by rw [show (1 : Int) = ((1 : Nat) : Int) from rfl, atI_nat (j := 1) rfl] at e; cases e; exact q, fun q => ⟨x1, atI_nat (j := 1) rfl, q⟩⟩
theorem at2 {P : D → Prop} {x0 x1 x2 : D} : (∃ d, atI (x0 :: x1 :: x2 :: xs) 2 = some d ∧ P d) = P x2 := propext ⟨fun ⟨d, e, q⟩ => by rw [show (2 : Int) = ((2 : Nat) : Int) from rfl, atI_nat (j := 2) rfl] at e; cases e; exact q, fun q => ⟨x2, atI_nat (j := 2) rfl, q⟩⟩
theorem at3 {P : D → Prop} {x0 x1 x2 x3 : D} : (∃ d, atI (x0 :: x1 :: x2 :: x3 :: xs) 3 = some d ∧ P d) = P x3 := propext ⟨fun ⟨d, e, q⟩ => by rw [show (3 : Int) = ((3 : Nat) : Int) from rfl, atI_nat (j := 3) rfl] at e; cases e; exact q, fun q => ⟨x3, atI_nat (j := 3) rfl, q⟩⟩
theorem ix40 {P : Nat → Prop} : (∃ j, ixN 4 0 = some j ∧ P j) = P 0 := propext ⟨fun ⟨j, e, q⟩ => by cases e; exact q, fun q => ⟨0, rfl, q⟩⟩
theorem ix42 {P : Nat → Prop} : (∃ j, ixN 4 2 = some j ∧ P j) = P 2 := propext ⟨fun ⟨j, e, q⟩ => by cases e; exact q, fun q => ⟨2, rfl, q⟩⟩
theorem ix43 {P : Nat → Prop} : (∃ j, ixN 4 3 = some j ∧ P j) = P 3 := propext ⟨fun ⟨j, e, q⟩ => by cases e; exact q, fun q => ⟨3, rfl, q⟩⟩
theorem mapI_get {ws : List Int} {i : Nat} {d : D} (h : (ws.map D.int)[i]? = some d) : ∃ z, ws[i]? = some z ∧ d = .int z := by
  rw [List.getElem?_map] at h
  cases e : ws[i]? with
  | none => rw [e] at h; cases h
  | some z => rw [e] at h; cases h; exact ⟨z, rfl, rfl⟩
theorem v_ixH {a : Addr} : oIxL (.hd (.ref a)) (.int i) μ Φ = ((∃ es, μ a = some (.lst es) ∧ ∃ d, atI es i = some d ∧ Φ d μ) ∨ (∃ es, μ a = some (.frz es) ∧ ∃ d, atI es i = some d ∧ Φ d μ)) := propext (Iff.intro (by
  rintro ⟨es, k, d, hi, _, e, q⟩
  cases e
  cases hi with
  | own h => exact .inl ⟨es, h, d, q⟩
  | frz h => exact .inr ⟨es, h, d, q⟩) (by
  rintro (⟨es, h, d, q⟩ | ⟨es, h, d, q⟩)
  · exact ⟨es, i, d, .own h, rfl, rfl, q⟩
  · exact ⟨es, i, d, .frz h, rfl, rfl, q⟩))
theorem v_items {a : Addr} {P : List D → Prop} : (∃ es, Items μ (.hd (.ref a)) es ∧ P es) = ((∃ es, μ a = some (.lst es) ∧ P es) ∨ (∃ es, μ a = some (.frz es) ∧ P es)) := propext (Iff.intro (by
  rintro ⟨es, hi, q⟩
  cases hi with
  | own h => exact .inl ⟨es, h, q⟩
  | frz h => exact .inr ⟨es, h, q⟩) (by
  rintro (⟨es, h, q⟩ | ⟨es, h, q⟩)
  · exact ⟨es, .own h, q⟩
  · exact ⟨es, .frz h, q⟩))
theorem v_itemsT {P : List D → Prop} : (∃ es, Items μ (.tup ds) es ∧ P es) = P ds := propext ⟨fun ⟨es, h, q⟩ => by cases h; exact q, fun q => ⟨ds, .tup ds, q⟩⟩
theorem v_itemsL {P : List D → Prop} : (∃ es, Items μ (.lst ds) es ∧ P es) = P ds := propext ⟨fun ⟨es, h, q⟩ => by cases h; exact q, fun q => ⟨ds, .lst ds, q⟩⟩
theorem v_itemsS {ns : List Int} {P : List D → Prop} : (∃ es, Items μ (.scr ns) es ∧ P es) = P (ns.map .int) := propext ⟨fun ⟨es, h, q⟩ => by cases h; exact q, fun q => ⟨_, .scr ns, q⟩⟩
theorem v_len : cLen [x] μ Φ = ∃ es, Items μ x es ∧ Φ (.int es.length) μ := propext ⟨fun ⟨y, es, e, h, q⟩ => by cases e; exact ⟨es, h, q⟩, fun ⟨es, h, q⟩ => ⟨x, es, rfl, h, q⟩⟩
theorem v_tuple : cTuple [x] μ Φ = ∃ es, Items μ x es ∧ Φ (.tup es) μ := propext ⟨fun ⟨y, es, e, h, q⟩ => by cases e; exact ⟨es, h, q⟩, fun ⟨es, h, q⟩ => ⟨x, es, rfl, h, q⟩⟩
theorem v_list : cList [x] μ Φ = ∃ es, Items μ x es ∧ Φ (.lst es) μ := propext ⟨fun ⟨y, es, e, h, q⟩ => by cases e; exact ⟨es, h, q⟩, fun ⟨es, h, q⟩ => ⟨x, es, rfl, h, q⟩⟩
theorem v_listOwn : cListOwn [x] μ Φ = ∃ es, Items μ x es ∧ ∀ p, μ p = none → Φ (.hd (.ref p)) (sset μ p (.lst es)) := propext ⟨fun ⟨y, es, e, h, q⟩ => by cases e; exact ⟨es, h, q⟩, fun ⟨es, h, q⟩ => ⟨x, es, rfl, h, q⟩⟩
section
variable {T : String}
theorem i_tT : instB (.tup xs) "tuple" = some true := rfl
theorem i_tI : instB (.tup xs) "int" = some false := rfl
theorem i_tB : instB (.tup xs) "bool" = some false := rfl
theorem i_tS : instB (.tup xs) "str" = some false := rfl
theorem i_nT : instB .non "tuple" = some false := rfl
theorem i_nI : instB .non "int" = some false := rfl
theorem i_nB : instB .non "bool" = some false := rfl
theorem i_nS : instB .non "str" = some false := rfl
theorem i_iT : instB (.int i) "tuple" = some false := rfl
theorem i_iI : instB (.int i) "int" = some true := rfl
theorem i_iB : instB (.int i) "bool" = some false := rfl
theorem i_iS : instB (.int i) "str" = some false := rfl
theorem i_bT : instB (.bl b) "tuple" = some false := rfl
theorem i_bI : instB (.bl b) "int" = some true := rfl
theorem i_bB : instB (.bl b) "bool" = some true := rfl
theorem i_bS : instB (.bl b) "str" = some false := rfl
theorem i_sT : instB (.str s) "tuple" = some false := rfl
theorem i_sI : instB (.str s) "int" = some false := rfl
theorem i_sB : instB (.str s) "bool" = some false := rfl
theorem i_sS : instB (.str s) "str" = some true := rfl
end
theorem w_eqB {c : Bool} : oEq (.bl b) (.bl c) μ Φ = Φ (.bl (decide (b = c))) μ := w_someb
/-- the turns of a comprehension that changes nothing -/
def givenD (n : Nat) (f : Nat → Bool) (v : Nat → D) : List D := ((List.range n).filter f).map v
theorem givenD_yes {n : Nat} {f : Nat → Bool} {v : Nat → D} (h : f n = true) : givenD (n + 1) f v = givenD n f v ++ [v n] := by
  unfold givenD
  rw [List.range_succ, List.filter_append, List.map_append, List.filter_cons, if_pos h] <;> rfl
theorem givenD_no {n : Nat} {f : Nat → Bool} {v : Nat → D} (h : f n = false) : givenD (n + 1) f v = givenD n f v := by
  unfold givenD
  rw [List.range_succ, List.filter_append, List.map_append, List.filter_cons, if_neg (by rw [h]; decide)]
  exact List.append_nil _
theorem givenD_len (n : Nat) (f : Nat → Bool) (v : Nat → D) : (givenD n f v).length ≤ n := by
  unfold givenD
  rw [List.length_map]
  have h := List.length_filter_le f (List.range n)
  rw [List.length_range] at h
  exact h
theorem givenD_all (n : Nat) (v : Nat → D) : givenD n (fun _ => true) v = (List.range n).map v := by
  unfold givenD
  rw [List.filter_eq_self.mpr fun _ _ => rfl]
theorem lc_go {γ : DG} {θ : DT} {φ : DE} {δw : DEnv} {μ1 : Sto} {xs : List D} (f : Nat → Bool) (v : Nat → D) (hz : xs.length ≤ 100000)
    (hs : ∀ (i : Nat) (d : D) (μ2 : Sto) (X : DK) (Y : Sto → Prop), xs[i]? = some d → Sub μ1 μ2 → (f i = true → X (v i) μ2) → (f i = false → Y μ2) →
      γ d δw μ2 fun δ3 μ3 => θ Ψ δ3 μ3 fun b μ4 => (b = true → φ Ψ δ3 μ4 X) ∧ (b = false → Y μ4))
    (hd : Φ (.lst (givenD xs.length f v)) μ1) : ∀ p, μ1 p = none → ∃ W : Nat → Sto → Prop, W 0 (sset μ1 p (.lst [])) ∧
  (∀ i d μ2, xs[i]? = some d → W i μ2 → γ d δw μ2 fun δ3 μ3 => θ Ψ δ3 μ3 fun b μ4 =>
    (b = true → φ Ψ δ3 μ4 fun y μ5 => ∃ acc, μ5 p = some (.lst acc) ∧ acc.length ≤ 100000 ∧ W (i + 1) (sset μ5 p (.lst (acc ++ [y])))) ∧ (b = false → W (i + 1) μ4)) ∧
  ∀ μ2, W xs.length μ2 → ∃ acc, μ2 p = some (.lst acc) ∧ Φ (.lst acc) (sdel μ2 p) := fun p hp => by
  refine ⟨fun i μ' => μ' = sset μ1 p (.lst (givenD i f v)), rfl, fun i d μ2 hi e => ?_, fun μ2 e => ?_⟩
  · subst e
    have hl : i < xs.length := (List.getElem?_eq_some_iff.mp hi).1
    refine hs i d _ _ _ hi (.set Sub.refl hp) (fun hf => ⟨_, sset_same, ?_, ?_⟩) fun hf => ?_
    · have := givenD_len i f v; omega
    · show sset (sset μ1 p (.lst (givenD i f v))) p (.lst (givenD i f v ++ [v i])) = sset μ1 p (.lst (givenD (i + 1) f v))
      rw [sset_sset, givenD_yes hf]
    · show sset μ1 p (.lst (givenD i f v)) = sset μ1 p (.lst (givenD (i + 1) f v))
      rw [givenD_no hf]
  · subst e
    refine ⟨_, sset_same, ?_⟩
    rw [sdel_sset hp]
    exact hd
/-- the list of a comprehension -/
def LcG (γ : DG) (θ : DT) (φ : DE) (δw : DEnv) (Ψ : XP) (xs : List D) (μ1 : Sto) (Φ : DK) : Prop := ∀ p, μ1 p = none → ∃ W : Nat → Sto → Prop, W 0 (sset μ1 p (.lst [])) ∧
  (∀ i d μ2, xs[i]? = some d → W i μ2 → γ d δw μ2 fun δ3 μ3 => θ Ψ δ3 μ3 fun b μ4 =>
    (b = true → φ Ψ δ3 μ4 fun y μ5 => ∃ acc, μ5 p = some (.lst acc) ∧ acc.length ≤ 100000 ∧ W (i + 1) (sset μ5 p (.lst (acc ++ [y])))) ∧ (b = false → W (i + 1) μ4)) ∧
  ∀ μ2, W xs.length μ2 → ∃ acc, μ2 p = some (.lst acc) ∧ Φ (.lst acc) (sdel μ2 p)
theorem u_lc {ι : DI} {γ : DG} {θ : DT} {φ : DE} {vs : List Nat} : dLc ι γ θ φ vs Ψ δ μ Φ = ι Ψ δ μ fun xs μ1 => LcG γ θ φ (dwipe δ vs) Ψ xs μ1 Φ := rfl
theorem lcG_pure {γ : DG} {θ : DT} {φ : DE} {δw : DEnv} {μ1 : Sto} {xs : List D} (f : Nat → Bool) (v : Nat → D) (hz : xs.length ≤ 100000)
    (hs : ∀ (i : Nat) (d : D) (μ2 : Sto) (X : DK) (Y : Sto → Prop), xs[i]? = some d → Sub μ1 μ2 → (f i = true → X (v i) μ2) → (f i = false → Y μ2) →
      γ d δw μ2 fun δ3 μ3 => θ Ψ δ3 μ3 fun b μ4 => (b = true → φ Ψ δ3 μ4 X) ∧ (b = false → Y μ4))
    (hd : Φ (.lst (givenD xs.length f v)) μ1) : LcG γ θ φ δw Ψ xs μ1 Φ := lc_go f v hz hs hd
/-- each item gives one -/
theorem lcG_map {γ : DG} {φ : DE} {δw : DEnv} {μ1 : Sto} {xs : List D} (v : Nat → D) (hz : xs.length ≤ 100000)
    (hs : ∀ (i : Nat) (d : D) (μ2 : Sto) (X : DK), xs[i]? = some d → Sub μ1 μ2 → X (v i) μ2 → γ d δw μ2 fun δ3 μ3 => φ Ψ δ3 μ3 X)
    (hd : Φ (.lst ((List.range xs.length).map v)) μ1) (mono : ∀ d δ μ (P Q : DEnv → Sto → Prop), (∀ a b, P a b → Q a b) → γ d δ μ P → γ d δ μ Q) : LcG γ dYes φ δw Ψ xs μ1 Φ := by
  refine lcG_pure (fun _ => true) v hz (fun i d μ2 X Y hi hsub hx hy => ?_) (by rw [givenD_all]; exact hd)
  exact mono _ _ _ _ _ (fun δ3 μ3 h => ⟨fun _ => h, fun z => nomatch z⟩) (hs i d μ2 X hi hsub (hx rfl))
theorem lcG_mapN {n : Nat} {φ : DE} {δw : DEnv} {μ1 : Sto} {xs : List D} (v : Nat → D) (hz : xs.length ≤ 100000)
    (hs : ∀ (i : Nat) (d : D) (μ2 : Sto) (X : DK), xs[i]? = some d → Sub μ1 μ2 → X (v i) μ2 → φ Ψ (δw.set n (some d)) μ2 X)
    (hd : Φ (.lst ((List.range xs.length).map v)) μ1) : LcG (eName n) dYes φ δw Ψ xs μ1 Φ :=
  lcG_map v hz hs hd fun d δ μ P Q h q => h _ _ q
theorem u_for {ι : DI} {γ : DG} {ω : DSt} : dFor ι γ ω Ψ Δ δ μ = ι Ψ δ μ fun xs μ1 => ∃ W : Nat → DEnv → Sto → Prop, W 0 δ μ1 ∧
  (∀ i d δ' μ', xs[i]? = some d → W i δ' μ' → γ d δ' μ' fun δ2 μ2 => ω Ψ { Δ with nx := W (i + 1), ct := W (i + 1), bk := Δ.nx } δ2 μ2) ∧ ∀ δ' μ', W xs.length δ' μ' → Δ.nx δ' μ' := rfl
section
variable {φ φ' : DE} {Ls : List D → Sto → Prop}
theorem u_iT : iSeqT φ Ψ δ μ Ls = φ Ψ δ μ fun x μ1 => ∃ ds, x = .tup ds ∧ Ls ds μ1 := rfl
theorem u_iL : iSeqL φ Ψ δ μ Ls = φ Ψ δ μ fun x μ1 => ∃ ds, x = .lst ds ∧ Ls ds μ1 := rfl
theorem u_iR1 : iR1 φ Ψ δ μ Ls = φ Ψ δ μ fun x μ1 => ∃ j, x = .int j ∧ j < 4611686018427387904 ∧ -4611686018427387904 ≤ j ∧ Ls (rngD 0 j.toNat) μ1 := rfl
theorem u_iR2 : iR2 φ φ' Ψ δ μ Ls = φ Ψ δ μ fun x μ1 => φ' Ψ δ μ1 fun y μ2 => ∃ i j, x = .int i ∧ y = .int j ∧ (-4611686018427387904 ≤ i ∧ i < 4611686018427387904 ∧ -4611686018427387904 ≤ j ∧ j < 4611686018427387904) ∧ Ls (rngD i (j - i).toNat) μ2 := rfl
theorem u_iZ : iZipT φ φ' Ψ δ μ Ls = φ Ψ δ μ fun x μ1 => φ' Ψ δ μ1 fun y μ2 => ∃ xs ys, x = .tup xs ∧ y = .tup ys ∧ Ls ((xs.zip ys).map fun p => .pr [p.1, p.2]) μ2 := rfl
theorem u_iS : iText φ Ψ δ μ Ls = φ Ψ δ μ fun x μ1 => ∃ s, x = .str s ∧ Ls (s.cps.toList.map fun c => .str ⟨#[c]⟩) μ1 := rfl
end
theorem w_lstE {P : List D → Prop} : (∃ es, D.lst ds = .lst es ∧ P es) = P ds := propext ⟨fun ⟨c, e, q⟩ => by cases e; exact q, fun q => ⟨ds, rfl, q⟩⟩
theorem rngD_get {lo : Int} {n i : Nat} {d : D} (h : (rngD lo n)[i]? = some d) : i < n ∧ d = .int (lo + (i : Int)) := by
  have hl := (List.getElem?_eq_some_iff.mp h).1
  rw [rngD_len] at hl
  rw [rngD_at hl] at h
  cases h
  exact ⟨hl, rfl⟩
theorem w_allB {P : List Bool} (e : ds = P.map .bl) (h : Φ (.bl (P.all id)) μ) : cAll [.lst ds] μ Φ := ⟨P, by rw [e], h⟩
/-- one statement, what follows named -/
theorem q_seq {ω ζ : DSt} (h : ∀ nx, nx = ζ Ψ Δ → ω Ψ ⟨nx, Δ.rt, Δ.bk, Δ.ct⟩ δ μ) : dSeq ω ζ Ψ Δ δ μ := h _ rfl
theorem atI_n {α : Type} {xs : List α} {j : Nat} {v : α} (h : xs[j]? = some v) : atI xs (j : Int) = some v := atI_nat h
theorem ret_same {Φ : DK} {d : D} {μ : Sto} (h : Φ d μ) : ∃ μ2, Sub μ2 μ ∧ Φ d μ2 := ⟨μ, Sub.refl, h⟩
theorem mulx (a b : Nat) (h1 : i.natAbs < 2 ^ a) (h2 : j.natAbs < 2 ^ b) (h : a + b ≤ 134217728) : CMulX i j := mulx_ok h1 h2 h
end
end DW
set_option Elab.async false
set_option linter.all false
set_option maxRecDepth 100000
set_option maxHeartbeats 4000000
namespace DW
open PySem PySem.Spec PyProof.Rows L2 HT
section
variable {prog : Program} {w : World} {A : Around} {E : Value → Shared → Prop} {s : Shared}
theorem revAdjust (n : Nat) : Builtin.Slice.sliceAdjust none none (-1) (n : Int) = ((n : Int) - 1, -1) := by
  unfold Builtin.Slice.sliceAdjust
  simp
theorem revPlaces (n : Nat) : Builtin.Slice.slicePlaces ((n : Int) - 1) (-1) (-1) = n := by
  unfold Builtin.Slice.slicePlaces
  rw [if_neg (by omega)]
  by_cases h : n = 0
  · subst h; simp
  · rw [if_pos (by omega)]
    have : (((n : Int) - 1) - (-1) - 1) / (- (-1 : Int)) + 1 = (n : Int) := by rw [show (- (-1 : Int)) = 1 from by decide, Int.ediv_one]; omega
    rw [this]
    omega
theorem revPick (xs : Array Value) : ((List.range xs.size).filterMap fun (k : Nat) => xs[(((xs.size : Nat) : Int) - 1 + (k : Int) * (-1)).toNat]?).toArray = xs.toList.reverse.toArray := by
  congr 1
  have h : ∀ n, n ≤ xs.size → ((List.range n).filterMap fun (k : Nat) => xs[(((xs.size : Nat) : Int) - 1 + (k : Int) * (-1)).toNat]?) = xs.toList.reverse.take n := by
    intro n
    induction n with
    | zero => intro _; rfl
    | succ n ih =>
      intro hn
      have e1 : (((xs.size : Nat) : Int) - 1 + ((n : Nat) : Int) * (-1)).toNat = xs.size - 1 - n := by omega
      have hl : n < xs.toList.reverse.length := by simp; omega
      rw [List.range_succ, List.filterMap_append, ih (by omega), List.take_add_one, List.getElem?_eq_getElem hl]
      congr 1
      have e2 : xs[xs.size - 1 - n]? = some xs.toList.reverse[n] := by
        rw [List.getElem_reverse, ← Array.getElem?_toList]
        rw [List.getElem?_eq_getElem (by simp; omega)]
        simp
      simp only [List.filterMap_cons, List.filterMap_nil, e1, e2]
      rfl
  rw [h xs.size (Nat.le_refl _), List.take_of_length_le (by simp)]
theorem sliceApplied_rev {sl : Addr} {vl vu vs : Value} {n : Nat} {Q : Int × Int × Nat → Shared → Prop} (hs : s.heap.IsSliceOf sl vl vu vs) (pl : IsPart vl none) (pu : IsPart vu none) (ps : IsPart vs (some (-1)))
    (h : Q ((n : Int) - 1, -1, n) s) : wpAny (model prog w) A (Builtin.Slice.sliceApplied (.ref sl) (pure (n : Int))) Q E s := by
  obtain ⟨os, hos, hcs, hds⟩ := id hs
  unfold Builtin.Slice.sliceApplied Builtin.Slice.sliceFields
  refine wpAny_bind (wpAny_bind (wpAny_field hos hds (x := vl) rfl (wpAny_bind (wpAny_field hos hds (x := vu) rfl (wpAny_bind (wpAny_field hos hds (x := vs) rfl (wpAny_pure ?_)))))))
  refine wpAny_bind (slicePart_ ps ?_)
  show wpAny _ _ (if ((-1 : Int) == 0) = true then _ else _) _ _ s
  rw [if_neg (by decide)]
  refine wpAny_bind (slicePart_ pl (wpAny_bind (slicePart_ pu (wpAny_bind (wpAny_pure ?_)))))
  show wpAny _ _ (match Builtin.Slice.sliceAdjust none none (-1) (n : Int) with | (lo, hi) => pure (lo, (-1 : Int), Builtin.Slice.slicePlaces lo hi (-1))) _ _ s
  rw [revAdjust n]
  show wpAny _ _ (pure ((n : Int) - 1, (-1 : Int), Builtin.Slice.slicePlaces ((n : Int) - 1) (-1) (-1))) _ _ s
  rw [revPlaces]
  exact wpAny_pure h
theorem getItem_tuple_rev {t sl : Addr} {items : Array Value} {vl vu vs : Value} {Q : Value → Shared → Prop} (ht : IsTup s.heap t items) (hs : s.heap.IsSliceOf sl vl vu vs) (pl : IsPart vl none) (pu : IsPart vu none) (ps : IsPart vs (some (-1)))
    (h : Q (.ref s.heap.objs.size) { s with heap := s.heap.push { cls := .type "tuple", data := .seq items.toList.reverse.toArray } })
    (hsz : items.size ≤ sizeLine) : wpAny (model prog w) A (getItem (.ref t) (.ref sl)) Q E s := by
  have htake : sizeOk (.seq items.toList.reverse.toArray) := by
    show items.toList.reverse.toArray.size ≤ sizeLine
    rw [List.size_toArray, List.length_reverse, Array.length_toList]
    exact hsz
  obtain ⟨os, hos, hcs, hds⟩ := id hs
  have hTs : s.TypeIs (.ref sl) "slice" := ⟨os, hos, hcs⟩
  unfold getItem
  try with_reducible refine wpAny_holding ?_
  first | refine wpAny_bind (wpAny_pure ?_) | skip
  refine wpAny_bind (wpAny_sequenceKey ht.typeIs (by decide) ?_)
  refine wpAny_bind (wpAny_callSpecial?_slot (name := Str.ofString "__getitem__") ht.typeIs PyProof.Rows.slot_tuple_getitem
    (wpAny_call_entry PyProof.Rows.slot_tuple_getitem ht.typeIs entry_tuple_getitem ?_ (args_tuple_getitem _ _)))
  show wpAny _ _ (Builtin.Tuple.tupleItemsOf (.ref t) >>= _) _ _ s
  refine wpAny_bind (tupleItemsOf_ ht ?_)
  refine wpAny_bind (wpAny_typeOf hTs ?_)
  rw [if_pos (by decide)]
  refine wpAny_bind (sliceApplied_rev hs pl pu ps ?_)
  have hno : ¬ ((((((items.size : Nat) : Int) - 1) == 0 && (-1 : Int) == 1 && items.size == items.size)) = true) := by
    intro q
    rw [Bool.and_eq_true, Bool.and_eq_true] at q
    exact absurd (eq_of_beq q.1.2) (by decide)
  show wpAny _ _ (if (((((items.size : Nat) : Int) - 1) == 0 && (-1 : Int) == 1 && items.size == items.size)) = true then _ else _) _ _ s
  rw [if_neg hno, revPick]
  first
    | exact wpAny_bind (m := Builtin.Tuple.tupleExact _) (wpAny_newObj_type (wpAny_pure ⟨_, rfl, wpAny_pure h⟩) htake)
    | exact wpAny_bind (m := Builtin.Tuple.tupleExact _) (wpAny_newObj_type (wpAny_bind (wpAny_pure (wpAny_pure ⟨_, rfl, wpAny_pure h⟩))) htake)
    | exact wpAny_bind (wpAny_bind (m := Builtin.Tuple.tupleExact _) (wpAny_newObj_type (wpAny_pure (wpAny_pure ⟨_, rfl, wpAny_pure h⟩)) htake))
    | exact wpAny_bind (wpAny_bind (m := Builtin.Tuple.tupleExact _) (wpAny_newObj_type (wpAny_pure ⟨_, rfl, wpAny_pure h⟩) htake))
end
def tRevT (K : Fg) (te : TE) : TE := fun σ H Q => te σ H fun x H1 => ∃ a xs, x = .ref a ∧ SqT K H1 a xs ∧ NewT H1 xs.reverse Q
theorem pe_revT {X : Cx} {e : Expr} {te : TE} {k : Nat} {p1 p2 p3 pos : Pos} (he : PE X e te) : PE X (.Subscript e (.Slice none none (some (.UnaryOp .USub (.Constant (.int 1) k p1) p2)) p3) pos) (tRevT X.K te) := by
  refine ⟨fun pins s σ H Q I h => ?_⟩
  refine Subscript_ (thn (he.run pins s σ H _ I h) fun v s1 ⟨x, H1, I1, r1, q1⟩ => ?_)
  obtain ⟨a, xs, ex, hx, q⟩ := q1
  subst ex
  cases r1
  have hst : PO X (some (.UnaryOp .USub (.Constant (.int 1) k p1) p2)) (tPart (tUn (rU fun i => .int (-i)) (tC (.int 1)))) := po_some (pe_un un_neg pe_int)
  refine wpAny_Slice (thn (po_none.run pins s1 σ H1 (fun o H2 => o = none ∧ H2 = H1) I1 ⟨rfl, rfl⟩) fun vl s2 ⟨l, H2, I2, pl, el, e2⟩ => ?_)
  subst el e2
  refine thn (po_none.run pins s2 σ H2 (fun o H3 => o = none ∧ H3 = H2) I2 ⟨rfl, rfl⟩) fun vu s3 ⟨u, H3, I3, pu, eu, e3⟩ => ?_
  subst eu e3
  refine thn (hst.run pins s3 σ H3 (fun o H4 => o = some (-1) ∧ H4 = H3) I3 ⟨1, rfl, -1, rfl, rfl, rfl⟩) fun vs s4 ⟨o, H4, I4, ps, eo, e4⟩ => ?_
  subst eo e4
  have I5 : Inv X pins σ H4 { s4 with heap := s4.heap.push { cls := .type "slice", data := .fields #[vl, vu, vs] } } := I4.kept (t' := s4.toks) fun b ob q => Heap.get?_push_of_some _ q
  obtain ⟨its, r, ht, hz⟩ := I5.tuple hx
  have hlen := r.length
  show wpAny (model X.prog X.w) X.A (subscriptTail e (.Slice none none (some (.UnaryOp .USub (.Constant (.int 1) k p1) p2)) p3) (.ref a) (.ref s4.heap.objs.size)) (EP X pins σ Q) X.xe { s4 with heap := s4.heap.push { cls := .type "slice", data := .fields #[vl, vu, vs] } }
  refine tail_any (ops := [.ref a, .ref s4.heap.objs.size]) ht.typeIs (PyProof.Rows.slot_tuple_getitem.lookup) ?_ (by with_unfolding_all rfl)
  refine getItem_tuple_rev ht (Heap.IsSliceOf.new _ vl vu vs) pl pu ps ?_ (by rw [List.size_toArray]; omega)
  exact new_tup I5 (by rw [List.length_reverse]; exact hz) r.reverse q
def dRevT (φ : DE) : DE := fun Ψ δ μ Φ => φ Ψ δ μ fun x μ1 => ∃ ds, x = .tup ds ∧ Φ (.tup ds.reverse) μ1
theorem sRevT {K : Fg} {B : Bx K} {te : TE} {φ : DE} (a : SE B te φ) : SE B (tRevT K te) (dRevT φ) := fun σ H δ μ Φ Q S q k =>
  a σ H δ μ _ _ S q fun v H1 x μ1 S1 e1 r1 q1 => by
    obtain ⟨ds, rfl, q2⟩ := q1
    obtain ⟨p, vs, rfl, h1, h2⟩ := Rep.tup_inv r1
    exact ⟨p, vs, rfl, h1.sq, fun p o ho hc hp => k _ _ _ μ1 (S1.step (.new hp) (S1.sto.new hp)) (e1.trans (.new hp)) (rep_tupN S1.sto hp ho hc h2.reverse) q2⟩
theorem tuple_mul1 (l : Addr) (items : Array Value) (n : Nat) (sl : Array (Option Value)) (dd : Option Addr) (x : Int) (u : Tok) (c0 : (decide (x < -(2 ^ 63)) || decide (x ≥ 2 ^ 63)) = false) (c1 : (items.isEmpty || x == 1) = true) :
    Meets (Builtin.«tuple.__mul__» ⟨[.ref l, .int x u], []⟩) (fun _ R s => s.heap.get? l = some { cls := .type "tuple", dict := dd, data := .seq items n, slots := sl } ∧ R (.ok (.ret (Value.ref l))) s) :=
  .of_wp fun prog w A R s h => by
    obtain ⟨hp, g, d, tk, os⟩ := s
    obtain ⟨hl, h⟩ := h
    have f1 := AutoSeq1.idx_int
    wp_walk using wpAny_loadPart' hl
    repeat (first
      | (refine wpAny_ite_false (decide_eq_false (by rw [c0]; exact Bool.false_ne_true)) ?_; wp_walk using wpAny_loadPart' hl)
      | (refine wpAny_ite_true (decide_eq_true (by rw [c1])) ?_; wp_walk using wpAny_loadPart' hl))
    exact ⟨_, rfl, h⟩
theorem tuple_mul0 (l : Addr) (items : Array Value) (n : Nat) (sl : Array (Option Value)) (dd : Option Addr) (x : Int) (u : Tok) (c0 : (decide (x < -(2 ^ 63)) || decide (x ≥ 2 ^ 63)) = false) (c1 : (items.isEmpty || x == 1) = false) (c2 : (decide (x ≤ 0) || items.isEmpty) = true) :
    Meets (Builtin.«tuple.__mul__» ⟨[.ref l, .int x u], []⟩) (fun _ R s => s.heap.get? l = some { cls := .type "tuple", dict := dd, data := .seq items n, slots := sl } ∧
      R (.ok (.ret (Value.ref s.heap.objs.size))) { s with heap := s.heap.push { cls := Value.type "tuple", data := Data.seq #[] }, toks := s.toks }) :=
  .of_wp fun prog w A R s h => by
    obtain ⟨hp, g, d, tk, os⟩ := s
    obtain ⟨hl, h⟩ := h
    have f1 := AutoSeq1.idx_int
    wp_walk using wpAny_loadPart' hl
    repeat (first
      | (refine wpAny_ite_false (decide_eq_false (by rw [c0]; exact Bool.false_ne_true)) ?_; wp_walk using wpAny_loadPart' hl)
      | (refine wpAny_ite_false (decide_eq_false (by rw [c1]; exact Bool.false_ne_true)) ?_; wp_walk using wpAny_loadPart' hl)
      | (refine wpAny_ite_true (decide_eq_true (by rw [c2])) ?_; wp_walk using wpAny_loadPart' hl))
    exact ⟨_, rfl, h⟩
def rRepBig (K : Fg) : R2 := fun x y H Q => ∃ l k xs, x = .ref l ∧ y = .int k ∧ SqT K H l xs ∧ xs ≠ [] ∧ 2 ≤ k ∧ k ≤ 1000 ∧ xs.length ≤ 1000 ∧ NewT H (List.replicate k.toNat xs).flatten Q
theorem op_repBig {X : Cx} : OpR X (binaryOp .Mult) (rRepBig X.K) := by
  intro pins s σ H x y v u Q I rx ry h
  obtain ⟨l, k, xs, rfl, rfl, hT, hne, g2, g3, hz, q⟩ := h
  cases rx
  obtain ⟨t, rfl⟩ := ry
  obtain ⟨its, r, ⟨⟨cls, dd, data, sl⟩, ho, hc, n, hd⟩, hs⟩ := I.tuple hT
  simp only at hc hd
  subst hc hd
  have many : its.length = xs.length := r.length.symm
  have some' : its.toArray.isEmpty = false := by
    cases its with
    | nil => exact absurd (List.eq_nil_of_length_eq_zero (l := xs) (by simpa using many.symm)) hne
    | cons a b => rfl
  have wide : (its.toArray.size : Int) * k ≤ 1000000 := by
    have z : ((xs.length : Nat) : Int) * k ≤ 1000 * k := Int.mul_le_mul_of_nonneg_right (by omega) (by omega)
    rw [List.size_toArray, many]; omega
  have fl : (List.replicate k.toNat xs).flatten.length ≤ sizeLine := by
    have z : k.toNat * xs.length ≤ 1000 * 1000 := Nat.mul_le_mul (by omega) hz
    rw [PyProof.Rows.lm_len_rep_flat, sizeLine_eq]; omega
  have fl2 : (List.replicate k.toNat its).flatten.length ≤ sizeLine := by rw [PyProof.Rows.lm_len_rep_flat, many, ← PyProof.Rows.lm_len_rep_flat]; exact fl
  have z0 : (decide (k < -(2 ^ 63)) || decide (k ≥ 2 ^ 63)) = false := by rw [decide_eq_false (by omega), decide_eq_false (by omega)]; rfl
  have z1 : (its.toArray.isEmpty || k == 1) = false := by rw [some', Bool.false_or]; exact beq_eq_false_iff_ne.mpr (by omega)
  have z2 : (decide (k ≤ 0) || its.toArray.isEmpty) = false := by rw [some', Bool.or_false]; exact decide_eq_false (by omega)
  have z4 : Builtin.Tuple.tupleTooMany ((its.toArray.size : Int) * k) = false := by unfold Builtin.Tuple.tupleTooMany; rw [sizeLine_eq]; exact decide_eq_false (by omega)
  have mul := tuple_mulW l its.toArray n dd sl k t z0 z1 z2 (by omega) z4 (by rw [size_rep, List.size_toArray]; exact fl2)
  have one : s.TypeIs (.ref l) "tuple" := ⟨_, ho, rfl⟩
  refine wpAny_binaryOp_repeat_ref (T := "tuple") (U := "int") (by decide) one (fun s' => typeIs_int s' k t) noFill_tuple_mul F.fills_int_mul F.slot_int_rmul repeat_tuple F.slot_int_index.lookup ?_
  refine call_meets F.slot_int_rmul (typeIs_int s k t) F.entry_int_rmul (F.args_int_rmul_2 _ _) (int_rmul_tuple k t l its.toArray n dd sl) ⟨ho, rfl, one, ?_⟩
  refine call_meets F.slot_tuple_mul one F.entry_tuple_mul (F.args_tuple_mul_2 _ _) mul ⟨ho, ?_⟩
  rw [size_rep]
  exact new_tup I fl (r.rep k.toNat) q
def rRepA (K : Fg) : R2 := fun x y H Q => ∃ l k xs, x = .ref l ∧ y = .int k ∧ SqT K H l xs ∧ k ≤ 1000 ∧ -1000000 ≤ k ∧ xs.length ≤ 1000 ∧ (xs = [] ∨ k = 1 → Q (.ref l) H) ∧ (xs ≠ [] → k ≤ 0 → NewT H [] Q) ∧
  (xs ≠ [] → 2 ≤ k → NewT H (List.replicate k.toNat xs).flatten Q)
theorem op_repA {X : Cx} : OpR X (binaryOp .Mult) (rRepA X.K) := by
  intro pins s σ H x y v u Q I rx ry h
  obtain ⟨l, k, xs, ex, ey, hT, h1, h2, hz, q1, q2, q3⟩ := h
  by_cases hbig : xs ≠ [] ∧ 2 ≤ k
  · exact op_repBig pins s σ H _ _ v u Q I rx ry ⟨l, k, xs, ex, ey, hT, hbig.1, hbig.2, h1, hz, q3 hbig.1 hbig.2⟩
  · subst ex ey
    cases rx
    obtain ⟨t, rfl⟩ := ry
    obtain ⟨its, r, ⟨⟨cls, dd, data, sl⟩, ho, hc, n, hd⟩, hs⟩ := I.tuple hT
    simp only at hc hd
    subst hc hd
    have hle : its.length = xs.length := r.length.symm
    have c0 : (decide (k < -(2 ^ 63)) || decide (k ≥ 2 ^ 63)) = false := by
      rw [decide_eq_false (by omega), decide_eq_false (by omega)] <;> rfl
    have hemp : its.toArray.isEmpty = decide (xs = []) := by
      cases its with
      | nil => rw [List.eq_nil_of_length_eq_zero (l := xs) (by simpa using hle.symm)]; rfl
      | cons a b =>
        have : xs ≠ [] := fun z => by rw [z] at hle; simp at hle
        rw [decide_eq_false this]; rfl
    by_cases hs1 : xs = [] ∨ k = 1
    · have c1 : (its.toArray.isEmpty || k == 1) = true := by
        rw [hemp]
        rcases hs1 with z | z
        · rw [decide_eq_true z]; rfl
        · rw [z]; simp
      refine wpAny_binaryOp_repeat_ref (T := "tuple") (U := "int") (by decide) ⟨_, ho, rfl⟩ (fun s' => typeIs_int s' k t) noFill_tuple_mul F.fills_int_mul F.slot_int_rmul repeat_tuple F.slot_int_index.lookup
        (call_meets F.slot_int_rmul (typeIs_int s k t) F.entry_int_rmul (F.args_int_rmul_2 _ _) (int_rmul_tuple k t l its.toArray n dd sl)
          ⟨ho, rfl, ⟨_, ho, rfl⟩, call_meets F.slot_tuple_mul ⟨_, ho, rfl⟩ F.entry_tuple_mul (F.args_tuple_mul_2 _ _) (tuple_mul1 l its.toArray n sl dd k t c0 c1) ⟨ho, ?_⟩⟩)
      exact ⟨.ref l, H, I, rfl, q1 hs1⟩
    · have hx : xs ≠ [] := fun z => hs1 (.inl z)
      have hk : k ≤ 0 := by
        have : ¬ 2 ≤ k := fun z => hbig ⟨hx, z⟩
        have : k ≠ 1 := fun z => hs1 (.inr z)
        omega
      have c1 : (its.toArray.isEmpty || k == 1) = false := by
        rw [hemp, decide_eq_false hx, Bool.false_or]
        exact beq_eq_false_iff_ne.mpr (by omega)
      have c2 : (decide (k ≤ 0) || its.toArray.isEmpty) = true := by rw [decide_eq_true hk]; rfl
      refine wpAny_binaryOp_repeat_ref (T := "tuple") (U := "int") (by decide) ⟨_, ho, rfl⟩ (fun s' => typeIs_int s' k t) noFill_tuple_mul F.fills_int_mul F.slot_int_rmul repeat_tuple F.slot_int_index.lookup
        (call_meets F.slot_int_rmul (typeIs_int s k t) F.entry_int_rmul (F.args_int_rmul_2 _ _) (int_rmul_tuple k t l its.toArray n dd sl)
          ⟨ho, rfl, ⟨_, ho, rfl⟩, call_meets F.slot_tuple_mul ⟨_, ho, rfl⟩ F.entry_tuple_mul (F.args_tuple_mul_2 _ _) (tuple_mul0 l its.toArray n sl dd k t c0 c1 c2) ⟨ho, ?_⟩⟩)
      exact new_tup (its := []) I (by decide) .nil (q2 hx hk)
def oRepT : DO := fun x y μ Φ => ∃ ds k, x = .tup ds ∧ y = .int k ∧ k ≤ 1000 ∧ -1000000 ≤ k ∧ ds.length ≤ 1000 ∧ Φ (.tup (List.replicate k.toNat ds).flatten) μ
theorem roRepT {K : Fg} : RO K (rRepA K) oRepT := fun H μ v w d e Φ Q s0 r1 r2 h k => by
  obtain ⟨ds, i, rfl, rfl, h1, h2, h3, q⟩ := h
  obtain ⟨p, vs, rfl, t1, t2⟩ := Rep.tup_inv r1
  obtain rfl := Rep.int_inv r2
  have hl := t2.length
  have nil : vs = [] → ds = [] := fun z => by rw [z] at hl; exact List.eq_nil_of_length_eq_zero hl.symm
  have rnil : ∀ n, (List.replicate n ([] : List D)).flatten = [] := fun n => by induction n <;> simp_all [List.replicate_succ]
  refine ⟨p, i, vs, rfl, rfl, t1.sq, h1, h2, by omega, fun z => ?_, fun z z2 q0 o ho hc hp => ?_, fun z z2 q0 o ho hc hp => ?_⟩
  · refine k _ H _ μ .refl s0 ?_ q
    have e : (List.replicate i.toNat ds).flatten = ds := by
      rcases z with z | z
      · rw [nil z, rnil]
      · subst z; simp
    rw [e]
    exact r1
  · refine k _ _ _ μ (.new hp) (s0.new hp) ?_ q
    have e : i.toNat = 0 := by omega
    rw [e]
    exact rep_tupN s0 hp ho hc .nil
  · exact k _ _ _ μ (.new hp) (s0.new hp) (rep_tupN s0 hp ho hc (reps_rep t2 _)) q
end DW
set_option Elab.async false
set_option linter.all false
set_option maxRecDepth 100000
set_option maxHeartbeats 4000000
namespace DW
open PySem PySem.Spec PyProof.Rows L2 GenW
end DW
set_option Elab.async false
set_option linter.all false
set_option maxRecDepth 100000
set_option maxHeartbeats 4000000
namespace DW
open PySem PySem.Spec PyProof.Rows L2 HotX
def kitD (K : Fg) : XD → V → Option Bool
  | .mk C none, .ref T => PySem.W.kitOne K (.ref C) (.ref T)
  | .mk C none, .ty T => PySem.W.kitOne K (.ref C) (.type T)
  | _, _ => none
def excOk (K : Fg) : XD → Prop
  | .mk C none => L2.ExcC K C
  | _ => False
def cIsX (K : Fg) (a : Addr) (x : XD) : DC := fun xs μ Φ => ∃ c b, xs = [.hd (.ref a), .hd c] ∧ kitD K x c = some b ∧ excOk K x ∧ Φ (.bl b) μ
section
variable {K : Fg} {B : Bx K}
theorem sCallSW {W : WX} {c : Con} {tas : TA} {ψ : DA} (hW : B.W = W) (a : SA B tas ψ) : SE B (tCallS (spOf K c) (WE W) tas) (dCallS c ψ) := by
  subst hW; exact sCallS a
theorem sRaise0W {W : WX} {C : Addr} (hW : B.W = W) : SS B (fun _ σ H => (fun (_ : L2.St) (H : Hp) (Q : XK) => Q (.ref C) none H) σ H fun cls d H' => W cls d σ H') (dRaise0 C) := by
  subst hW; exact sRaise0
def dTryAs (K : Fg) (c : Value) (i : Nat) (ω : DSt) (ζ : Addr → XD → DSt) : DSt := fun Ψ Δ δ μ => ω (fun x δ' μ' => ∃ b, (match x with | .mk D _ => PySem.W.exmOne K (.ref D) c) = some b ∧
  (b = true → ∀ a, μ' a = none → ζ a x Ψ ⟨fun δ2 μ2 => Δ.nx (δ2.set i none) μ2, Δ.rt, fun δ2 μ2 => Δ.bk (δ2.set i none) μ2, fun δ2 μ2 => Δ.ct (δ2.set i none) μ2⟩ (δ'.set i (some (.hd (.ref a)))) μ') ∧ (b = false → Ψ x δ' μ')) Δ δ μ
theorem sTryAs {c : Value} {i : Nat} {W : WX} {tb : WX → TS} {ts : Addr → Value → Option Addr → TS} {ω : DSt} {ζ : Addr → XD → DSt} (hW : B.W = W) (hb : ∀ (W' : WX) (B' : Bx K), B'.W = W' → SS B' (tb W') ω)
    (hs : ∀ (a : Addr) (cls : Value) (dd : Option Addr) (x : XD) (B' : Bx K), B'.W = W → RepX K B'.μ0 B'.H0 cls dd x → SS B' (ts a cls dd) (ζ a x)) :
    SS B (fun D σ H => tb (wAs K c i ts W D) D σ H) (dTryAs K c i ω ζ) := fun D Δ σ H δ μ E S q => by
  subst hW
  refine hb _ ⟨B.H0, B.μ0, wAs K c i ts B.W D, _, fun cls dd σ1 H1 x δ1 μ1 S1 rx q1 => ?_⟩ rfl D Δ σ H δ μ ⟨E.nx, E.rt, E.bk, E.ct⟩ S q
  obtain ⟨b, e1, hy, hn⟩ := q1
  have ec : ∃ C fs, x = .mk C fs ∧ cls = .ref C := by
    obtain ⟨C, fs⟩ := x
    cases fs with
    | none => exact ⟨C, _, rfl, rx.1⟩
    | some f => exact ⟨C, _, rfl, rx.1⟩
  obtain ⟨C, fs, rfl, rfl⟩ := ec
  refine ⟨b, e1, fun hb1 a ha => ?_, fun hb1 => B.hW _ _ σ1 H1 _ δ1 μ1 S1 rx (hn hb1)⟩
  have hfr := S1.sto.fresh ha
  refine hs a (.ref C) dd (.mk C fs) (B.re H1 μ1 S1.evo) rfl rx _ _ _ H1 _ μ1 ⟨fun σ2 H2 δ2 μ2 S2 q2 => ?_, fun v H2 d μ2 σ2 δ2 S2 r2 q2 => ?_, fun σ2 H2 δ2 μ2 S2 q2 => ?_, fun σ2 H2 δ2 μ2 S2 q2 => ?_⟩ ⟨.refl, S1.sto, S1.env.set (.hd _ .nil) i⟩ (hy hb1 a hfr)
  · exact E.nx _ H2 _ μ2 ⟨S1.evo.trans S2.evo, S2.sto, S2.env.unset i⟩ q2
  · exact E.rt v H2 d μ2 σ2 δ2 ⟨S1.evo.trans S2.evo, S2.sto, S2.env⟩ r2 q2
  · exact E.bk _ H2 _ μ2 ⟨S1.evo.trans S2.evo, S2.sto, S2.env.unset i⟩ q2
  · exact E.ct _ H2 _ μ2 ⟨S1.evo.trans S2.evo, S2.sto, S2.env.unset i⟩ q2
abbrev ConG := List D → Sto → (List D → Sto → Prop) → Prop
def dTupG (c : ConG) (ψ : DA) : DE := fun Ψ δ μ Φ => ψ Ψ δ μ fun xs μ1 => c xs μ1 fun es μ2 => Φ (.tup es) μ2
end
/-- what is wanted behind a statement of a generator -/
structure GDs where
  nx : List DW.D → DEnv → Sto → Prop
  rt : List DW.D → DW.D → Sto → Prop
  bk : List DW.D → DEnv → Sto → Prop
  ct : List DW.D → DEnv → Sto → Prop
abbrev DGn := XP → GDs → List DW.D → DEnv → Sto → Prop
section
variable {K : Fg} {B : Bx K}
def dGPlain (ω : DSt) : DGn := fun Ψ Δ es δ μ => ω Ψ ⟨Δ.nx es, Δ.rt es, Δ.bk es, Δ.ct es⟩ δ μ
def dGThen (ω ζ : DGn) : DGn := fun Ψ Δ es δ μ => ω Ψ ⟨fun es' δ' μ' => ζ Ψ Δ es' δ' μ', Δ.rt, Δ.bk, Δ.ct⟩ es δ μ
def dGNil : DGn := fun _ Δ es δ μ => Δ.nx es δ μ
def dYield (φ : DE) : DGn := fun Ψ Δ es δ μ => es.length ≤ 100000 ∧ φ Ψ δ μ fun x μ1 => Δ.nx (es ++ [x]) δ μ1
def dGWhile (θ : DT) (ω : DGn) : DGn := fun Ψ Δ es δ μ => ∃ W : Nat → List DW.D → DEnv → Sto → Prop, (∃ m, W m es δ μ) ∧ ∀ m es δ μ, W m es δ μ → θ Ψ δ μ fun b μ1 =>
  (b = true → ω Ψ ⟨fun es' δ' μ' => ∃ m', m' < m ∧ W m' es' δ' μ', Δ.rt, Δ.nx, fun es' δ' μ' => ∃ m', m' < m ∧ W m' es' δ' μ'⟩ es δ μ1) ∧ (b = false → Δ.nx es δ μ1)
end
theorem passN {X : Cx} : Passes (L2N.CX X.prog X.w) X E0 := fun _ _ _ _ _ _ _ h => by
  obtain ⟨_, _, _, _, _, _, _, _, _, _, _, _, z⟩ := h
  exact z.elim
/-- THE RULE for a def, whatever the air -/
theorem def_okC {CX : CXT} {P : Program} {w : World} {K : Fg} {mg : Str → Option Value} {base : Heap} {x qual : Str} {st : Stmt} {f : Addr} {fd : FuncData} {N ps : List Str} {k : Nat} {c : Con} (F : Fun K x qual st f fd) (Sc : FnScope N ps (defScope st)) (φ : DSt)
    (hl : ∀ ds μ Φ Ψ, c ds μ Φ Ψ → ds.length = ps.length)
    (hb : ∀ (cdv : Value) (A : Around) (outer : List Env) (s : Shared) (H : Hp) (E : XK) (B : Bx K), B.W = (fun cls d _ H => E cls d H) → Room k (A.deeper (PyProof.Rows.envOfC qual (defScope st) s.heap.objs.size f cdv)) →
      ∃ t, PSs (cxOf CX P w K mg base N qual (defScope st) f cdv A outer s H E) (defBody st) t ∧ SS B t φ)
    (hv : ∀ ds μ Φ Ψ, c ds μ Φ Ψ → φ (goalX Ψ) (goalE Φ) (dstart N ds) μ) : FnOk P w K mg base CX (k + 1) f fd ps (spOf K c) := by
  obtain ⟨oc, od, kV, doc, pm, an, cdv, ct, osl, rfl, lk, hcd⟩ := F.ex
  refine fn_of lk hcd Sc (fun vs H Q E h => ?_) (fun A outer s H vs Q E hr h => ?_)
  · obtain ⟨μ, ds, Φ, Ψ, _, r, hc, _⟩ := h
    rw [r.length]
    exact hl ds μ Φ Ψ hc
  · obtain ⟨μ, ds, Φ, Ψ, s0, r, hc, hq, hx⟩ := h
    let B : Bx K := ⟨H, μ, fun cls d _ H => E cls d H, goalX Ψ, fun cls dd σ H' x δ μ' S rx ⟨μ2, hs, q⟩ => hx cls dd H' x μ2 (S.evo.trans hs.evo) (hs.sto S.sto) (rx.mono hs.evo) q⟩
    obtain ⟨t, ht, hs⟩ := hb cdv A outer s H E B rfl hr
    refine ⟨t, ht, hs { nx := fun _ H' => Q .non H', rt := Q } (goalE Φ) (L2.start N vs) H (dstart N ds) μ ⟨fun σ H' δ μ' S ⟨μ2, h2, q⟩ => ?_, fun v H' d μ' σ δ S rv ⟨μ2, h2, q⟩ => ?_, fun _ _ _ _ _ z => z, fun _ _ _ _ _ z => z⟩ ⟨.refl, s0, env_start r⟩ (hv ds μ Φ Ψ hc)⟩
    · exact hq .non H' .non μ2 (S.evo.trans h2.evo) (h2.sto S.sto) (.non .nil) q
    · exact hq v H' d μ2 (S.evo.trans h2.evo) (h2.sto S.sto) (rv.mono h2.evo) q
section
variable {K : Fg} {φ : DE} {ψ : DA} {Ψ : XP} {δ : DEnv} {μ : Sto} {Φ : DK} {ω ζ : DSt} {Δ : DEnds} {ds es : List DW.D} {k : Int} {Γ : GDs} {α β : DGn} {θ : DT} {c : ConG} {cv : Value} {i : Nat} {ξ : Addr → XD → DSt}
theorem u_revT : dRevT φ Ψ δ μ Φ = φ Ψ δ μ fun x μ1 => ∃ ds, x = .tup ds ∧ Φ (.tup ds.reverse) μ1 := rfl
theorem w_repT : oRepT (.tup ds) (.int k) μ Φ = (k ≤ 1000 ∧ -1000000 ≤ k ∧ ds.length ≤ 1000 ∧ Φ (.tup (List.replicate k.toNat ds).flatten) μ) := propext ⟨fun ⟨a, b, e1, e2, q⟩ => by cases e1; cases e2; exact q, fun q => ⟨_, _, rfl, rfl, q⟩⟩
theorem u_tupG : dTupG c ψ Ψ δ μ Φ = ψ Ψ δ μ fun xs μ1 => c xs μ1 fun es μ2 => Φ (.tup es) μ2 := rfl
theorem u_try : dTryAs K cv i ω ξ Ψ Δ δ μ = ω (fun x δ' μ' => ∃ b, (match x with | .mk D _ => PySem.W.exmOne K (.ref D) cv) = some b ∧
  (b = true → ∀ a, μ' a = none → ξ a x Ψ ⟨fun δ2 μ2 => Δ.nx (δ2.set i none) μ2, Δ.rt, fun δ2 μ2 => Δ.bk (δ2.set i none) μ2, fun δ2 μ2 => Δ.ct (δ2.set i none) μ2⟩ (δ'.set i (some (.hd (.ref a)))) μ') ∧ (b = false → Ψ x δ' μ')) Δ δ μ := rfl
theorem u_gPlain : dGPlain ω Ψ Γ es δ μ = ω Ψ ⟨Γ.nx es, Γ.rt es, Γ.bk es, Γ.ct es⟩ δ μ := rfl
theorem u_gThen : dGThen α β Ψ Γ es δ μ = α Ψ ⟨fun es' δ' μ' => β Ψ Γ es' δ' μ', Γ.rt, Γ.bk, Γ.ct⟩ es δ μ := rfl
theorem u_gNil : dGNil Ψ Γ es δ μ = Γ.nx es δ μ := rfl
theorem u_yield : dYield φ Ψ Γ es δ μ = (es.length ≤ 100000 ∧ φ Ψ δ μ fun x μ1 => Γ.nx (es ++ [x]) δ μ1) := rfl
theorem u_gWhile : dGWhile θ α Ψ Γ es δ μ = ∃ W : Nat → List DW.D → DEnv → Sto → Prop, (∃ m, W m es δ μ) ∧ ∀ m es δ μ, W m es δ μ → θ Ψ δ μ fun b μ1 =>
  (b = true → α Ψ ⟨fun es' δ' μ' => ∃ m', m' < m ∧ W m' es' δ' μ', Γ.rt, Γ.nx, fun es' δ' μ' => ∃ m', m' < m ∧ W m' es' δ' μ'⟩ es δ μ1) ∧ (b = false → Γ.nx es δ μ1) := rfl
theorem u_while : dWhile θ ω Ψ Δ δ μ = ∃ W : Nat → DEnv → Sto → Prop, (∃ m, W m δ μ) ∧ ∀ m δ μ, W m δ μ → θ Ψ δ μ fun b μ1 =>
  (b = true → ω Ψ { Δ with nx := fun δ' μ' => ∃ m', m' < m ∧ W m' δ' μ', ct := fun δ' μ' => ∃ m', m' < m ∧ W m' δ' μ', bk := Δ.nx } δ μ1) ∧ (b = false → Δ.nx δ μ1) := rfl
theorem u_isX {a : Addr} {x : XD} {c : V} : cIsX K a x [.hd (.ref a), .hd c] μ Φ = ∃ b, kitD K x c = some b ∧ excOk K x ∧ Φ (.bl b) μ := propext ⟨fun ⟨c', b, e, q⟩ => by cases e; exact ⟨b, q⟩, fun ⟨b, q⟩ => ⟨c, b, rfl, q⟩⟩
theorem u_kitR {C T : Addr} : kitD K (.mk C none) (.ref T) = PySem.W.kitOne K (.ref C) (.ref T) := rfl
theorem u_kitT {C : Addr} {T : String} : kitD K (.mk C none) (.ty T) = PySem.W.kitOne K (.ref C) (.type T) := rfl
theorem u_excOk {C : Addr} : excOk K (.mk C none) = L2.ExcC K C := rfl
theorem w_zipE {P : List DW.D → List DW.D → Prop} : (∃ xs ys, D.tup ds = D.tup xs ∧ D.tup es = D.tup ys ∧ P xs ys) = P ds es := propext ⟨fun ⟨a, b, e1, e2, q⟩ => by cases e1; cases e2; exact q, fun q => ⟨_, _, rfl, rfl, q⟩⟩
theorem u_goalX {G : XD → Sto → Prop} {x : XD} : goalX G x δ μ = ∃ μ2, Sub μ2 μ ∧ G x μ2 := rfl
theorem cut_to (p : Nat) : cutD ds none (some (p : Int)) = ds.take p := by
  unfold cutD
  show (ds.drop 0).take (min (p : Int).toNat ds.length - 0) = _
  rw [List.drop_zero, Nat.sub_zero, Int.toNat_natCast]
  by_cases h : p ≤ ds.length
  · rw [Nat.min_eq_left h]
  · rw [Nat.min_eq_right (by omega), List.take_length, List.take_of_length_le (by omega)]
theorem cut_from (p : Nat) : cutD ds (some (p : Int)) none = ds.drop p := by
  unfold cutD
  show (ds.drop (min (p : Int).toNat ds.length)).take (ds.length - min (p : Int).toNat ds.length) = _
  rw [Int.toNat_natCast]
  by_cases h : p ≤ ds.length
  · rw [Nat.min_eq_left h, List.take_of_length_le (by rw [List.length_drop]; omega)]
  · rw [Nat.min_eq_right (by omega), List.drop_length, List.take_nil, List.drop_eq_nil_of_le (by omega)]
theorem cut_from1 (p : Nat) : cutD ds (some ((p : Int) + 1)) none = ds.drop (p + 1) := cut_from (p + 1)
end
end DW
set_option Elab.async false
set_option linter.all false
set_option maxRecDepth 100000
namespace LW
open PySem PySem.Spec L2 DW
def prodI (ws : List Int) : Int := ws.foldl (· * ·) 1
theorem prodI_snoc (ws : List Int) (z : Int) : prodI (ws ++ [z]) = prodI ws * z := by unfold prodI; rw [List.foldl_append]; rfl
theorem prod_snoc {ws : List Int} {i : Nat} {z : Int} (h : ws[i]? = some z) : prodI (ws.take (i + 1)) = prodI (ws.take i) * z := by
  rw [List.take_add_one, h]; exact prodI_snoc _ _
def prodR : List Int → Int
  | [] => 1
  | w :: r => prodR r * w
theorem prodI_rev : ∀ r : List Int, prodI r.reverse = prodR r
  | [] => rfl
  | w :: r => by rw [List.reverse_cons, prodI_snoc, prodI_rev r]; rfl
def entR : List Int → Int → List Int
  | [], _ => []
  | w :: r, n => n % w :: entR r (n / w)
theorem entR_len : ∀ (r : List Int) (n : Int), (entR r n).length = r.length
  | [], _ => rfl
  | w :: r, n => by rw [entR, List.length_cons, List.length_cons, entR_len]
def choA (ws : List Int) (n : Int) : List Int := (entR ws.reverse n).reverse
theorem choA_len (ws : List Int) (n : Int) : (choA ws n).length = ws.length := by unfold choA; rw [List.length_reverse, entR_len, List.length_reverse]
abbrev Pos (ws : List Int) : Prop := ∀ w ∈ ws, (0 : Int) < w
theorem Pos.rev {ws : List Int} (h : Pos ws) : Pos ws.reverse := fun w hw => h w (List.mem_reverse.mp hw)
theorem prodR_pos : ∀ {r : List Int}, Pos r → 0 < prodR r
  | [], _ => by decide
  | w :: r, h => Int.mul_pos (prodR_pos fun x hx => h x (List.mem_cons_of_mem _ hx)) (h w List.mem_cons_self)
theorem div_lt {n w P : Int} (hw : 0 < w) : n < P * w ↔ n / w < P := by
  have e := Int.mul_ediv_add_emod n w
  have t0 := Int.emod_nonneg n (show w ≠ 0 by omega)
  have t1 := Int.emod_lt_of_pos n hw
  constructor
  · intro h
    by_cases c : n / w < P
    · exact c
    · have : w * P ≤ w * (n / w) := Int.mul_le_mul_of_nonneg_left (by omega) (by omega)
      rw [Int.mul_comm] at this
      omega
  · intro h
    have : w * (n / w + 1) ≤ w * P := Int.mul_le_mul_of_nonneg_left (by omega) (by omega)
    rw [Int.mul_add, Int.mul_one, Int.mul_comm w P] at this
    omega
theorem div_nonneg' {n w : Int} (hw : 0 < w) (h : 0 ≤ n) : 0 ≤ n / w := Int.ediv_nonneg h (by omega)
/-- the number of a choice -/
def idxU : Int → List Int → List Int → Option Int
  | a, w :: ws, c :: cs => if 0 ≤ c ∧ c < w then idxU (a * w + c) ws cs else none
  | a, _, _ => some a
theorem idxU_snoc : ∀ (a : Int) (ws cs : List Int) (w c : Int), ws.length = cs.length → idxU a (ws ++ [w]) (cs ++ [c]) = (idxU a ws cs).bind fun b => if 0 ≤ c ∧ c < w then some (b * w + c) else none
  | a, [], [], w, c, _ => by
    show (if 0 ≤ c ∧ c < w then idxU (a * w + c) [] [] else none) = _
    rfl
  | a, [], _ :: _, w, c, h => by simp at h
  | a, _ :: _, [], w, c, h => by simp at h
  | a, x :: ws, y :: cs, w, c, h => by
    have ih := idxU_snoc (a * x + y) ws cs w c (by simpa using h)
    show (if 0 ≤ y ∧ y < x then idxU (a * x + y) (ws ++ [w]) (cs ++ [c]) else none) = _
    show _ = (if 0 ≤ y ∧ y < x then idxU (a * x + y) ws cs else none).bind _
    by_cases d : 0 ≤ y ∧ y < x
    · rw [if_pos d, if_pos d, ih]
    · rw [if_neg d, if_neg d]; rfl
theorem idxU_entR : ∀ (r : List Int) (n : Int), Pos r → 0 ≤ n → n < prodR r → idxU 0 r.reverse (entR r n).reverse = some n
  | [], n, _, h0, h1 => by
    have : n = 0 := by have : n < 1 := h1; omega
    subst this; rfl
  | w :: r, n, hp, h0, h1 => by
    have hw := hp w List.mem_cons_self
    have hr : Pos r := fun x hx => hp x (List.mem_cons_of_mem _ hx)
    have ih := idxU_entR r (n / w) hr (div_nonneg' hw h0) ((div_lt hw).mp h1)
    rw [entR, List.reverse_cons, List.reverse_cons, idxU_snoc _ _ _ _ _ (by rw [List.length_reverse, List.length_reverse, entR_len]), ih]
    have t0 := Int.emod_nonneg n (show w ≠ 0 by omega)
    have t1 := Int.emod_lt_of_pos n hw
    show (if 0 ≤ n % w ∧ n % w < w then some (n / w * w + n % w) else none) = some n
    rw [if_pos ⟨t0, t1⟩]
    have e := Int.mul_ediv_add_emod n w
    rw [Int.mul_comm (n / w) w, e]
theorem idxU_choA {ws : List Int} {n : Int} (hp : Pos ws) (h0 : 0 ≤ n) (h1 : n < prodI ws) : idxU 0 ws (choA ws n) = some n := by
  have h := idxU_entR ws.reverse n hp.rev h0 (by rw [← prodI_rev, List.reverse_reverse]; exact h1)
  rw [List.reverse_reverse] at h
  exact h
theorem divp_small {i j : Int} (h : 0 < j) (hb : j.natAbs < 2 ^ 300) : CDivP i j := by
  refine ⟨h, ?_⟩
  have hl := PySem.Flt.log2_lt_of (n := j.natAbs) (by decide : 0 < 300) hb
  unfold Builtin.divisionGoesByPylong
  rw [Bool.and_eq_false_iff]
  left
  rw [decide_eq_false_iff_not]
  have e : (j == 0) = false := beq_eq_false_iff_ne.mpr (by omega)
  simp only [e, Bool.false_eq_true, if_false]
  omega
theorem pos_of_prodR : ∀ {r : List Int}, (∀ w ∈ r, (0 : Int) ≤ w) → 0 < prodR r → Pos r
  | [], _, _ => fun w h => by cases h
  | w :: r, h0, h => by
    have hw := h0 w List.mem_cons_self
    have hw' : 0 < w := by
      rcases Int.lt_or_eq_of_le hw with z | z
      · exact z
      · rw [prodR, ← z, Int.mul_zero] at h; exact absurd h (by decide)
    have hr : 0 < prodR r := by
      rcases Int.lt_or_le 0 (prodR r) with z | z
      · exact z
      · have : prodR r * w ≤ 0 := Int.mul_nonpos_of_nonpos_of_nonneg z hw
        have h' : 0 < prodR r * w := h
        omega
    have ih := pos_of_prodR (fun x hx => h0 x (List.mem_cons_of_mem _ hx)) hr
    intro x hx
    rcases List.mem_cons.mp hx with z | z
    · rw [z]; exact hw'
    · exact ih x z
theorem pos_of_prod {ws : List Int} (h0 : ∀ w ∈ ws, (0 : Int) ≤ w) (h : 0 < prodI ws) : Pos ws := by
  have e := prodI_rev ws.reverse
  rw [List.reverse_reverse] at e
  have := pos_of_prodR (r := ws.reverse) (fun w hw => h0 w (List.mem_reverse.mp hw)) (by rw [← e]; exact h)
  exact fun w hw => this w (List.mem_reverse.mpr hw)
/-- widths as they are drawn -/
structure WB (ws : List Int) : Prop where
  len : ws.length ≤ 1000
  lo : ∀ w ∈ ws, (0 : Int) ≤ w
  hi : ∀ w ∈ ws, w < 2 ^ 100
  pr : ∀ j, 0 ≤ prodI (ws.take j) ∧ prodI (ws.take j) < 2 ^ 200
theorem WB.mul {ws : List Int} (h : WB ws) {i : Nat} {z : Int} (e : ws[i]? = some z) : CMulX (prodI (ws.take i)) z := by
  have h1 := h.pr i
  have h2 := h.lo z (List.mem_of_getElem? e)
  have h3 := h.hi z (List.mem_of_getElem? e)
  exact mulx 200 100 (by omega) (by omega) (by decide)
def restR : List Int → Int → Int
  | [], n => n
  | w :: r, n => restR r (n / w)
theorem restR_snoc : ∀ (r : List Int) (w n : Int), restR (r ++ [w]) n = restR r n / w
  | [], w, n => rfl
  | x :: r, w, n => restR_snoc r w (n / x)
theorem entR_snoc : ∀ (r : List Int) (w n : Int), entR (r ++ [w]) n = entR r n ++ [restR r n % w]
  | [], w, n => rfl
  | x :: r, w, n => by
    show n % x :: entR (r ++ [w]) (n / x) = _
    rw [entR_snoc r w (n / x)]; rfl
theorem take_snoc {α : Type} {xs : List α} {i : Nat} {z : α} (h : xs[i]? = some z) : xs.take (i + 1) = xs.take i ++ [z] := by rw [List.take_add_one, h]; rfl
end LW
set_option Elab.async false
set_option linter.all false
set_option maxRecDepth 100000
namespace LW
open PySem PySem.Spec L2 DW
/-- two lists that change: the state and one's own -/
structure Two (μ : Sto) (p st : Addr) (L c : List D) (μ' : Sto) : Prop where
  hp : μ p = none
  ne : st ≠ p
  pL : μ' p = some (.lst L)
  sc : μ' st = some (.lst c)
  ot : ∀ a, a ≠ p → a ≠ st → μ' a = μ a
theorem Two.start {μ : Sto} {p st : Addr} {L c : List D} (hp : μ p = none) (hs : μ st = some (.lst c)) : Two μ p st L c (sset μ p (.lst L)) := by
  have ne : st ≠ p := fun z => by rw [z, hp] at hs; cases hs
  exact ⟨hp, ne, sset_same, by rw [sset_ne ne]; exact hs, fun a h _ => sset_ne h⟩
theorem Two.setS {μ μ' : Sto} {p st : Addr} {L c c2 : List D} (T : Two μ p st L c μ') : Two μ p st L c2 (sset μ' st (.lst c2)) :=
  ⟨T.hp, T.ne, by rw [sset_ne (Ne.symm T.ne)]; exact T.pL, sset_same, fun a h1 h2 => by rw [sset_ne h2]; exact T.ot a h1 h2⟩
theorem Two.setP {μ μ' : Sto} {p st : Addr} {L L2 c : List D} (T : Two μ p st L c μ') : Two μ p st L2 c (sset μ' p (.lst L2)) :=
  ⟨T.hp, T.ne, sset_same, by rw [sset_ne T.ne]; exact T.sc, fun a h1 h2 => by rw [sset_ne h1]; exact T.ot a h1 h2⟩
theorem Two.sub {μ μ' : Sto} {p st : Addr} {L c : List D} (T : Two μ p st L c μ') : Sub (sset μ st (.lst c)) μ' := fun a x e => by
  by_cases h : a = st
  · subst h; rw [sset_same] at e; rw [T.sc]; exact e
  · rw [sset_ne h] at e
    have h1 : a ≠ p := fun z => by rw [z, T.hp] at e; cases e
    rw [T.ot a h1 h]; exact e
theorem Two.del {μ μ' : Sto} {p st : Addr} {L c : List D} (T : Two μ p st L c μ') : sdel μ' p = sset μ st (.lst c) := by
  funext a
  unfold sdel
  by_cases h : a = p
  · subst h; rw [if_pos rfl, sset_ne (Ne.symm T.ne), T.hp]
  · rw [if_neg h]
    by_cases h2 : a = st
    · subst h2; rw [sset_same, T.sc]
    · rw [sset_ne h2]; exact T.ot a h h2
theorem prodI_eqR (ws : List Int) : prodI ws = prodR ws.reverse := by
  have e := prodI_rev ws.reverse
  rw [List.reverse_reverse] at e
  exact e
theorem prodI_pos0 {ws : List Int} (h : Pos ws) : 0 < prodI ws := by rw [prodI_eqR]; exact prodR_pos h.rev
theorem Pos.take {ws : List Int} (h : Pos ws) (j : Nat) : Pos (ws.take j) := fun w hw => h w (List.mem_of_mem_take hw)
/-- a product of a front is no greater -/
theorem prod_take_le {ws : List Int} (h : Pos ws) : ∀ j, prodI (ws.take j) ≤ prodI ws := by
  have step : ∀ j, prodI (ws.take j) ≤ prodI (ws.take (j + 1)) := fun j => by
    cases e : ws[j]? with
    | none =>
      have hl : ws.length ≤ j := by rw [List.getElem?_eq_none_iff] at e; exact e
      rw [List.take_of_length_le hl, List.take_of_length_le (by omega)]; exact Int.le_refl _
    | some z =>
      rw [LW.prod_snoc e]
      have h1 := prodI_pos0 (h.take j)
      have h2 := h z (List.mem_of_getElem? e)
      have : prodI (ws.take j) * 1 ≤ prodI (ws.take j) * z := Int.mul_le_mul_of_nonneg_left (by omega) (by omega)
      omega
  have far : ∀ k j, prodI (ws.take j) ≤ prodI (ws.take (j + k)) := fun k => by
    induction k with
    | zero => intro j; exact Int.le_refl _
    | succ k ih => intro j; exact Int.le_trans (ih j) (step (j + k))
  intro j
  have := far ws.length j
  rw [List.take_of_length_le (by omega : ws.length ≤ j + ws.length)] at this
  exact this
theorem WB.of {ws : List Int} (hl : ws.length ≤ 1000) (hp : Pos ws) (hh : ∀ w ∈ ws, w < 2 ^ 100) (hb : prodI ws < 2 ^ 200) : WB ws :=
  ⟨hl, fun w hw => by have := hp w hw; omega, hh, fun j => ⟨by have := prodI_pos0 (hp.take j); omega, by have := prod_take_le hp j; omega⟩⟩
end LW
set_option Elab.async false
set_option linter.all false
set_option maxRecDepth 100000
set_option maxHeartbeats 4000000
namespace DW
open PySem PySem.Spec PyProof.Rows L2
section
variable {K : Fg} {B : Bx K} {te ta tb : TE} {φ φa φb : DE} {tl th : TO} {ol oh : XP → DEnv → Sto → (Option Int → Sto → Prop) → Prop}
def oCatS : DO := fun x y μ Φ => ∃ s t, x = .str s ∧ y = .str t ∧ s.length + t.length ≤ 100000 ∧ Φ (.str (s ++ t)) μ
def oInS (neg : Bool) : DO := fun x y μ Φ => ∃ (c : Nat) (z : Str), x = .str ⟨#[c]⟩ ∧ y = .str z ∧ Φ (.bl (if neg then !decide (c ∈ z.cps.toList) else decide (c ∈ z.cps.toList))) μ
def oIxS : DO := fun x y μ Φ => ∃ z i c, x = .str z ∧ y = .int i ∧ z.length ≤ 100000 ∧ atI z.cps.toList i = some c ∧ Φ (.str ⟨#[c]⟩) μ
def dSlS (φ : DE) (ol oh : XP → DEnv → Sto → (Option Int → Sto → Prop) → Prop) : DE := fun Ψ δ μ Φ => φ Ψ δ μ fun x μ1 => ol Ψ δ μ1 fun lo μ2 => oh Ψ δ μ2 fun hi μ3 => ∃ z, x = .str z ∧ z.length ≤ 100000 ∧ Φ (.str (cutS z lo hi)) μ3
def cStr : DC := fun xs μ Φ => (∃ i, xs = [.int i] ∧ i.natAbs.log2 < 1920 ∧ Φ (.str (toString i)) μ) ∨ ∃ a, xs = [.str a] ∧ Φ (.str a) μ
end
end DW
set_option Elab.async false
set_option linter.all false
set_option maxRecDepth 100000
set_option maxHeartbeats 4000000
namespace DW
open PySem PySem.Spec PyProof.Rows L2
/-- the tuple at a, counted from c -/
def IteT (K : Fg) (a : Addr) (n : Nat) (c : Int) : It :=
  ⟨fun i H => i < n ∧ ∃ (xs : List V) (x : V), SqT K H a xs ∧ xs[i]? = some x, fun i H v H' => ∃ T x, v = .ref T ∧ H T = none ∧ H' = upd H T (.tup [.int (c + (i : Nat)), x]) ∧ ∀ xs, SqT K H a xs → xs[i]? = some x, fun i H => n ≤ i ∧ ∃ xs : List V, SqT K H a xs ∧ xs.length = n⟩
theorem enum_apart {h : Heap} {e it t : Addr} {c : Int} {i : Nat} {old : Value} {items : Array Value} (he : IsEnum h e it c old) (hi : h.IsTupleIter it t i) (ht : h.IsTuple t items) : t ≠ it ∧ e ∉ [it, t] ∧ e ≠ it := by
  obtain ⟨o1, e1, c1, _⟩ := hi
  obtain ⟨o2, e2, c2, _⟩ := ht
  have n1 : t ≠ it := fun z => by subst z; rw [e1] at e2; cases e2; rw [c1] at c2; exact absurd (Value.type.inj c2) (by decide)
  have n2 : e ≠ it := fun z => by
    subst z
    have q : h.get? e = some _ := he
    rw [e1] at q; cases q; exact absurd (Value.type.inj c1) (by decide)
  have n3 : e ≠ t := fun z => by
    subst z
    have q : h.get? e = some _ := he
    rw [e2] at q; cases q; exact absurd (Value.type.inj c2) (by decide)
  exact ⟨n1, by simp [n2, n3], n2⟩
theorem turn_enumT {P : Program} {w : World} {K : Fg} {elts : List Expr} {kk : Nat} {tpos : Pos} (a e it : Addr) (n : Nat) (c : Int) :
    Turn P w K (.Tuple elts kk tpos) (IteT K a n c) [e, it] e (fun i h => i ≤ n ∧ (∃ old, IsEnum h e it (c + (i : Nat)) old) ∧ h.IsTupleIter it a i ∧ e ≠ it) where
  mem := by simp
  obj := fun i h st b hb => by
    obtain ⟨_, ⟨old, he⟩, ⟨o, ho, hc, hd⟩, _⟩ := st
    rcases (show b = e ∨ b = it by simpa using hb) with z | z
    · rw [z]; exact ⟨_, he, fun v q => nomatch q⟩
    · rw [z]; exact ⟨o, ho, fun v q => by rw [hd] at q; cases q⟩
  keep := fun i h h' st k => by
    obtain ⟨hin, ⟨old, he⟩, ⟨o, ho, r⟩, hne⟩ := st
    exact ⟨hin, ⟨old, k e (by simp) _ he⟩, ⟨o, k it (by simp) o ho, r⟩, hne⟩
  item := by
    intro X hP hw hK hc i pins s σ H E I hf st hg
    subst hP hw hK
    obtain ⟨hin, ⟨old, he⟩, hit, hne⟩ := st
    obtain ⟨hlt, xs, x, hq, hx⟩ := hg
    obtain ⟨its, rv, p, hz⟩ := I.tuple hq
    obtain ⟨u, hu, ru⟩ := rv.get hx
    have pt : s.heap.IsTuple a its.toArray := p
    obtain ⟨n1, n2, n3⟩ := enum_apart he hit pt
    have hel : e < s.heap.objs.size := Heap.lt_size he
    have hil : it < s.heap.objs.size := by obtain ⟨_, q, _⟩ := hit; exact Heap.lt_size q
    have hiu : i < its.toArray.size := by rw [List.size_toArray]; exact (List.getElem?_eq_some_iff.mp hu).1
    refine wpAny_pyNext_enum_itemC (Draws.tuple (A := X.A.in1) (I.ok.hd hc) it a n1 its.toArray) he ⟨hit, pt⟩ hiu n3 n2 fun y h' tk hP ho hst hT hsz hk => ?_
    have hy : y = u := by
      have q : its.toArray[i]? = some y := hP
      have q2 : its.toArray[i]? = some u := by simpa using hu
      rw [q2] at q; exact (Option.some.inj q).symm
    subst hy
    refine ⟨_, rfl, wpAny_letOwnedTupleGo_enum (s := { s with heap := h', toks := tk + 1 }) ho fun h'' he' sb => ?_⟩
    have hT2 := (sb.2 _ (Nat.ne_of_gt hel)).trans hT
    have new : ObjOk X.prog X.w (upd H s.heap.objs.size (.tup [.int (c + (i : Nat)), x])) h'' s.heap.objs.size (.tup [.int (c + (i : Nat)), x]) :=
      ⟨by show 2 ≤ sizeLine; decide, [.int (c + (i : Nat)) tk, y], .cons ⟨_, rfl⟩ (.cons ru .nil), ⟨_, hT2, rfl, _, rfl⟩⟩
    have I1 : Inv X pins σ (upd H s.heap.objs.size (.tup [.int (c + (i : Nat)), x])) { s with heap := h'', toks := tk + 1 } :=
      I.turnedNew (ch := [e, it]) (fun b ob hb q => (sb.2 b (fun z => hb (by simp [z]))).trans (hk b ob (fun z => hb (by simp [z])) (fun z => hb (by simp [z])) q)) hf (Nat.le_refl _) new
    refine ⟨.ref s.heap.objs.size, _, I1, rfl, ⟨_, x, rfl, I.hok.fresh (Nat.le_refl _), rfl, fun ys hy => by rw [I.tuple_inj hy hq]; exact hx⟩, ⟨hlt, ⟨y, ?_⟩, ?_, hne⟩, fun b hb => ?_⟩
    · have e1 : c + ((i + 1 : Nat) : Int) = c + ((i : Nat) : Int) + 1 := by omega
      rw [e1]; exact he'
    · obtain ⟨o, q, r⟩ := hst.1
      exact ⟨o, (sb.2 it (Ne.symm hne)).trans q, r⟩
    · have hb' : b < s.heap.objs.size := by
        rcases (show b = e ∨ b = it by simpa using hb) with z | z <;> (rw [z]; assumption)
      rw [upd_ne (Nat.ne_of_lt hb')]
      exact (hf b hb).1
  done := by
    intro X hP hw hK hc i pins s σ H E I hf st hg
    subst hP hw hK
    obtain ⟨hin, ⟨old, he⟩, hit, hne⟩ := st
    obtain ⟨hle, xs, hq, hx⟩ := hg
    obtain ⟨its, rv, p, hz⟩ := I.tuple hq
    have pt : s.heap.IsTuple a its.toArray := p
    obtain ⟨n1, n2, n3⟩ := enum_apart he hit pt
    obtain ⟨f0, f1, f2, f3, f4, f5⟩ := hf it (by simp)
    have hl := rv.length
    have hi : i = its.toArray.size := by rw [List.size_toArray]; omega
    subst hi
    exact wpAny_pyNext_enum_endD (Draws.tuple (A := X.A.in1) (I.ok.hd hc) it a n1 its.toArray) he ⟨hit, pt⟩ fun h' eb => ⟨rfl, I.turned (t' := s.toks) (fun b o hb q => eb b o hb q) f0 f1 f3 f4 f5⟩
  self := fun A i s Q E st h => let ⟨_, ⟨_, he⟩, _⟩ := st; wpAny_pyIter_enum he h
def iEnumT (K : Fg) (c : Int) (ta : TA) : TI := fun σ H R => ta σ H fun vs H1 => ∃ a xs, vs = [.ref a] ∧ SqT K H1 a xs ∧ R (IteT K a xs.length c) H1
theorem pie_enumT {X : Cx} {pins : List (Addr × Obj)} {σ : L2.St} {H1 : Hp} {s1 : Shared} {h' : Heap} {a : Addr} {xs : List V} {c : Int} {R : It → Hp → Prop} {elts : List Expr} {kk : Nat} {tpos : Pos} (I1 : Inv X pins σ H1 s1) (hq : SqT X.K H1 a xs)
    (he : IsEnum h' (s1.heap.objs.size + 1) s1.heap.objs.size c .none) (ho : h'.get? s1.heap.objs.size = some { cls := .type "tuple_iterator", data := .fields #[.ref a, .int 0 0] })
    (hk : ∀ b o, s1.heap.get? b = some o → h'.get? b = some o) (q : R (IteT X.K a xs.length c) H1) : PIE X pins σ (.Tuple elts kk tpos) R (.ref (s1.heap.objs.size + 1)) { s1 with heap := h' } := by
  refine ⟨s1.heap.objs.size + 1, [s1.heap.objs.size + 1, s1.heap.objs.size], _, _, H1, rfl, I1.kept (t' := s1.toks) hk, turn_enumT a (s1.heap.objs.size + 1) s1.heap.objs.size xs.length c, ⟨Nat.zero_le _, ⟨.none, ?_⟩, ⟨_, ho, rfl, rfl⟩, Nat.succ_ne_self _⟩, fun b hb => ?_, q⟩
  · have e : c + ((0 : Nat) : Int) = c := by omega
    rw [e]; exact he
  · have hle : s1.heap.objs.size ≤ b := by
      rcases (show b = s1.heap.objs.size + 1 ∨ b = s1.heap.objs.size by simpa using hb) with z | z
      · rw [z]; exact Nat.le_succ _
      · rw [z]; exact Nat.le_refl _
    exact I1.fpOk hle (I1.hok.fresh hle)
def iEnD (φ : DE) (c : Int) : DI := fun Ψ δ μ Φ => φ Ψ δ μ fun x μ1 => ∃ ds, x = .tup ds ∧ Φ ((List.range ds.length).map fun (i : Nat) => .pr [.int (c + (i : Int)), ds.getD i .non]) μ1
theorem siEnumT {K : Fg} {B : Bx K} {te : TE} {φ : DE} {c : Int} (a : SE B te φ) : SI B (iEnumT K c (tCons te tNil)) (iEnD φ c) := fun σ H δ μ Φ R S q k =>
  a σ H δ μ _ _ S q fun v H1 x μ1 S1 e1 r1 q1 => by
    obtain ⟨ds, rfl, q2⟩ := q1
    obtain ⟨p, vs, rfl, h1, h2⟩ := Rep.tup_inv r1
    refine ⟨p, vs, rfl, h1.sq, k _ _ H1 μ1 S1 e1 (fun i H3 μ3 s3 e3 => ?_) q2⟩
    rw [List.length_map, List.length_range]
    have hl := h2.length
    refine ⟨fun hi => ?_, fun hi => ⟨by omega, vs, (h1.mono e3).sq, rfl⟩⟩
    have hv : i < vs.length := by omega
    refine ⟨⟨hv, vs, vs[i], (h1.mono e3).sq, List.getElem?_eq_getElem hv⟩, fun z H' hy => ?_⟩
    obtain ⟨T, u, rfl, hT, rfl, hu⟩ := hy
    obtain ⟨d, hd, rd⟩ := (h2.mono e3).getV (hu vs (h1.mono e3).sq)
    refine ⟨.pr [.int (c + (i : Int)), d], ?_, s3.new hT, .new hT, rep_tup s3 hT (.cons (.int _ .nil) (.cons rd .nil))⟩
    rw [List.getElem?_map, List.getElem?_range hi]
    show some (D.pr [D.int (c + (i : Int)), ds.getD i .non]) = _
    rw [List.getD_eq_getElem?_getD, hd]
    rfl
end DW
set_option Elab.async false
set_option linter.all false
set_option maxRecDepth 100000
set_option maxHeartbeats 4000000
namespace DW
open PySem PySem.Spec PyProof.Rows L2 NdefX PySem.W
/-- a method that may say super(): its body, at its own activation -/
theorem supfn_of {CX : CXT} {P : Program} {w : World} {K : Fg} {mg : Str → Option Value} {base : Heap} {k : Nat} {f C cc cda : Addr} {name qual : Str} {params : Arguments} {body : List Stmt} {scope : Scope} {kV doc pm ct oc cl : Value} {an od cld : Option Addr}
    {osl csl : Array (Option Value)} {N ps : List Str} {sp : Sp} (lk : K.lookup f = some ⟨oc, od, .func (ksFn name qual params body scope .none kV doc pm an (.ref cda) ct cc), osl⟩) (hcd : codeIn K (.ref cda) qual = true) (S : NScope N ps ["__class__"] scope)
    (lcc : K.lookup cc = some ⟨cl, cld, .cell (some (.ref C)), csl⟩)
    (len : ∀ vs H Q E, sp vs H Q E → vs.length = ps.length)
    (hbody : ∀ (A : Around) (outer : List Env) (s s1 : Shared) (H : Hp) (vs : List V) (Q : VK) (E : XK), Room k (A.deeper (envF ⟨name, qual, params, body, scope, [("__class__", cc)], cda⟩ f s.heap.objs.size)) → sp vs H Q E →
      Inv (ncx CX P w K mg base N ⟨name, qual, params, body, scope, [("__class__", cc)], cda⟩ f A outer s H E) [] (startF N vs [none]) H s1 →
      _root_.PySem.wpAt (model P w) (A.deeper (envF ⟨name, qual, params, body, scope, [("__class__", cc)], cda⟩ f s.heap.objs.size)) (.func body (envF ⟨name, qual, params, body, scope, [("__class__", cc)], cda⟩ f s.heap.objs.size)) (execs body (envF ⟨name, qual, params, body, scope, [("__class__", cc)], cda⟩ f s.heap.objs.size))
        (SP (ncx CX P w K mg base N ⟨name, qual, params, body, scope, [("__class__", cc)], cda⟩ f A outer s H E) [] { nx := fun _ H' => Q .non H', rt := Q }) (ncx CX P w K mg base N ⟨name, qual, params, body, scope, [("__class__", cc)], cda⟩ f A outer s H E).xe s1) :
    FnOk P w K mg base CX (k + 1) f (ksFn name qual params body scope .none kV doc pm an (.ref cda) ct cc) ps sp := by
  refine ⟨len, fun A outer s H args us vs Q E hr e0 hb r hsp => ?_⟩
  have hl := len _ _ _ _ hsp
  have KX : K.In s.heap := e0.mod.kin.keeps fun b o e => (e0.bs b o e).1
  have lim : s.heap.NoLimit := e0.mod.nolimit.keeps fun b o e => (e0.bs b o e).1
  refine ks_codeAny_call_defAt (fd := ksFn name qual params body scope .none kV doc pm an (.ref cda) ct cc) (body := body) (binds := ps.zip us) hr.depth (KX _ _ lk) rfl lim (codeRec_of KX hcd) rfl hb S.nocell (fun ⟨n, _⟩ hy => S.par n (List.of_mem_zip hy).1) (fun h₁ hns hk₁ => ?_) S.co S.gen S.kind
  have Cc : CellsAt [("__class__", cc)] ["__class__"] [none] s.heap H := by
    refine ⟨rfl, fun y c e => ?_, fun x y c e1 e2 => ?_, fun i y e => ?_⟩
    · have ec : c = cc := by
        simp only [List.lookup] at e
        split at e <;> simp_all
      subst ec
      exact ⟨(e0.bs _ _ (e0.mod.kin _ _ lcc)).2, _, _, KX _ _ lcc, rfl⟩
    · simp only [List.lookup] at e1 e2
      split at e1 <;> split at e2 <;> simp_all
    · cases i with
      | zero => cases e; exact ⟨cc, rfl, fun v z => by cases z⟩
      | succ i => cases i <;> cases e
  have I := inv_startN (CX := CX) (P := P) (w := w) (K := K) (mg := mg) (base := base) (F := ⟨name, qual, params, body, scope, [("__class__", cc)], cda⟩) (f := f) (E := E) (tk := s.toks + (ps.zip us).length) S hr.hd e0 hl r Cc hns hk₁
  refine ks_wpAt_mono (hbody A outer s _ H vs Q E (hr.deeper _) hsp I) (fun fl s' hs => ?_) fun e s' hs => hs
  have fin : ∀ {σ' : L2.St} {H' : Hp} {v : V} {u : Value}, Inv (ncx CX P w K mg base N ⟨name, qual, params, body, scope, [("__class__", cc)], cda⟩ f A outer s H E) [] σ' H' s' → L2.RelV v u → Q v H' → CE outer P w H s Q u s' :=
    fun {σ' H' v u} J rv q => ⟨v, H', J.os, J.bare, J.base, J.hok, rv, q⟩
  cases fl with
  | ret u =>
    obtain ⟨v, σ', H', J, rv, q⟩ := hs
    exact fin J rv q
  | next =>
    obtain ⟨σ', H', J, q⟩ := hs
    exact fin (v := V.non) (u := Value.none) J rfl q
  | brk =>
    obtain ⟨_, _, _, q⟩ := hs
    exact False.elim q
  | cont =>
    obtain ⟨_, _, _, q⟩ := hs
    exact False.elim q
end DW
set_option Elab.async false
set_option linter.all false
set_option maxRecDepth 100000
set_option maxHeartbeats 4000000
namespace DW
open PySem PySem.Spec PyProof.Rows L2 NdefX PySem.W
/-- the call of the bound __init__ -/
theorem mw_init {X : Cx} {pins : List (Addr × Obj)} {σ : L2.St} {H : Hp} {s : Shared} {a C u : Addr} {us : List Value} {A : Around} {E : Value → Shared → Prop} {Q : Value → Shared → Prop} (T : OexC X.K C) (I : Inv X pins σ H s) (e : H a = some (exo a C none)) (hu : s.heap.get? u = some (kxs_mw "ValueError.__init__" a)) (hl : us.length ≤ sizeLine)
    (h : ∀ s', Inv X pins σ H s' → Q .none s') : wpAny (model X.prog X.w) A (call (.ref u) us) Q E s := by
  obtain ⟨nm, q, N, bs, bm, sn, sub, ab, col, dd, k0, k1, k2, k3, k5, hC, hbm⟩ := T.cls
  obtain ⟨t1, ho⟩ := exo_at I.hok e
  have hC1 := I.kIn _ _ hC
  obtain ⟨hp, g, d, t, os⟩ := s
  have fin : ∀ h', (∀ b o, b ≠ a → hp.get? b = some o → h'.get? b = some o) → h'.get? a = some (excRec (.ref C) hp.objs.size none .none .none (.bool false)) → h'.get? hp.objs.size = some (excTup us) → Q .none ⟨h', g, d, t, os⟩ := fun h' k hx _ => by
    have J := I.write (t' := t) (x := a) (e := a) (o := exo a C none) (by rw [e]; exact True.intro) (.inl rfl) k ⟨_, hx⟩ (exo_ok hx)
    have eu : upd H a (exo a C none) = H := by
      funext b
      by_cases hb : b = a
      · rw [hb, upd_same, e]
      · rw [upd_ne hb]
    rw [eu] at J
    exact h _ J
  refine wpAny_call (codeAny_of_tree ?_)
  show wpAny _ A.in1 (callAny (.ref u) ⟨us, []⟩) _ _ _
  simp only [callAny]
  refine wpAny_bind (wpAny_load hu ?_)
  simp only [kxs_mw, show (Value.type "method-wrapper" == Value.type "method" || Value.type "method-wrapper" == Value.type "builtin_function_or_method" || Value.type "method-wrapper" == Value.type "method-wrapper") = true by decide, if_true]
  refine KFB.if_so (by decide) ?_
  refine wpAny_bind (check_bound_init PySem.F.excBase_ValueError.toExcCallFacts hC1 ho rfl ?_)
  refine wpAny_bind (wpAny_pure (wpAny_pure ?_))
  refine ⟨plainId_quiet PySem.F.excBase_ValueError.init.plain _, codeAny_builtin PySem.F.excBase_ValueError.initEntry ?_⟩
  exact exc_init_tree (cls := .ref C) (t0 := t1) (dv := none) (c2 := .none) (c3 := .none) (b4 := .bool false) ho hl fin
/-- what the written part says of a class whose __init__ says super().__init__(..) -/
structure SupC (K : Fg) (C D cc f cda : Addr) (file : Str) : Prop where
  ox : OexC K C
  cell : ∃ cl cld csl, K.lookup cc = some ⟨cl, cld, .cell (some (.ref D)), csl⟩
  own : isClsIn K D = true
  sub : mroIn K C (.ref D) = some true
  ve : subIn K (.ref C) (.type "ValueError") = some true
  opq : nsIn K cStatics "thirdparty.any" = some none
  sup : ks_superIn K C D "__init__" = some (some (.builtin "ValueError.__init__"))
  code : ∃ ccl cdd vs ccs tf, K.lookup cda = some ⟨ccl, cdd, .fields vs, ccs⟩ ∧ vs[2]? = some (.str file tf)
theorem super_line {X : Cx} {qual : Str} {scope : Scope} {L f cda cc a C D : Addr} {file : Str} {fd : FuncData} {oc : Value} {od : Option Addr} {osl : Array (Option Value)} {body : List Stmt} {p0 p1 p2 p3 p4 : Pos} {e1 : Expr} {te : TE} {σ : L2.St} {H : Hp} {s : Shared} {G : Shared → Prop} {ar : Arg}
    (hX : X.env = ksEnv qual scope L f (.ref cda) cc) (T : SupC X.K C D cc f cda file) (hf : X.K.lookup f = some ⟨oc, od, .func fd, osl⟩) (hp : (fd.params.posonlyargs ++ fd.params.args).head? = some ar)
    (hfile : ((X.prog.main.file : Str) == file) = true) (htop : (X.prog.main.scope.names.lookup ("super" : Str)).isSome = false) (hms : X.mg "super" = none)
    (hks : scope.names.lookup ("super" : Str) = some .globalImplicit) (hkc : scope.names.lookup ("__class__" : Str) = some .free) (hka : scope.names.lookup ar.arg = some .local)
    (I : Inv X [] σ H s) (hN : X.N[0]? = some ar.arg) (h0 : σ[0]? = some (some (.ref a))) (ea : H a = some (exo a C none)) (he : PE X e1 te)
    (hst : starEach [e1] X.env = (false, eval e1 X.env) :: starEach [] X.env) (hpl : (backTo p3 (starEach [] X.env)).any (·.1) = false)
    (hi : interactive X.env = false) (hsw : swapsWith (.Call (.Attribute (.Call (.Name "super" p0) [] [] p1) "__init__" p2) [e1] [] p3) none p4.line X.env = pure false)
    (hev : ∃ pl, eval (.Call (.Attribute (.Call (.Name "super" p0) [] [] p1) "__init__" p2) [e1] [] p3) X.env = (do
      let ov ← attributeBase (.Call (.Name "super" p0) [] [] p1) "__init__" X.env (eval (.Call (.Name "super" p0) [] [] p1) X.env)
      standAt p2.atName
      let (f, first) ← holding [ov] (getMethod ov "__init__" pl)
      callWith p3 f first (backTo p3 (starEach [e1] X.env)) []))
    (h : te σ H fun x H1 => H1 a = some (exo a C none) ∧ ∀ s', Inv X [] σ H1 s' → G s') :
    _root_.PySem.wpAt (model X.prog X.w) X.A (.func body X.env) (exec (.Expr (.Call (.Attribute (.Call (.Name "super" p0) [] [] p1) "__init__" p2) [e1] [] p3) p4) X.env) (fun fl s' => fl = .next ∧ G s') X.xe s := by
  obtain ⟨pl, hev⟩ := hev
  obtain ⟨cl, cld, csl, hcell⟩ := T.cell
  obtain ⟨ccl, cdd, vs, ccs, tf, hcode, hvs⟩ := T.code
  have KX := I.kIn
  refine ks_wpAt_Expr_any (ks_wpAt_MethodCall ?_ hev) hi hsw
  obtain ⟨nm, q, N, bs, bm, sn, sub, ab, col, dd, k0, k1, k2, k3, k5, hC, hbm⟩ := T.ox.cls
  obtain ⟨t1, ho⟩ := exo_at I.hok ea
  obtain ⟨m, hns, hlk⟩ := I.loc
  have hkind := I.ok.kind
  have ksX : X.env.kindOf "super" = some .globalImplicit := by rw [hX]; exact hks
  have kcX : X.env.kindOf "__class__" = some .free := by rw [hX]; exact hkc
  have kaX : X.env.kindOf ar.arg = some .local := by rw [hX]; exact hka
  have ccX : X.env.cells.lookup (("__class__" : Str)) = some cc := by rw [hX]; rfl
  obtain ⟨u0, ru0, lk0⟩ := hlk 0 ar.arg (.ref a) hN h0 (.inl kaX)
  obtain rfl : u0 = Value.ref a := ru0
  have hma : m ar.arg = some (.ref a) := by
    rcases lk0 with ⟨_, q⟩ | ⟨q, _⟩
    · exact q
    · rw [kaX] at q; rcases q with q | q <;> cases q
  obtain ⟨cdD, hcdD⟩ := Option.isSome_iff_exists.mp (show (clsIn X.K D).isSome = true from T.own)
  obtain ⟨oD, hD1, hD2⟩ : ∃ oD, s.heap.get? D = some oD ∧ oD.data = .cls cdD := by
    unfold clsIn at hcdD
    split at hcdD
    · rename_i c d cd' sl ho'
      cases hcdD
      exact ⟨_, KX _ _ ho', rfl⟩
    · cases hcdD
  obtain ⟨cdC, hcdC⟩ : ∃ cd, clsIn X.K C = some cd := by
    have q := T.sub
    unfold mroIn at q
    cases z : clsIn X.K C with
    | none => rw [z] at q; cases q
    | some cd => exact ⟨cd, rfl⟩
  have hsup : alongIn X.K "__init__" ((cdC.mro.dropWhile (· != .ref D)).drop 1) = some (some (.builtin "ValueError.__init__")) := by
    have q := T.sup
    unfold ks_superIn at q
    rw [hcdC] at q
    exact q
  have haC : a ≠ C := fun z => by
    have q := KX _ _ hC
    rw [← z, ho] at q
    cases q
  obtain ⟨mb, hb1, hb2⟩ := I.mod.blt
  obtain ⟨hh, g, d, t, os⟩ := s
  refine ks_wpAt_super_base (f := f) (fd := fd) (ar := ar) ksX kcX (by decide) (by rw [hX]) (KX _ _ hf) rfl hp (by rw [hX]) (KX _ _ hcode) rfl hvs hfile htop ?_
  refine ks_loadName_global hkind ksX (Calls.loadGlobal_builtin (by rw [I.ok.glob]; exact I.mod.glob.keeps I.bk) hms (by rw [I.ok.blt]; exact hb1.keeps I.bk) ((hb2 _ (by decide)).trans (by first | boot_by_name | rfl | kernel_rfl)) ⟨rfl, ?_⟩)
  refine wpAny_loadName_free hkind kcX ccX ⟨_, KX _ _ hcell, rfl⟩ ?_
  refine wpAny_loadName_local hkind kaX hns hma ?_
  refine ks_wpAny_isType_cls hD1 hD2 ⟨rfl, ?_⟩
  refine ks_wpAny_call_super hD1 hD2 ho rfl (fun c z => by cases z) (looks_mroIn KX T.sub) (fun h' e k => ?_)
  have KX' : X.K.In h' := KX.keeps k
  have ho' := k _ _ ho
  have LT : Looks (model X.prog X.w) h' (typeOf (.ref a)) (.ref C) := fun A Q E s k q => wpAny_typeOf_ref (k _ _ ho') q
  refine kxs_getMethod kxs_ValueError e (looks_opaque KX' T.opq) (l₀ := cdC.mro) (fun A Q E s k q => wpAny_bind ((looks_clsIn KX' hcdC) A _ E s k (wpAny_pure q))) rfl KX' hsup (LT.andThen (looks_subIn KX' T.ve)) haC (by decide) ?_
  -- the arguments
  have k2 : ∀ b o, hh.get? b = some o → (h'.push (kxs_mw "ValueError.__init__" a)).get? b = some o := fun b o q => Heap.get?_push_of_some _ (k b o q)
  have I2 : Inv X [] σ H ⟨h'.push (kxs_mw "ValueError.__init__" a), g, d, t + 1, os⟩ := I.kept (t' := t + 1) k2
  have hge : hh.objs.size ≤ h'.objs.size := by
    by_cases z : hh.objs.size = 0
    · omega
    · have hl : hh.objs.size - 1 < hh.objs.size := by omega
      exact Nat.le_of_lt (Heap.lt_size e)
  have I3 : Inv X [(h'.objs.size, kxs_mw "ValueError.__init__" a)] σ H ⟨h'.push (kxs_mw "ValueError.__init__" a), g, d, t + 1, os⟩ := I2.pins_of fun p hp => by
    rw [List.mem_singleton.mp hp]
    refine ⟨Heap.get?_push_size _ rfl, I.hok.fresh hge, ?_, I.nofs hge, fun v z => by cases z⟩
    have := hns.lt
    exact Nat.ne_of_gt (Nat.lt_of_lt_of_le this hge)
  rw [hst]
  refine kxs_callWith (i := "ValueError.__init__") (x := a) (by show (false || (backTo p3 (starEach [] X.env)).any (·.1)) = false; rw [hpl]; rfl) (Calls.evalArgs_plain ?_)
  refine Calls.spliced_cons (thn (he.run _ _ σ H _ I3 h) fun u1 s1 ⟨x1, H1, J1, rx1, ea1, q1⟩ => ?_)
  refine Calls.spliced_nil ?_
  have hu := (J1.pin (h'.objs.size, kxs_mw "ValueError.__init__" a) (List.mem_append_right _ List.mem_cons_self)).1
  refine ⟨hu, mw_init T.ox J1 ea1 hu (by show 1 ≤ sizeLine; decide) fun s' J => ⟨rfl, q1 s' (J.pins_of fun p hp => absurd hp (by simp))⟩⟩
end DW
set_option Elab.async false
set_option linter.all false
set_option maxRecDepth 100000
set_option maxHeartbeats 4000000
namespace DW
open PySem PySem.Spec PyProof.Rows L2 NdefX PySem.W
/-- what __init__(self, f) keeps: self, an error in the making, gets its one field -/
def spInit (K : Fg) (C : Addr) (fld : Str) (okv : V → Hp → Prop) : Sp := fun vs H Q _ => ∃ a v, vs = [.ref a, v] ∧ okv v H ∧ OexC K C ∧ findIn K (.ref C) fld = some none ∧ H a = some (exo a C none) ∧
  ∀ d, H d = none → d ≠ a → Q .non (upd (upd H d (exd d [(fld, v)])) a (exo a C (some d)))
/-- __init__(self, f): super().__init__(text); self.f = f -/
theorem sup_fn {CX : CXT} {P : Program} {w : World} {K : Fg} {mg : Str → Option Value} {base : Heap} {k : Nat} {f C D cc cda : Addr} {name qual fld file : Str} {params : Arguments} {scope : Scope} {kV doc pm ct oc : Value} {an od : Option Addr} {osl : Array (Option Value)} {N : List Str} {okv : V → Hp → Prop}
    {p0 p1 p2 p3 p4 q1 q2 q3 q4 : Pos} {e1 : Expr} {ar : Arg}
    (lk : K.lookup f = some ⟨oc, od, .func (ksFn name qual params [.Expr (.Call (.Attribute (.Call (.Name "super" p0) [] [] p1) "__init__" p2) [e1] [] p3) p4, .Assign [.Attribute (.Name "self" q1) fld q2] (.Name fld q3) q4] scope .none kV doc pm an (.ref cda) ct cc), osl⟩)
    (hcd : codeIn K (.ref cda) qual = true) (S : NScope N ["self", fld] ["__class__"] scope) (T : SupC K C D cc f cda file) (hp : (params.posonlyargs ++ params.args).head? = some ar) (har : ar.arg = "self")
    (hfile : ((P.main.file : Str) == file) = true) (htop : (P.main.scope.names.lookup ("super" : Str)).isSome = false) (hms : mg "super" = none) (hks : scope.names.lookup ("super" : Str) = some .globalImplicit)
    (hdb : (fld == ("__debug__" : Str)) = false)
    (hX : ∀ (X : Cx), X.prog = P → X.w = w → X.K = K → X.N = N → X.env.scope = scope → (∃ L, X.env = ksEnv qual scope L f (.ref cda) cc) → Room k X.A →
      (∃ te, PE X e1 te ∧ ∀ (σ : L2.St) (H : Hp) (v : V), σ[1]? = some (some v) → okv v H → ∀ Q : VK, (∀ x, Q x H) → te σ H Q) ∧
      starEach [e1] X.env = (false, eval e1 X.env) :: starEach [] X.env ∧ (backTo p3 (starEach [] X.env)).any (·.1) = false ∧ interactive X.env = false ∧
      swapsWith (.Call (.Attribute (.Call (.Name "super" p0) [] [] p1) "__init__" p2) [e1] [] p3) none p4.line X.env = pure false ∧
      (∃ pl, eval (.Call (.Attribute (.Call (.Name "super" p0) [] [] p1) "__init__" p2) [e1] [] p3) X.env = (do
        let ov ← attributeBase (.Call (.Name "super" p0) [] [] p1) "__init__" X.env (eval (.Call (.Name "super" p0) [] [] p1) X.env)
        standAt p2.atName
        let (f, first) ← holding [ov] (getMethod ov "__init__" pl)
        callWith p3 f first (backTo p3 (starEach [e1] X.env)) [])) ∧
      swapsWith (.Name fld q3) (some (.Attribute (.Name "self" q1) fld q2)) q4.line X.env = pure false ∧ PE X (.Name "self" q1) (tVar 0) ∧ PE X (.Name fld q3) (tVar 1)) :
    FnOk P w K mg base CX (k + 1) f (ksFn name qual params [.Expr (.Call (.Attribute (.Call (.Name "super" p0) [] [] p1) "__init__" p2) [e1] [] p3) p4, .Assign [.Attribute (.Name "self" q1) fld q2] (.Name fld q3) q4] scope .none kV doc pm an (.ref cda) ct cc) ["self", fld] (spInit K C fld okv) := by
  obtain ⟨cl, cld, csl, lcc⟩ := T.cell
  obtain ⟨_, hC2⟩ : True ∧ True := ⟨trivial, trivial⟩
  refine supfn_of lk hcd S lcc (fun vs H Q E h => ?_) (fun A outer s s1 H vs Q E hr h I => ?_)
  · obtain ⟨a, v, rfl, _⟩ := h; rfl
  obtain ⟨a, v, rfl, hok, hox, hno, ea, hq⟩ := h
  have hlen : N.take 3 = (["self", fld, "__class__"] : List Str) := S.pre
  have hn0 : N[0]? = some ("self" : Str) := by
    have q := congrArg (fun l : List Str => l[0]?) hlen
    rw [List.getElem?_take_of_lt (by decide)] at q
    exact q
  have hl3 : 3 ≤ N.length := by have := congrArg List.length hlen; rw [List.length_take] at this; simp at this; omega
  obtain ⟨⟨te, hte, hmsg⟩, f1, f2, f3, f4, f5, f6, f7, f8⟩ := hX (ncx CX P w K mg base N ⟨name, qual, params, [.Expr (.Call (.Attribute (.Call (.Name "super" p0) [] [] p1) "__init__" p2) [e1] [] p3) p4, .Assign [.Attribute (.Name "self" q1) fld q2] (.Name fld q3) q4], scope, [("__class__", cc)], cda⟩ f A outer s H E) rfl rfl rfl rfl rfl ⟨_, rfl⟩ hr
  have s0 : (startF N [.ref a, v] [none])[0]? = some (some (.ref a)) := rfl
  have s1' : (startF N [.ref a, v] [none])[1]? = some (some v) := rfl
  refine ks_wpAt_execs_cons (ks_wpAt_mono (super_line (X := ncx CX P w K mg base N ⟨name, qual, params, [.Expr (.Call (.Attribute (.Call (.Name "super" p0) [] [] p1) "__init__" p2) [e1] [] p3) p4, .Assign [.Attribute (.Name "self" q1) fld q2] (.Name fld q3) q4], scope, [("__class__", cc)], cda⟩ f A outer s H E) (L := s.heap.objs.size) (σ := startF N [.ref a, v] [none]) (H := H) rfl T lk hp hfile htop hms hks (S.frk _ List.mem_cons_self) (by rw [har]; exact S.par _ List.mem_cons_self) I (by rw [har]; exact hn0) s0 ea hte f1 f2 f3 f4 f5
    (G := fun s' => Inv (ncx CX P w K mg base N ⟨name, qual, params, [.Expr (.Call (.Attribute (.Call (.Name "super" p0) [] [] p1) "__init__" p2) [e1] [] p3) p4, .Assign [.Attribute (.Name "self" q1) fld q2] (.Name fld q3) q4], scope, [("__class__", cc)], cda⟩ f A outer s H E) [] (startF N [.ref a, v] [none]) H s') ?_) (fun fl s' hs => ?_) fun _ _ z => z)
  · exact hmsg _ H v s1' hok _ fun x => ⟨ea, fun s' J => J⟩
  · obtain ⟨rfl, J⟩ := hs
    refine PySem.wpAt_of_wpAny ?_
    refine (pss_one (ps_ost f7 f8 f6)).run [] s' _ H _ J ?_
    refine ⟨v, s1', .ref a, s0, a, C, rfl, hox, hno, .inl ⟨ea, fun dx hd hne => ?_⟩⟩
    exact hq dx hd hne
/-- C(e): an own error made, its context None -/
theorem pmk_sup {CX : CXT} {X : Cx} {x fld : Str} {C fI : Addr} {k : Nat} {fd : FuncData} {ps : List Str} {okv : V → Hp → Prop} {e : Expr} {ta : TA} {p pos : Pos} (T : OexC X.K C) (iC : findIn X.K (.ref C) "__init__" = some (some (.ref fI))) (tI : typeIn X.K (.ref fI) = some (.type "function")) (hno : findIn X.K (.ref C) fld = some none)
    (F1 : FnOk X.prog X.w X.K X.mg X.base CX k fI fd ps (spInit X.K C fld okv)) (hr : Room (k + 1) X.A) (hb : Binds X.K fd ps []) (hx : Passes CX X (fun _ _ _ => False)) (hg : Gl X x) (hm : X.mg x = some (.ref C)) (ha : PA X [e] ta)
    (hdb : (x == ("__debug__" : Str)) = false := by decide) (hst : starEach [e] X.env = (false, eval e X.env) :: starEach [] X.env := by rfl) (hpl : (backTo pos (starEach [] X.env)).any (·.1) = false := by rfl) :
    L2N.PMk X (.Call (.Name x p) [e] [] pos) (fun σ H Q => ta σ H fun vs H1 => ∃ v, vs = [v] ∧ (∀ a, H1 a = none → okv v (upd H1 a (exo a C none))) ∧ ∀ d, H1 d = none → Q (.ref C) (some d) (upd H1 d (.xd [(fld, v)]))) := by
  intro pins s σ H Q I h
  obtain ⟨nm, q, N, bs, bm, sn, sub, ab, col, dd, k0, k1, k2, k3, k5, hC, hbm⟩ := T.cls
  refine wpAny_Call_Name_kw (ld_glob I hg hm ?_ hdb)
  refine callWith_K (h₀ := X.base) I.ok.mod.kin T.kC (thn (ha.run pos pins s σ H _ I h) fun us s1 ⟨vs, H1, I1, r1, v, ev, hok, q1⟩ => ⟨I1.kIn, ?_⟩) hst hpl
  subst ev
  obtain ⟨u1, rfl, rv1⟩ := vals1 r1
  obtain ⟨hp, g, dr, tk, os⟩ := s1
  have hsz : hp.objs.size ≤ hp.objs.size + 1 := Nat.le_succ _
  have hn : H1 (hp.objs.size + 1) = none := I1.hok.fresh hsz
  have kk : ∀ b o, hp.get? b = some o → ((hp.push (kdv_tup [u1])).push (PySem.HandSPX.excO C hp.objs.size)).get? b = some o := fun b o z => Heap.get?_push_of_some _ (Heap.get?_push_of_some _ z)
  have hget : ((hp.push (kdv_tup [u1])).push (PySem.HandSPX.excO C hp.objs.size)).get? (hp.objs.size + 1) = some (PySem.HandSPX.excO C hp.objs.size) := by heap_get
  have I2 : Inv X pins σ (upd H1 (hp.objs.size + 1) (exo (hp.objs.size + 1) C none)) ⟨(hp.push (kdv_tup [u1])).push (PySem.HandSPX.excO C hp.objs.size), g, dr, tk, os⟩ := I1.laid (t' := tk) kk hsz (exo_ok hget)
  have hsp : spInit X.K C fld okv [.ref (hp.objs.size + 1), v] (upd H1 (hp.objs.size + 1) (exo (hp.objs.size + 1) C none)) (fun v' H2 => v' = .non ∧ ∃ d, H2 (hp.objs.size + 1) = some (exo (hp.objs.size + 1) C (some d)) ∧ H2 d = some (exd d [(fld, v)]) ∧ H1 d = none ∧ Q (.ref C) (some d) (upd (L2.del H2 (hp.objs.size + 1)) d (.xd [(fld, v)]))) (fun _ _ _ => False) := by
    refine ⟨_, v, rfl, hok _ hn, T, hno, upd_same, fun d hd hne => ⟨rfl, d, upd_same, ?_, ?_, ?_⟩⟩
    · rw [upd_ne hne, upd_same]
    · rw [upd_ne hne] at hd; exact hd
    · have hd1 : H1 d = none := by rw [upd_ne hne] at hd; exact hd
      have e2 : upd (L2.del (upd (upd (upd H1 (hp.objs.size + 1) (exo (hp.objs.size + 1) C none)) d (exd d [(fld, v)])) (hp.objs.size + 1) (exo (hp.objs.size + 1) C (some d))) (hp.objs.size + 1)) d (.xd [(fld, v)]) = upd H1 d (.xd [(fld, v)]) := by
        funext b
        by_cases h1 : b = d
        · rw [h1, upd_same, upd_same]
        · rw [upd_ne h1, upd_ne h1]
          by_cases h2 : b = hp.objs.size + 1
          · rw [h2, L2.del_same, hn]
          · rw [L2.del_ne h2, upd_ne h2, upd_ne h1, upd_ne h2]
      rw [e2]
      exact q1 d hd1
  have r2 : Vals [V.ref (hp.objs.size + 1), v] [Value.ref (hp.objs.size + 1), u1] := .cons rfl (.cons rv1 .nil)
  have hl : [Value.ref (hp.objs.size + 1), u1].length = ps.length := F1.len _ _ _ _ hsp
  show wpAny _ _ (call (.ref C) [u1]) _ _ _
  refine wpAny_call (PySem.HandSPX.call_own PySem.F.excBase_ValueError (fun Y => PySem.HandSPX.refsVE_contains Y bm hbm) (I1.kIn _ _ hC) (looks_findIn I1.kIn iC) (fun self => bind_fn I1.kIn self tI) (by show 1 ≤ sizeLine; decide)
    (codeAny_mono (F1.run _ X.stack _ _ ⟨[Value.ref (hp.objs.size + 1), u1], []⟩ [Value.ref (hp.objs.size + 1), u1] _ _ (fun _ _ _ => False) (hr.make C [u1] []) (I2.env0.make C [u1] []) (by have := hb _ [Value.ref (hp.objs.size + 1), u1] I2.kIn (by simpa using hl); simpa using this) r2 hsp) fun r s' hq' => ?_))
  cases r with
  | error er => exact hx pins σ _ _ er s' I2 hq'
  | ok fl =>
    cases fl with
    | ret u =>
      obtain ⟨v', H2, os2, bare2, un2, hok2, rv, ev, d, ea, ed, hd1, q2⟩ := hq'
      subst ev
      obtain ⟨h2, g2, d2, t2, os'⟩ := s'
      obtain ⟨t0, G, J, kG, ge, hoe, na⟩ := mk_end0 (d2 := d2) (t2 := t2) I1 hsz kk un2 hok2 os2 bare2 ea ed hd1
      exact ⟨rv, _, _, _, ⟨G, g2, d2, t2, os'⟩, _, .ref C, some d, rfl, J, kG, ge, hoe, ⟨rfl, rfl, fun vs z => by cases z; rfl⟩, rfl, rfl, na, rfl, bare2, raises_own T.exC T.tyC, q2⟩
    | next => exact False.elim hq'
    | brk => exact False.elim hq'
    | cont => exact False.elim hq'
end DW
set_option Elab.async false
set_option linter.all false
set_option maxRecDepth 100000
set_option maxHeartbeats 4000000
namespace DW
open PySem PySem.Spec PyProof.Rows L2
section
variable {K : Fg} {B : Bx K}
def dRaise1 (C : Addr) (fld : Str) (okd : D → Prop) (φ : DE) : DSt := fun Ψ _ δ μ => φ Ψ δ μ fun x μ1 => okd x ∧ Ψ (.mk C (some ([fld], [x]))) δ μ1
theorem sRaise1 {W : WX} {C : Addr} {fld : Str} {okd : D → Prop} {okv : V → Hp → Prop} {te : TE} {φ : DE} (hW : B.W = W) (hok : ∀ (μ : Sto) (H : Hp) (v : V) (d : D), Rep K μ H v d → okd d → okv v H) (a : SE B te φ) :
    SS B (fun _ σ H => (fun (σ : L2.St) (H : Hp) (Q : XK) => tCons te tNil σ H fun vs H1 => ∃ v, vs = [v] ∧ (∀ a, H1 a = none → okv v (upd H1 a (exo a C none))) ∧ ∀ d, H1 d = none → Q (.ref C) (some d) (upd H1 d (.xd [(fld, v)]))) σ H fun cls d H' => W cls d σ H') (dRaise1 C fld okd φ) := fun D Δ σ H δ μ E S q => by
  subst hW
  refine a σ H δ μ _ _ S q fun v H1 x μ1 S1 e1 r1 q1 => ?_
  obtain ⟨q2, q3⟩ := q1
  refine ⟨v, rfl, fun b hb => hok μ1 _ v x (r1.mono (.new hb)) q2, fun d hd => ?_⟩
  have ev : Evo μ1 H1 μ1 (upd H1 d (.xd [(fld, v)])) := .new hd
  exact B.hW _ _ σ _ (.mk C (some ([fld], [x]))) δ μ1 (S1.step ev (S1.sto.new hd)) ⟨rfl, d, [v], rfl, upd_same, .new S1.sto hd, rfl, r1.mono ev⟩ q3
/-- n.f, n the error that a suite holds -/
def dXf (a : Addr) (x : XD) (C : Addr) (f : Str) (φ : DE) : DE := fun Ψ δ μ Φ => φ Ψ δ μ fun y μ1 => y = .hd (.ref a) ∧ ∃ (ns : List Str) (ds : List DW.D) (i : Nat) (d : DW.D), x = .mk C (some (ns, ds)) ∧ ns[i]? = some f ∧ ns.Nodup ∧ ds[i]? = some d ∧ Φ d μ1
theorem zip_lookup : ∀ {ns : List Str} {us : List V} {i : Nat} {f : Str} {v : V}, ns.Nodup → ns[i]? = some f → us[i]? = some v → (ns.zip us).lookup f = some v
  | [], us, i, f, v, _, h, _ => by cases h
  | n :: ns, [], i, f, v, _, _, h => by cases h
  | n :: ns, u :: us, 0, f, v, _, h1, h2 => by
    have e1 := Option.some.inj h1
    have e2 := Option.some.inj h2
    subst e1 e2
    simp [List.lookup]
  | n :: ns, u :: us, i + 1, f, v, hn, h1, h2 => by
    have hne : ¬ (f = n) := fun z => by
      have : f ∈ ns := List.mem_of_getElem? h1
      rw [z] at this
      exact (List.nodup_cons.mp hn).1 this
    have hb : (f == n) = false := by simp [hne]
    show (match f == n with | true => some u | false => (ns.zip us).lookup f) = some v
    rw [hb]
    exact zip_lookup (List.nodup_cons.mp hn).2 h1 h2
def rIsH (K : Fg) (cls : Value) (dd : Option Addr) (a : Addr) : List V → Hp → VK → Prop := fun xs H Q => ∃ C, cls = .ref C ∧ L2.ExcC K C ∧ (dd = none ∨ ∃ p fs, dd = some p ∧ H p = some (.xd fs)) ∧
  ∃ (c : V) (cv : Value) (b : Bool), xs = [.ref a, c] ∧ (∀ u, RelV c u → u = cv) ∧ PySem.W.kitOne K (.ref C) cv = some b ∧ Q (.bl b) H
theorem call_isH {X : Cx} {a : Addr} {cls : Value} {dd : Option Addr} {oe : Obj} {pn : List (Addr × Obj)} (hz : L2N.Zn cls dd oe) (hf : ∃ vs, oe.data = .fields vs) : CallR (X.suite a ((a, oe) :: pn)) (.builtin "isinstance") (rIsH X.K cls dd a) := by
  intro pins s σ H xs us Q I r h
  obtain ⟨C, rfl, hC, hdd, c, cv, b, rfl, hcv, e, q⟩ := h
  obtain ⟨hget, _⟩ := I.pin (a, oe) (List.mem_append.mpr (.inl List.mem_cons_self))
  obtain ⟨vs, hv⟩ := hf
  obtain ⟨u1, u2, rfl, r1, r2⟩ := vals2 r
  obtain rfl : u1 = Value.ref a := r1
  have ec := hcv _ r2
  subst ec
  obtain ⟨od, J⟩ : ∃ od, PySem.W.InstAt s.heap a oe C od := by
    obtain ⟨oc, od, oda, osl⟩ := oe
    obtain ⟨h1, h2, _⟩ := hz
    dsimp only at h1 h2 hv
    subst h1 hv
    rcases hdd with z | ⟨p, fs, z, hp⟩
    · subst z; subst h2; exact ⟨none, hget, rfl, rfl, trivial⟩
    · subst z; subst h2
      obtain ⟨mA, ⟨o, es, ep, ho, _⟩, _⟩ := (I.hok p _ hp)
      exact ⟨some o, hget, rfl, rfl, ho⟩
  have hcl : (PySem.W.clsIn X.K C).isSome = true := by
    obtain ⟨cd, q, _⟩ := PySem.W.any_some hC.hd
    rw [q]; rfl
  exact PySem.W.kia_one (PySem.W.kitx_exc hcl hC.hg hC.hk hC.hs hC.ha hC.hn hC.ht hC.hm) I.kIn J e (fun z => nomatch z) fun tk => ⟨.bl b, H, I.kept (t' := tk) fun _ _ z => z, rfl, q⟩
def kitE (K : Fg) : XD → V → Option Bool
  | .mk C _, .ref T => PySem.W.kitOne K (.ref C) (.ref T)
  | .mk C _, .ty T => PySem.W.kitOne K (.ref C) (.type T)
  | _, _ => none
def excE (K : Fg) : XD → Prop
  | .mk C _ => L2.ExcC K C
def dIsE (K : Fg) (a : Addr) (x : XD) (ψ : DA) : DE := fun Ψ δ μ Φ => ψ Ψ δ μ fun xs μ1 => ∃ c b, xs = [.hd (.ref a), .hd c] ∧ kitE K x c = some b ∧ excE K x ∧ Φ (.bl b) μ1
theorem sIsE {a : Addr} {cls : Value} {dd : Option Addr} {x : XD} {tas : TA} {ψ : DA} (rx : RepX K B.μ0 B.H0 cls dd x) (s : SA B tas ψ) : SE B (tCB (rIsH K cls dd a) tas) (dIsE K a x ψ) := fun σ H δ μ Φ Q S q k =>
  s σ H δ μ _ _ S q fun vs H1 xs μ1 S1 e1 r1 q1 => by
    obtain ⟨c, b, rfl, hk, hx, q2⟩ := q1
    obtain ⟨v, w, rfl, ra, rb⟩ := reps2 r1
    obtain rfl := Rep.hd_inv ra
    obtain rfl := Rep.hd_inv rb
    obtain ⟨C, fs⟩ := x
    have hcd : cls = .ref C ∧ (dd = none ∨ ∃ p fs', dd = some p ∧ H1 p = some (.xd fs')) := by
      cases fs with
      | none => exact ⟨rx.1, .inl rx.2⟩
      | some f =>
        obtain ⟨ns, ds⟩ := f
        obtain ⟨hc, p, us, hp, hH, hn, _⟩ := rx
        exact ⟨hc, .inr ⟨p, _, hp, (S1.evo.st _ _ hH hn).1⟩⟩
    obtain ⟨rfl, hdd⟩ := hcd
    refine ⟨C, rfl, hx, hdd, ?_⟩
    cases w with
    | ref T => exact ⟨_, .ref T, b, rfl, fun u h => by cases h; rfl, hk, k _ H1 _ μ1 S1 e1 (.bl _ .nil) q2⟩
    | ty T => exact ⟨_, .type T, b, rfl, fun u h => by cases h; rfl, hk, k _ H1 _ μ1 S1 e1 (.bl _ .nil) q2⟩
    | _ => cases hk
end
end DW
set_option Elab.async false
set_option linter.all false
set_option maxRecDepth 100000
set_option maxHeartbeats 4000000
namespace DW
open PySem PySem.Spec PyProof.Rows L2
theorem repr_ints {prog : Program} {w : World} : ∀ {l : List Int} {its : List Value}, Vals (l.map V.int) its → (∀ i ∈ l, i.natAbs.log2 < 1920) → ReprAll prog w its (l.map fun i => Str.ofString (toString i))
  | [], _, r, _ => by cases r; exact .nil
  | y :: l, _, r, h => by
    cases r with
    | cons r1 r2 =>
      obtain ⟨t, rfl⟩ := r1
      exact .cons (ReprIs.int t (h y List.mem_cons_self)) (repr_ints r2 fun z hz => h z (List.mem_cons_of_mem _ hz))
theorem piled_ints : ∀ (l : List Int), (∀ i ∈ l, i.natAbs.log2 < 1920) → piled (l.map fun i => Str.ofString (toString i)) ≤ 3000 * l.length
  | [], _ => by simp [piled]
  | y :: l, h => by
    have ih := piled_ints l fun z hz => h z (List.mem_cons_of_mem _ hz)
    have e := int_text_length_le (k := 1920) (by decide) (h y List.mem_cons_self)
    rw [List.map_cons, piled_cons, PySem.ofString_length, List.length_cons]
    omega
def tFmtI (K : Fg) (te : TE) : TE := fun σ H Q => te σ H fun x H1 => ∃ (a : Addr) (l : List Int), x = .ref a ∧ SqT K H1 a (l.map V.int) ∧ (∀ i ∈ l, i.natAbs.log2 < 1920) ∧ l.length ≤ 1000 ∧ ∀ m : Str, m.length ≤ 3000100 → Q (.str m) H1
theorem pe_fmtI {X : Cx} {e : Expr} {te : TE} {pos : Pos} {k : Nat} (hr : Room k X.A) (he : PE X e te) : PE X (.FormattedValue e (-1) none pos) (tFmtI X.K te) := by
  refine ⟨fun pins s σ H Q I h => ?_⟩
  refine wpAny_FormattedValue_plain (thn (he.run pins s σ H _ I h) fun v s1 hv => ?_)
  obtain ⟨x, H1, I1, r1, a, l, rfl, ht, hc, hz, q⟩ := hv
  cases r1
  obtain ⟨its, rv, ⟨o, ho, hcl, n, hd⟩, _⟩ := I1.tuple ht
  have hp := piled_ints l hc
  have htx := fmt_text (l.map fun i => Str.ofString (toString i))
  have hu := hr.units
  exact fmt_tuple (ts := l.map fun i => Str.ofString (toString i)) (by omega) ho hcl hd (repr_ints rv hc) (by rw [sizeLine_eq]; omega) fun m u tk hm => ⟨.str m, H1, I1.tok _, ⟨u, rfl⟩, q m (by omega)⟩
def okPath (K : Fg) : V → Hp → Prop := fun v H => ∃ (a : Addr) (l : List Int), v = .ref a ∧ SqT K H a (l.map V.int) ∧ (∀ i ∈ l, i.natAbs.log2 < 1920) ∧ l.length ≤ 1000
theorem strlen_append (a b : Str) : (a ++ b).length = a.length + b.length := by first | exact PySem.Str.length_append a b | exact StrLaws.length_append a b | exact PySem.StrLaws.length_append a b
/-- f"..{path}.." -/
theorem msg_path {X : Cx} {s1 s2 : Str} {k1 k2 : Nat} {k : Nat} {fld : Str} {q1 q2 q3 q4 q5 : Pos} (hr : Room k X.A) (h1 : s1.length ≤ 1000) (h2 : s2.length ≤ 1000) (hv : PE X (.Name fld q2) (tVar 1)) :
    ∃ te, PE X (.JoinedStr [.Constant (.str s1) k1 q1, .FormattedValue (.Name fld q2) (-1) none q3, .Constant (.str s2) k2 q5] q4) te ∧ ∀ (σ : L2.St) (H : Hp) (v : V), σ[1]? = some (some v) → okPath X.K v H → ∀ Q : VK, (∀ x, Q x H) → te σ H Q :=
  ⟨_, pe_joined (.cons pe_str (.cons (pe_fmtI hr hv) (.cons pe_str .nil))), fun σ H v e ⟨a, l, ev, hs, hi, hl⟩ Q hq => by
    subst ev
    refine ⟨s1, rfl, ?_, .ref a, e, a, l, rfl, hs, hi, hl, fun m hm => ⟨m, rfl, ?_, s2, rfl, ?_, hq _⟩⟩
    · rw [strlen_append, sizeLine_eq]; show 0 + _ ≤ _; omega
    · rw [strlen_append, strlen_append, sizeLine_eq]; show 0 + _ + _ ≤ _; omega
    · rw [strlen_append, strlen_append, strlen_append, sizeLine_eq]; show 0 + _ + _ + _ ≤ _; omega⟩
theorem reps_int_inv {K : Fg} {μ : Sto} {H : Hp} : ∀ {vs : List V} {ns : List Int}, Reps K μ H vs (ns.map D.int) → vs = ns.map V.int
  | [], [], _ => rfl
  | [], _ :: _, r => by have := r.length; simp at this
  | _ :: _, [], r => by have := r.length; simp at this
  | v :: vs, n :: ns, r => by
    rw [List.map_cons] at r ⊢
    rw [Rep.int_inv r.split.1, reps_int_inv r.split.2]
def okdPath : D → Prop := fun d => ∃ l : List Int, d = .tup (l.map .int) ∧ (∀ i ∈ l, i.natAbs.log2 < 1920) ∧ l.length ≤ 1000
theorem okdPath_ok {K : Fg} (μ : Sto) (H : Hp) (v : V) (d : D) (r : Rep K μ H v d) (h : okdPath d) : okPath K v H := by
  obtain ⟨l, rfl, hi, hl⟩ := h
  obtain ⟨a, vs, rfl, ht, hr⟩ := Rep.tup_inv r
  have e := reps_int_inv hr
  subst e
  exact ⟨a, l, rfl, ht.sq, hi, hl⟩
end DW
set_option Elab.async false
set_option linter.all false
set_option maxRecDepth 100000
namespace DW
open PySem PySem.Spec PyProof.Rows L2
section
variable {K : Fg} {μ : Sto} {Φ : DK}
/-- len of a text -/
def cLenStr : DC := fun xs μ Φ => ∃ z, xs = [.str z] ∧ z.length ≤ 100000 ∧ Φ (.int z.length) μ
theorem w_lenStr {s : Str} : cLenStr [.str s] μ Φ = ((TL.tl s).length ≤ 100000 ∧ Φ (.int (TL.tl s).length) μ) := propext ⟨fun ⟨z, e, h1, q⟩ => by cases e; exact ⟨h1, q⟩, fun ⟨h1, q⟩ => ⟨s, rfl, h1, q⟩⟩
theorem w_catStr {s t : Str} : oCatS (.str s) (.str t) μ Φ = ((TL.tl s).length + (TL.tl t).length ≤ 100000 ∧ Φ (.str (s ++ t)) μ) := propext ⟨fun ⟨a, b, e1, e2, h, q⟩ => by cases e1; cases e2; exact ⟨h, q⟩, fun ⟨h, q⟩ => ⟨s, t, rfl, rfl, h, q⟩⟩
theorem w_ixStr {s : Str} {i : Int} : oIxS (.str s) (.int i) μ Φ = ((TL.tl s).length ≤ 100000 ∧ ∃ c, atI (TL.tl s) i = some c ∧ Φ (.str ⟨#[c]⟩) μ) := propext ⟨fun ⟨z, j, c, e1, e2, h, h2, q⟩ => by cases e1; cases e2; exact ⟨h, c, h2, q⟩, fun ⟨h, c, h2, q⟩ => ⟨s, i, c, rfl, rfl, h, h2, q⟩⟩
theorem w_inStr {c : Nat} {z : Str} : oInS false (.str ⟨#[c]⟩) (.str z) μ Φ = Φ (.bl (decide (c ∈ TL.tl z))) μ := propext ⟨fun ⟨c', z', e1, e2, q⟩ => by cases e1; cases e2; exact q, fun q => ⟨c, z, rfl, rfl, q⟩⟩
theorem w_strE {s : Str} {P : Str → Prop} : (∃ z, D.str s = D.str z ∧ P z) = P s := propext ⟨fun ⟨z, e, h⟩ => by cases e; exact h, fun h => ⟨s, rfl, h⟩⟩
theorem w_strI {i : Int} : cStr [.int i] μ Φ = (i.natAbs.log2 < 1920 ∧ Φ (.str (toString i)) μ) := propext ⟨(fun h => by
  rcases h with ⟨j, e, h1, q⟩ | ⟨a, e, q⟩
  · cases e; exact ⟨h1, q⟩
  · cases e), fun ⟨h1, q⟩ => .inl ⟨i, rfl, h1, q⟩⟩
theorem w_strS {s : Str} : cStr [.str s] μ Φ = Φ (.str s) μ := propext ⟨(fun h => by
  rcases h with ⟨j, e, h1, q⟩ | ⟨a, e, q⟩
  · cases e
  · cases e; exact q), fun q => .inr ⟨s, rfl, q⟩⟩
end
end DW
set_option Elab.async false
set_option linter.all false
set_option maxRecDepth 100000
namespace DW
open PySem PySem.Spec PyProof.Rows L2
section
variable {K : Fg} {μ : Sto} {Φ : DK} {Ψ : XP} {δ : DEnv}
theorem u_iEn {φ : DE} {c : Int} {Ls : List D → Sto → Prop} : iEnD φ c Ψ δ μ Ls = φ Ψ δ μ fun x μ1 => ∃ ds, x = .tup ds ∧ Ls ((List.range ds.length).map fun (i : Nat) => .pr [.int (c + (i : Int)), ds.getD i .non]) μ1 := rfl
theorem u_raise1 {C : Addr} {fld : Str} {okd : D → Prop} {φ : DE} {Δ : DEnds} : dRaise1 C fld okd φ Ψ Δ δ μ = φ Ψ δ μ fun x μ1 => okd x ∧ Ψ (.mk C (some ([fld], [x]))) δ μ1 := rfl
theorem u_slS {φ : DE} {ol oh : XP → DEnv → Sto → (Option Int → Sto → Prop) → Prop} : dSlS φ ol oh Ψ δ μ Φ = φ Ψ δ μ fun x μ1 => ol Ψ δ μ1 fun lo μ2 => oh Ψ δ μ2 fun hi μ3 => ∃ z, x = .str z ∧ z.length ≤ 100000 ∧ Φ (.str (cutS z lo hi)) μ3 := rfl
def cListStr : DC := fun xs μ Φ => ∃ z : Str, xs = [.str z] ∧ z.length ≤ 100000 ∧ Φ (.lst (z.cps.toList.map fun c => .str ⟨#[c]⟩)) μ
theorem w_listStr {s : Str} : cListStr [.str s] μ Φ = ((TL.tl s).length ≤ 100000 ∧ Φ (.lst ((TL.tl s).map fun c => .str ⟨#[c]⟩)) μ) := propext ⟨fun ⟨z, e, h1, q⟩ => by cases e; exact ⟨h1, q⟩, fun ⟨h1, q⟩ => ⟨s, rfl, h1, q⟩⟩
end
end DW
set_option Elab.async false
set_option linter.all false
set_option maxRecDepth 100000
namespace DW
open PySem PySem.Spec PyProof.Rows L2
structure Two (μ : Sto) (p st : Addr) (L c : List D) (μ' : Sto) : Prop where
  hp : μ p = none
  ne : st ≠ p
  pL : μ' p = some (.lst L)
  sc : μ' st = some (.lst c)
  ot : ∀ a, a ≠ p → a ≠ st → μ' a = μ a
theorem Two.start {μ : Sto} {p st : Addr} {L c : List D} (hp : μ p = none) (hs : μ st = some (.lst c)) : Two μ p st L c (sset μ p (.lst L)) := by
  have ne : st ≠ p := fun z => by rw [z, hp] at hs; cases hs
  exact ⟨hp, ne, sset_same, by rw [sset_ne ne]; exact hs, fun a h _ => sset_ne h⟩
theorem Two.setS {μ μ' : Sto} {p st : Addr} {L c c2 : List D} (T : Two μ p st L c μ') : Two μ p st L c2 (sset μ' st (.lst c2)) :=
  ⟨T.hp, T.ne, by rw [sset_ne (Ne.symm T.ne)]; exact T.pL, sset_same, fun a h1 h2 => by rw [sset_ne h2]; exact T.ot a h1 h2⟩
theorem Two.setP {μ μ' : Sto} {p st : Addr} {L L2 c : List D} (T : Two μ p st L c μ') : Two μ p st L2 c (sset μ' p (.lst L2)) :=
  ⟨T.hp, T.ne, sset_same, by rw [sset_ne T.ne]; exact T.sc, fun a h1 h2 => by rw [sset_ne h1]; exact T.ot a h1 h2⟩
theorem Two.sub {μ μ' : Sto} {p st : Addr} {L c : List D} (T : Two μ p st L c μ') : Sub (sset μ st (.lst c)) μ' := fun a x e => by
  by_cases h : a = st
  · subst h; rw [sset_same] at e; rw [T.sc]; exact e
  · rw [sset_ne h] at e
    have h1 : a ≠ p := fun z => by rw [z, T.hp] at e; cases e
    rw [T.ot a h1 h]; exact e
theorem Two.del {μ μ' : Sto} {p st : Addr} {L c : List D} (T : Two μ p st L c μ') : sdel μ' p = sset μ st (.lst c) := by
  funext a
  unfold sdel
  by_cases h : a = p
  · subst h; rw [if_pos rfl, sset_ne (Ne.symm T.ne), T.hp]
  · rw [if_neg h]
    by_cases h2 : a = st
    · subst h2; rw [sset_same, T.sc]
    · rw [sset_ne h2]; exact T.ot a h h2
theorem atI_last {xs : List D} {d : D} : atI (xs ++ [d]) (-1) = some d := by
  unfold atI ixN
  rw [if_neg (by omega), if_pos (by rw [List.length_append, List.length_singleton]; omega)]
  show (xs ++ [d])[(-1 + (((xs ++ [d]).length : Nat) : Int)).toNat]? = some d
  have e : (-1 + (((xs ++ [d]).length : Nat) : Int)).toNat = xs.length := by rw [List.length_append, List.length_singleton]; omega
  rw [e, List.getElem?_append_right (Nat.le_refl _), Nat.sub_self]
  rfl
/-- a comprehension whose items are drawn from the state at st -/
theorem lcG_drawN {Ψ : XP} {Φ : DK} {n : Nat} {φ : DE} {δw : DEnv} {μ1 : Sto} {xs : List D} {st : Addr} (Sc : List D → Prop) (Inv : Nat → List D → Prop) {c : List D} (hz : xs.length ≤ 100000)
    (hst : μ1 st = some (.lst c)) (h0 : Sc c) (hI : Inv 0 [])
    (hs : ∀ (i : Nat) (d : D) (μ2 : Sto) (X : DK) (acc c : List D), xs[i]? = some d → μ2 st = some (.lst c) → Sc c → Inv i acc → acc.length = i →
      (∀ y c', Sc c' → Inv (i + 1) (acc ++ [y]) → X y (sset μ2 st (.lst c'))) → φ Ψ (δw.set n (some d)) μ2 X)
    (hd : ∀ acc c, Inv xs.length acc → acc.length = xs.length → Sc c → Φ (.lst acc) (sset μ1 st (.lst c))) : LcG (eName n) dYes φ δw Ψ xs μ1 Φ := fun p hp => by
  refine ⟨fun i μ' => ∃ acc c, Two μ1 p st acc c μ' ∧ Sc c ∧ Inv i acc ∧ acc.length = i, ⟨[], c, .start hp hst, h0, hI, rfl⟩, ?_, ?_⟩
  · rintro i d μ2 hi ⟨acc, c, T, s, I, hl⟩
    have hlt : i < xs.length := (List.getElem?_eq_some_iff.mp hi).1
    refine ⟨fun _ => ?_, fun z => nomatch z⟩
    exact hs i d μ2 _ acc c hi T.sc s I hl fun y c' s' I' => ⟨acc, T.setS.pL, by omega, _, c', T.setS.setP, s', I', by simp [hl]⟩
  · rintro μ2 ⟨acc, c, T, s, I, hl⟩
    exact ⟨acc, T.pL, by rw [T.del]; exact hd acc c I hl s⟩
section
variable {K : Fg} {μ : Sto} {Φ : DK} {Ψ : XP} {δ : DEnv}
theorem u_isE {a : Addr} {x : XD} {ψ : DA} : dIsE K a x ψ Ψ δ μ Φ = ψ Ψ δ μ fun xs μ1 => ∃ c b, xs = [.hd (.ref a), .hd c] ∧ kitE K x c = some b ∧ excE K x ∧ Φ (.bl b) μ1 := rfl
theorem w_isE {a : Addr} {c : V} {P : V → Bool → Prop} : (∃ c' b, [D.hd (.ref a), D.hd c] = [.hd (.ref a), .hd c'] ∧ P c' b) = ∃ b, P c b := propext ⟨fun ⟨c', b, e, q⟩ => by cases e; exact ⟨b, q⟩, fun ⟨b, q⟩ => ⟨c, b, rfl, q⟩⟩
theorem u_kitER {C T : Addr} {f : Option (List Str × List D)} : kitE K (.mk C f) (.ref T) = PySem.W.kitOne K (.ref C) (.ref T) := rfl
theorem u_kitET {C : Addr} {T : String} {f : Option (List Str × List D)} : kitE K (.mk C f) (.ty T) = PySem.W.kitOne K (.ref C) (.type T) := rfl
theorem u_excE {C : Addr} {f : Option (List Str × List D)} : excE K (.mk C f) = L2.ExcC K C := rfl
theorem u_xf {a C : Addr} {x : XD} {f : Str} {φ : DE} : dXf a x C f φ Ψ δ μ Φ = φ Ψ δ μ fun y μ1 => y = .hd (.ref a) ∧ ∃ (ns : List Str) (ds : List D) (i : Nat) (d : D), x = .mk C (some (ns, ds)) ∧ ns[i]? = some f ∧ ns.Nodup ∧ ds[i]? = some d ∧ Φ d μ1 := rfl
theorem w_xf1 {C : Addr} {f : Str} {d : D} {P : D → Prop} : (∃ (ns : List Str) (ds : List D) (i : Nat) (d' : D), XD.mk C (some ([f], [d])) = .mk C (some (ns, ds)) ∧ ns[i]? = some f ∧ ns.Nodup ∧ ds[i]? = some d' ∧ P d') = P d := propext ⟨fun ⟨ns, ds, i, d', e, h1, _, h2, q⟩ => by
  cases e
  cases i with
  | zero => cases h2; exact q
  | succ i => simp at h1, fun q => ⟨[f], [d], 0, d, rfl, rfl, by simp, rfl, q⟩⟩
end
end DW
set_option Elab.async false
set_option linter.all false
set_option maxRecDepth 100000
set_option maxHeartbeats 4000000
namespace DW
open PySem PySem.Spec PyProof.Rows L2
section layer
variable {X : Cx} {CX : CXT} {k : Nat} {f C : Addr} {fd : FuncData} {ps : List Str} {sp : Sp} {E : L2.St → XK} {x m : Str} {p pos apos : Pos} {e o : Expr} {es : List Expr} {ta : TE} {t : TA}
theorem run_makeS {pins : List (Addr × Obj)} {σ : L2.St} {H : Hp} {s : Shared} {Q : VK} {us : List Value} {vs : List V} (M : Mk X.K C f) (F : FnOk X.prog X.w X.K X.mg X.base CX k f fd ps sp) (hr : Room (k + 1) X.A) (hb : Binds X.K fd ps [])
    (hx : ∀ σ, PassesAt CX X σ (E σ)) (I : Inv X pins σ H s) (r : Vals vs us)
    (h : ∀ x dx, H x = none → H dx = none → dx ≠ x → sp (.ref x :: vs) (upd (upd H dx (.own x)) x (.ins C dx [])) (fun v H2 => v = .non ∧ Q (.ref x) H2) (E σ)) :
    wpAny (model X.prog X.w) X.A (call (.ref C) us) (EP X pins σ Q) X.xe s := by
  have hq := h (s.heap.objs.size + 1) s.heap.objs.size (I.hok.fresh (Nat.le_succ _)) (I.hok.fresh (Nat.le_refl _)) (Nat.ne_of_lt (Nat.lt_succ_self _))
  have I2 := Inv.made (C := C) I
  have r2 : Vals (V.ref (s.heap.objs.size + 1) :: vs) (Value.ref (s.heap.objs.size + 1) :: us) := .cons rfl r
  have hl : (Value.ref (s.heap.objs.size + 1) :: us).length = ps.length := by
    have e := r2.length
    rw [F.len _ _ _ _ hq] at e
    exact e.symm
  have hb2 := hb _ (Value.ref (s.heap.objs.size + 1) :: us) I2.kIn (by rw [List.append_nil]; exact hl)
  rw [List.append_nil] at hb2
  refine wpAny_call (make_map (f := f) I.kIn M.makes M.init (beq_iff_eq.mp M.fn) (codeAny_mono (F.run _ X.stack _ _ ⟨Value.ref (s.heap.objs.size + 1) :: us, []⟩ (Value.ref (s.heap.objs.size + 1) :: us) _ _ (E σ) (hr.make C us [])
    (I2.env0.make C us []) hb2 r2 hq) fun r s' hq' => ?_))
  cases r with
  | error e => exact hx σ pins _ _ e s' I2 hq'
  | ok fl =>
    cases fl with
    | ret u =>
      obtain ⟨v, H', I3, rv, ev, q3⟩ := I2.after hq'
      subst ev
      exact ⟨rv, ⟨V.ref (s.heap.objs.size + 1), H', I3, rfl, q3⟩⟩
    | next => exact False.elim hq'
    | brk => exact False.elim hq'
    | cont => exact False.elim hq'
def tMakeS (C : Addr) (sp : Sp) (E : L2.St → XK) (t : TA) : TE := fun σ H Q => t σ H fun vs H1 => ∀ x dx, H1 x = none → H1 dx = none → dx ≠ x → sp (.ref x :: vs) (upd (upd H1 dx (.own x)) x (.ins C dx [])) (fun v H2 => v = .non ∧ Q (.ref x) H2) (E σ)
theorem pe_makeS (M : Mk X.K C f) (F : FnOk X.prog X.w X.K X.mg X.base CX k f fd ps sp) (hr : Room (k + 1) X.A) (hg : Gl X x) (hm : X.mg x = some (.ref C)) (hb : Binds X.K fd ps []) (hx : ∀ σ, PassesAt CX X σ (E σ))
    (ha : PA X (e :: es) t) (hdb : (x == ("__debug__" : Str)) = false := by decide) (he : starEach (e :: es) X.env = (false, eval e X.env) :: starEach es X.env := by rfl) (hpl : (backTo pos (starEach es X.env)).any (·.1) = false := by rfl) :
    PE X (.Call (.Name x p) (e :: es) [] pos) (tMakeS C sp E t) := by
  refine ⟨fun pins s σ H Q I h => ?_⟩
  refine wpAny_Call_Name_kw (ld_glob I hg hm ?_ hdb)
  refine PySem.W.callWith_K (h₀ := X.base) I.ok.mod.kin M.kp (thn (ha.run pos pins s σ H _ I h) fun us s1 ⟨vs, H1, I1, r, q⟩ => ⟨I1.kIn, ?_⟩) he hpl
  exact run_makeS M F hr hb hx I1 r q
end layer
section
variable {K : Fg} {B : Bx K} {ta tv : TE} {φ φa φv : DE} {tas : TA} {ψ : DA} {μ : Sto} {H : Hp}
theorem Rep.obj_inv {v : V} {C : Addr} {ns : List Str} {ds : List D} (h : Rep K μ H v (.obj C ns ds)) : ∃ a dx us, v = .ref a ∧ H a = some (.ins C dx (ns.zip us)) ∧ NM μ a ∧ us.length = ns.length ∧ Reps K μ H us ds := by
  cases h with
  | obj h1 h2 h3 h4 _ => exact ⟨_, _, _, rfl, h1, h2, h3, h4⟩
/-- C(..), C a class whose __init__ keeps c -/
def dMakeS (C : Addr) (c : Con) (ψ : DA) : DE := fun Ψ δ μ Φ => ψ Ψ δ μ fun ds μ1 => ∀ x, μ1 x = none → c (.hd (.ref x) :: ds) (sset μ1 x (.ins C [] [])) (fun d μ2 => d = .non ∧ ∃ ns es, μ2 x = some (.ins C ns es) ∧ Φ (.obj C ns es) (sdel μ2 x)) (fun y μ2 => Ψ y δ μ2)
/-- x.f, x an instance at rest -/
def dFld (C : Addr) (NS : List Str) (i : Nat) (φ : DE) : DE := fun Ψ δ μ Φ => φ Ψ δ μ fun x μ1 => ∃ ds d, x = .obj C NS ds ∧ ds[i]? = some d ∧ Φ d μ1
theorem sFldO {C : Addr} {NS : List Str} {f : Str} {i : Nat} (c : Cls K C) (n : NoAttr K C f) (hi : NS[i]? = some f) (hn : NS.Nodup) (a : SE B ta φ) : SE B (tFld K ta f) (dFld C NS i φ) := fun σ H δ μ Φ Q S q k =>
  a σ H δ μ _ _ S q fun v H1 x μ1 S1 e1 r1 q1 => by
    obtain ⟨ds, d, rfl, hd, q⟩ := q1
    obtain ⟨p, dx, us, rfl, hH, hnm, hl, hr⟩ := Rep.obj_inv r1
    obtain ⟨u, hu, ru⟩ := hr.get hd
    exact ⟨p, C, dx, _, u, rfl, hH, c, n, zip_lookup hn hi hu, k u H1 d μ1 S1 e1 ru q⟩
theorem putF_new {f : Str} {v : V} : ∀ {ns : List Str} {us : List V}, f ∉ ns → us.length = ns.length → putF f v (ns.zip us) = (ns ++ [f]).zip (us ++ [v])
  | [], [], _, _ => rfl
  | [], _ :: _, _, h => by simp at h
  | _ :: _, [], _, h => by simp at h
  | n :: ns, u :: us, hf, hl => by
    show (if n = f then (n, v) :: ns.zip us else (n, u) :: putF f v (ns.zip us)) = _
    rw [if_neg (fun e => hf (by rw [e]; exact List.mem_cons_self)), putF_new (fun h => hf (List.mem_cons_of_mem _ h)) (by simpa using hl)]
    rfl
/-- self.f = value, a new field of an instance in the making -/
def dSetF (C : Addr) (f : Str) (φv φa : DE) : DSt := fun Ψ Δ δ μ => φv Ψ δ μ fun y μ1 => φa Ψ δ μ1 fun x μ2 => ∃ a ns ds, x = .hd (.ref a) ∧ μ2 a = some (.ins C ns ds) ∧ f ∉ ns ∧ ns.length < 1000 ∧ Δ.nx δ (sset μ2 a (.ins C (ns ++ [f]) (ds ++ [y])))
theorem sSetF {C : Addr} {f : Str} (c : Cls K C) (n : NoAttr K C f) (b : SE B tv φv) (a : SE B ta φa) : SS B (sFld K ta tv f) (dSetF C f φv φa) := fun D Δ σ H δ μ E S q =>
  b σ H δ μ _ _ S q fun w H1 y μ1 S1 e1 r1 q1 => a σ H1 δ μ1 _ _ S1 q1 fun v H2 x μ2 S2 e2 r2 q2 => by
    obtain ⟨p, ns, ds, rfl, hc, hf, hz, q⟩ := q2
    obtain rfl := Rep.hd_inv r2
    obtain ⟨dx, us, hH, hl, hr⟩ := S2.sto p _ hc
    refine ⟨p, C, dx, _, rfl, hH, c, n, by rw [List.length_zip, hl, Nat.min_self]; exact hz, ?_⟩
    rw [putF_new hf hl]
    have ev : Evo μ2 H2 (sset μ2 p (.ins C (ns ++ [f]) (ds ++ [y]))) (upd H2 p (.ins C dx ((ns ++ [f]).zip (us ++ [w])))) := .cell hc fun h => h.notI hc
    exact E.nx σ _ δ _ (S2.step ev (S2.sto.cell ev ⟨dx, us ++ [w], upd_same, by simp [hl], (hr.append (r1.mono e2)).mono ev⟩)) q
/-- x.m(..), x an instance at rest -/
def dMethX (C : Addr) (NS : List Str) (c : Con) (φ : DE) (ψ : DA) : DE := fun Ψ δ μ Φ => φ Ψ δ μ fun x μ1 => ∃ es, x = .obj C NS es ∧ ψ Ψ δ μ1 fun ds μ2 => c (x :: ds) μ2 Φ fun y μ3 => Ψ y δ μ3
end
end DW
set_option Elab.async false
set_option linter.all false
set_option maxRecDepth 100000
set_option maxHeartbeats 4000000
namespace DW
open PySem PySem.Spec PyProof.Rows L2
section
variable {P : Program} {w : World} {A : Around} {E : Value → Shared → Prop} {s : Shared}
abbrev noneIn (w : World) : Obj := { cls := .type "set", dict := none, data := .set #[] 0 (.fresh 0 0 (!w.params.followText "set-order")) }
/-- what set.__init__ leaves of a list of ints -/
def SetMade (w : World) (s : Shared) (zs : List Int) (s2 : Shared) : Prop := ∃ (hp : Heap) (tk c : Nat), s2 = { s with heap := hp, toks := tk } ∧ SetR w hp s.heap.objs.size (fun j => decide (j ∈ zs)) c ∧ c ≤ zs.length ∧ ∀ b o, s.heap.get? b = some o → hp.get? b = some o
theorem set_init_list {l : Addr} {arr : Array Value} (zs : List Int) (cold : A.handled = none) (isl : s.heap.IsList l arr) (zz : IntsAre arr.toList zs) (few : zs.length + 1 < scanBound) :
    codeAny (model P w) A (.call (.builtin "set.__init__") ⟨[.ref s.heap.objs.size, .ref l], []⟩) (wants (fun r s2 => r = .none ∧ SetMade w s zs s2) E) { s with heap := s.heap.push (noneIn w) } := by
  have many : arr.size = zs.length := by
    have q := IntsAre.length zz
    rw [Array.length_toList] at q
    exact q
  have S0 : (s.heap.push (noneIn w)).get? s.heap.objs.size = some (noneIn w) := Heap.get?_push_size _ rfl
  refine codeAny_call_builtin F.called_set.init.plain F.entry_set_init (check_set_init_1 (s := { s with heap := s.heap.push (noneIn w) }) ⟨_, S0, rfl⟩ ?_)
  have il : (s.heap.push (noneIn w)).IsList l arr := isl.push _
  have ll : l < s.heap.objs.size := by obtain ⟨o, ho, _⟩ := isl; exact Heap.lt_size ho
  obtain ⟨⟨c0, d0, x0, sl0⟩, ho, hc, n0, hd⟩ := id il
  simp only at hc hd
  subst hc hd
  have g1 := F.sub_list_set
  have g2 := F.sub_list_frozenset
  have g3 : (Value.type "list" == Value.type "dict") = false := by decide
  unfold Builtin.«set.__init__» noKeywords Builtin.Frozenset.updateFrom
  generalize hPI : pyIter = PI
  wp_walk
  subst hPI
  refine wpAny_pyIter_list il (wpAny_bind (wpAny_runValue ?_))
  have z1 : (s.heap.push (noneIn w)).objs.size = s.heap.objs.size + 1 := Heap.size_push ..
  have cold3 : A.in1.in1.handled = none := by simp [cold]
  have apart : l ≠ (s.heap.push (noneIn w)).objs.size := by rw [z1]; exact Nat.ne_of_lt (Nat.lt_succ_of_lt ll)
  have apart2 : s.heap.objs.size ∉ [(s.heap.push (noneIn w)).objs.size, l] := by
    rw [z1]
    intro q
    rcases List.mem_cons.1 q with q | q
    · exact absurd q (Nat.ne_of_lt (Nat.lt_succ_self _))
    · exact absurd (List.mem_singleton.1 q) (Nat.ne_of_gt ll)
  have vals : ∀ (i : Nat) (v : Value), arr[i]? = some v → ∃ k t, zs[i]? = some k ∧ v = .int k t := fun i v hv => by
    have lt : i < zs.length := by rw [← many]; exact (Array.getElem?_eq_some_iff.mp hv).1
    obtain ⟨t, e⟩ := zz.int_at i v (by rw [Array.getElem?_toList]; exact hv)
    exact ⟨zs[i], t, List.getElem?_eq_getElem lt, by rw [e, List.getD_eq_getElem?_getD, List.getElem?_eq_getElem lt] <;> rfl⟩
  have start : ((s.heap.push (noneIn w)).push { cls := .type "list_iterator", data := .fields #[.ref l, .int 0 0] }).get? s.heap.objs.size = some (noneIn w) := Heap.get?_push_of_some _ S0
  refine set_update_ints ((Walks.list cold3 _ l apart arr).toS) s.heap.objs.size apart2 zs many few vals (arr.size - 0) 0 { s with heap := (s.heap.push (noneIn w)).push { cls := .type "list_iterator", data := .fields #[.ref l, .int 0 0] } } (by omega) (Nat.zero_le _) ⟨⟨_, Heap.get?_push_size _ rfl, rfl, rfl⟩, il.push _⟩ ?h0 ?hf
  · exact ⟨0, Nat.le_refl 0, setR_new_at start⟩
  intro s2 c mv lc hr
  obtain ⟨hp2, gg, dd, tt, oo⟩ := s2
  obtain rfl : gg = s.gens := mv.gens
  obtain rfl : dd = s.drawn := mv.drawn
  obtain rfl : oo = s.os := mv.os
  rw [many] at lc
  refine wpAny_pure (wpAny_pure ⟨rfl, hp2, tt, c, rfl, hr, lc, fun b o e => ?_⟩)
  have lb : b < s.heap.objs.size := Heap.lt_size e
  refine mv.heap b o (fun q => ?_) (Heap.get?_push_of_some _ (Heap.get?_push_of_some _ e))
  rcases List.mem_cons.1 q with q | q
  · exact absurd q (Nat.ne_of_lt lb)
  · have := List.mem_singleton.1 q; rw [z1] at this; exact absurd this (Nat.ne_of_lt (Nat.lt_succ_of_lt lb))
theorem set_of_list {l : Addr} {arr : Array Value} (zs : List Int) {G : Value → Shared → Prop} (cold : A.handled = none) (isl : s.heap.IsList l arr) (zz : IntsAre arr.toList zs) (few : zs.length + 1 < scanBound)
    (fin : ∀ s2, SetMade w s zs s2 → G (.ref s.heap.objs.size) s2) : wpAny (model P w) A (call (.type "set") [.ref l]) G E s := by
  obtain ⟨c0, t0, m0⟩ := F.called_set.mro
  have a1 := F.called_set.made; have a2 := F.called_set.sub; have a3 := F.called_set.notType; have a4 := F.called_set.canCreate
  have a5 := F.typeCall_set_1 (.ref l)
  refine wpAny_call (codeAny_of_tree (show wpAny _ _ (callAny (.type "set") _) _ _ _ from wpAny_pure ⟨Code.quiet_builtin _ (by decide +kernel), codeAny_builtin F.entry_type_call ?_⟩))
  rw [Around.under_plain (weight_type_call_type "set" [.ref l] []) rfl]
  repeat (any_goals (first | assumption | wp_step))
  refine codeAny_mono (code_set_led1 (.ref l) (E := E) (Q₁ := fun u s1 => u = .ref s.heap.objs.size ∧ s1 = { s with heap := s.heap.push (noneIn w) }) ⟨rfl, rfl⟩) fun r s1 hr => ?_
  match r, hr with
  | .error e, hr => exact hr
  | .ok .next, hr => exact hr.elim
  | .ok .brk, hr => exact hr.elim
  | .ok .cont, hr => exact hr.elim
  | .ok (.ret u), hr =>
    obtain ⟨rfl, rfl⟩ := hr
    have T : Shared.TypeIs { s with heap := s.heap.push (noneIn w) } (.ref s.heap.objs.size) "set" := ⟨_, Heap.get?_push_size _ rfl, rfl⟩
    have a6 := F.called_set.init.lookup; have a7 := F.called_set.init.bind (.ref s.heap.objs.size)
    repeat (any_goals (first | assumption | wp_step))
    refine codeAny_mono (set_init_list zs (A := _) (E := E) (by simp [cold]) isl zz few) fun r2 s2 hr2 => ?_
    match r2, hr2 with
    | .error e, hr2 => exact hr2
    | .ok .next, hr2 => exact hr2.elim
    | .ok .brk, hr2 => exact hr2.elim
    | .ok .cont, hr2 => exact hr2.elim
    | .ok (.ret u), hr2 =>
      obtain ⟨rfl, hm⟩ := hr2
      repeat (any_goals (first | assumption | wp_step))
      exact fin _ hm
end
theorem nodup_le : ∀ {l m : List Int}, l.Nodup → (∀ x ∈ l, x ∈ m) → l.length ≤ m.length
  | [], _, _, _ => Nat.zero_le _
  | x :: l, m, nd, h => by
    have hx := h x List.mem_cons_self
    obtain ⟨n1, n2⟩ := List.nodup_cons.mp nd
    have := nodup_le (m := m.erase x) n2 fun y hy => (List.mem_erase_of_ne (fun (e : y = x) => n1 (by rw [← e]; exact hy))).mpr (h y (List.mem_cons_of_mem _ hy))
    rw [List.length_erase_of_mem hx] at this
    have := List.length_pos_of_mem hx
    rw [List.length_cons]
    omega
theorem SetR.few {w : World} {h : Heap} {a : Addr} {S : Int → Bool} {n : Nat} (R : SetR w h a S n) {m : List Int} (hm : ∀ k, S k = true → k ∈ m) : n ≤ m.length := by
  obtain ⟨o, es, ep, t, ho, hex, hd, g, nd, hs, hb, hf, hn, hr, hl⟩ := R
  have := nodup_le nd (m := m) fun x hx => hm x ((hs x).mpr hx)
  rw [List.length_map, Array.length_toList, hn] at this
  exact this
def tSortSet (K : Fg) (ta : TE) : TE := fun σ H Q => ta σ H fun x H1 => ∃ (l : Addr) (zs : List Int), x = .ref l ∧ (SqL K H1 l (zs.map V.int) ∨ SqT K H1 l (zs.map V.int)) ∧ (zs.length ≤ 1000 ∧ ∃ bd : List Int, bd.length < 64 ∧ ∀ z ∈ zs, z ∈ bd) ∧
  ∀ (ns : List Int) (p : Addr), ns.Pairwise (· < ·) → (∀ k : Int, k ∈ ns ↔ k ∈ zs) → H1 p = none → Q (.ref p) (upd H1 p (.lst (ns.map V.int)))
theorem pe_sortSet {X : Cx} {a : Expr} {ta : TE} {p p2 q pos : Pos} (hg : Gl X "sorted") (hm : X.mg "sorted" = none) (hg2 : Gl X "set") (hm2 : X.mg "set" = none) (ha : PE X a ta) (hc : X.calm = true := by rfl)
    (na : starEach [a] X.env = (false, eval a X.env) :: starEach [] X.env := by rfl) : PE X (.Call (.Name "sorted" p) [.Call (.Name "set" p2) [a] [] q] [] pos) (tSortSet X.K ta) := by
  refine ⟨fun pins s σ H Q I h => Call_ (ld_blt I hg hm boot_sorted (callWith_builtin1 (args_cons (Call_ (ld_blt I hg2 hm2 boot_set ?_)) rfl) rfl rfl))⟩
  refine callWith_type1 (args_cons (thn (ha.run pins s σ H _ I h) fun v s1 ⟨x, H1, I1, r1, l, zs, ex, hq, ⟨h1000, bd, h64, hbd⟩, k⟩ => args_nil ?_) na) na rfl
  subst ex
  cases r1
  have last : ∀ s2, SetMade X.w s1 zs s2 → wpAny (model X.prog X.w) X.A (spliced (backTo pos (starEach [] X.env))) (fun vs s3 => wpAny (model X.prog X.w) X.A (call (.builtin "sorted") (Value.ref s1.heap.objs.size :: vs)) (EP X pins σ Q) X.xe s3) X.xe s2 := by
    rintro s2 ⟨hp, tk, c, es, R0, hcz, kp⟩
    have I2 : Inv X pins σ H1 s2 := by rw [es]; exact I1.kept (t' := tk) kp
    have R : SetR X.w s2.heap s1.heap.objs.size (fun j => decide (j ∈ zs)) c := by rw [es]; exact R0
    refine args_nil (sorted_set (s := s2) R (I2.ok.hd hc) (Nat.lt_of_le_of_lt (SetR.few R fun k hk => hbd k (by simpa using hk)) h64) fun s4 r out c2 ns kk gg oo fresh at4 are asc mem len => ?_)
    have room : (ns.map V.int).length ≤ sizeLine := by rw [List.length_map, len, sizeLine_eq]; omega
    have none4 : H1 r = none := I2.hok.fresh fresh
    have J : Inv X pins σ (upd H1 r (.lst (ns.map V.int))) { s2 with heap := s4.heap, gens := s4.gens, drawn := s4.drawn, toks := s4.toks } :=
      I2.call (ch := []) (Un.laid kk fresh none4) (I2.hok.laid kk fresh ⟨room, out.toList, c2, vals_of_ints are, at4⟩) (by rw [gg]; exact I2.bare) (fun _ z => nomatch z)
    have same : s4 = { s2 with heap := s4.heap, gens := s4.gens, drawn := s4.drawn, toks := s4.toks } := by
      cases s4; cases s2; cases oo; rfl
    rw [same]
    exact ⟨.ref r, _, J, rfl, k ns r asc (fun z => (mem z).trans decide_eq_true_iff) none4⟩
  have small : zs.length + 1 < scanBound := by unfold scanBound; omega
  rcases hq with hq | hq
  · obtain ⟨its, r, pl, hz⟩ := I1.list hq
    exact set_of_list zs (I1.ok.hd hc) pl.isList (by simpa using r.ints) small last
  · obtain ⟨its, r, pl, hz⟩ := I1.tuple hq
    exact call_set_tupI zs (I1.ok.hd hc) pl (by simpa using r.ints) small fun hp tk c R hcz kp => last _ ⟨hp, tk, c, rfl, R, hcz, kp⟩
def dSortSet (φ : DE) : DE := fun Ψ δ μ Φ => φ Ψ δ μ fun x μ1 => ∃ zs : List Int, Items μ1 x (zs.map .int) ∧ (zs.length ≤ 1000 ∧ ∃ bd : List Int, bd.length < 64 ∧ ∀ z ∈ zs, z ∈ bd) ∧ ∀ ns : List Int, ns.Pairwise (· < ·) → (∀ k : Int, k ∈ ns ↔ k ∈ zs) → Φ (.lst (ns.map .int)) μ1
theorem reps_of_ints {K : Fg} {μ : Sto} {H : Hp} : ∀ ns : List Int, Reps K μ H (ns.map V.int) (ns.map D.int)
  | [] => .nil
  | n :: ns => .int n (reps_of_ints ns)
theorem sSortSet {K : Fg} {B : Bx K} {ta : TE} {φ : DE} (a : SE B ta φ) : SE B (tSortSet K ta) (dSortSet φ) := fun σ H δ μ Φ Q S q k =>
  a σ H δ μ _ _ S q fun v H1 x μ1 S1 e1 r1 q1 => by
    obtain ⟨zs, hi, hz, q2⟩ := q1
    obtain ⟨l, us, rfl, h1, h2⟩ := hi.ok S1.sto r1
    have e := reps_int_inv h2
    subst e
    exact ⟨l, zs, rfl, h1, hz, fun ns p asc mem hp => k _ _ _ μ1 (S1.step (.new hp) (S1.sto.new hp)) (e1.trans (.new hp)) (rep_lst S1.sto hp (reps_of_ints ns)) (q2 ns asc mem)⟩
end DW
set_option Elab.async false
set_option linter.all false
set_option maxRecDepth 100000
set_option maxHeartbeats 4000000
namespace DW
open PySem PySem.Spec PyProof.Rows L2
section
variable {K : Fg} {B : Bx K} {ta tb : TE} {φ φ' φa φb : DE} {tas : TA} {ψ : DA}
def cMaxL : DC := fun xs μ Φ => ∃ x ns, xs = [x] ∧ Items μ x (ns.map .int) ∧ isTup x = false ∧ ns ≠ [] ∧ ∀ m, m ∈ ns → (∀ y, y ∈ ns → y ≤ m) → Φ (.int m) μ
def cMinL : DC := fun xs μ Φ => ∃ x ns, xs = [x] ∧ Items μ x (ns.map .int) ∧ isTup x = false ∧ ns ≠ [] ∧ ∀ m, m ∈ ns → (∀ y, y ∈ ns → m ≤ y) → Φ (.int m) μ
theorem rcMinL : RC K (rMin K) cMinL := fun H μ vs ds Φ Q s r q k => by
  obtain ⟨x, ns, rfl, hi, ht, hne, q⟩ := q
  obtain ⟨v, rfl, r1⟩ := reps1 r
  obtain ⟨a, us, rfl, h1, h2⟩ := hi.okL s r1 ht
  have e := reps_intsV h2
  subst e
  exact ⟨a, ns, rfl, h1, List.length_pos_iff.2 hne, fun m hm hmax => k _ H _ μ .refl s (.int _ .nil) (q m hm hmax)⟩
def oRepL : DO := fun x y μ Φ => ∃ ds k, x = .lst ds ∧ y = .int k ∧ k ≤ 100000 ∧ -100000 ≤ k ∧ ds.length * k.toNat ≤ 100000 ∧ Φ (.lst (List.replicate k.toNat ds).flatten) μ
theorem Reps.rep {μ : Sto} {H : Hp} {vs : List V} {ds : List D} (h : Reps K μ H vs ds) : ∀ k : Nat, Reps K μ H (List.replicate k vs).flatten (List.replicate k ds).flatten
  | 0 => .nil
  | k + 1 => by rw [List.replicate_succ, List.replicate_succ, List.flatten_cons, List.flatten_cons]; exact h.append (h.rep k)
def dLstR1 (φ : DE) : DE := fun Ψ δ μ Φ => φ Ψ δ μ fun x μ1 => ∃ j, x = .int j ∧ 0 ≤ j ∧ j ≤ 100000 ∧ Φ (.lst (rngD 0 j.toNat)) μ1
def iZipL (φ φ' : DE) : DI := fun Ψ δ μ Φ => φ Ψ δ μ fun x μ1 => φ' Ψ δ μ1 fun y μ2 => ∃ xs ys, x = .lst xs ∧ y = .lst ys ∧ Φ ((xs.zip ys).map fun p => .pr [p.1, p.2]) μ2
def iEnL (φ : DE) : DI := fun Ψ δ μ Φ => φ Ψ δ μ fun x μ1 => ∃ ds, x = .lst ds ∧ Φ ((List.range ds.length).map fun (i : Nat) => .pr [.int (i : Int), ds.getD i .non]) μ1
/-- xs.index(y), flat -/
def dIdx (φa φb : DE) : DE := fun Ψ δ μ Φ => φa Ψ δ μ fun x μ1 => ∃ ds, x = .lst ds ∧ φb Ψ δ μ1 fun y μ2 => flatD y = true ∧ ds.all flatD = true ∧ ∃ (j : Nat) (z : D), ds[j]? = some z ∧ eqF z y = true ∧ (∀ (m : Nat) (z' : D), m < j → ds[m]? = some z' → eqF z' y = false) ∧ Φ (.int j) μ2
theorem sIdx (a : SE B ta φa) (b : SE B tb φb) : SE B (tBM K "list" (rIndex K) ta (tCons tb tNil)) (dIdx φa φb) := fun σ H δ μ Φ Q S q k =>
  a σ H δ μ _ _ S q fun v H1 x μ1 S1 e1 r1 q1 => by
    obtain ⟨ds, rfl, q1⟩ := q1
    obtain ⟨p, us, rfl, h1, h2⟩ := Rep.lst_inv r1
    refine ⟨.inl ⟨rfl, us, h1.sq⟩, b σ H1 δ μ1 _ _ S1 q1 fun w H2 y μ2 S2 e2 r2 q2 => ?_⟩
    obtain ⟨fy, fd, j, z, hj, hz, hno, q2⟩ := q2
    have h2' := h2.mono e2
    obtain ⟨u, hu, ru⟩ := h2'.get hj
    refine ⟨p, us, w, j, u, rfl, rfl, (h1.mono e2).sq, flatD_ok r2 fy, flatAll_ok h2' fd, hu, ?_, fun m z' hm hz' => ?_, k _ _ _ μ2 S2 (e1.trans e2) (.int _ .nil) q2⟩
    · rw [eqF_ok ru r2 (List.all_eq_true.1 fd z (List.mem_of_getElem? hj)) fy]; exact hz
    · obtain ⟨d', hd', rd'⟩ := h2'.getV hz'
      rw [eqF_ok rd' r2 (List.all_eq_true.1 fd d' (List.mem_of_getElem? hd')) fy]
      exact hno m d' hm hd'
theorem seqIndex_nat {i n : Nat} (h : i < n) : seqIndex? (i : Int) n = some i := by
  unfold seqIndex?
  have h0 : ¬ (i : Int) < 0 := by omega
  simp only [h0, if_false]
  have h1 : (decide (0 ≤ (i : Int)) && decide ((i : Int) < (n : Int))) = true := by simp; omega
  rw [if_pos h1]
  simp
/-- o.pop(i), o a handle -/
def dPopAt (φa φb : DE) : DE := fun Ψ δ μ Φ => φa Ψ δ μ fun x μ1 => ∃ a ds, x = .hd (.ref a) ∧ μ1 a = some (.lst ds) ∧ φb Ψ δ μ1 fun y μ2 => ∃ es, μ2 a = some (.lst es) ∧ es.length ≤ 100000 ∧ ∃ (i : Nat) (d : D), y = .int i ∧ es[i]? = some d ∧ Φ d (sset μ2 a (.lst (es.eraseIdx i)))
theorem Reps.eraseIdx {μ : Sto} {H : Hp} {vs : List V} {ds : List D} (h : Reps K μ H vs ds) (i : Nat) : Reps K μ H (vs.eraseIdx i) (ds.eraseIdx i) := by
  rw [List.eraseIdx_eq_take_drop_succ, List.eraseIdx_eq_take_drop_succ]
  exact (h.take _).append (h.drop _)
theorem sPopAt (a : SE B ta φa) (b : SE B tb φb) : SE B (tBM K "list" rPopAt ta (tCons tb tNil)) (dPopAt φa φb) := fun σ H δ μ Φ Q S q k =>
  a σ H δ μ _ _ S q fun v H1 x μ1 S1 e1 r1 q1 => by
    obtain ⟨p, ds, rfl, hp, q1⟩ := q1
    obtain rfl := Rep.hd_inv r1
    obtain ⟨us, h1, h2⟩ := S1.sto _ _ hp
    refine ⟨.inl ⟨rfl, us, .of h1⟩, b σ H1 δ μ1 _ _ S1 q1 fun w H2 y μ2 S2 e2 r2 q2 => ?_⟩
    obtain ⟨es, hp2, hz, i, d, rfl, hi, q2⟩ := q2
    obtain rfl := Rep.int_inv r2
    obtain ⟨ws, h3, h4⟩ := S2.sto _ _ hp2
    obtain ⟨u, hu, ru⟩ := h4.get hi
    have hl := h4.length
    have hil : i < es.length := (List.getElem?_eq_some_iff.mp hi).1
    have e3 : Evo μ2 H2 (sset μ2 p (.lst (es.eraseIdx i))) (upd H2 p (.lst (ws.eraseIdx i))) := own_evo hp2
    obtain ⟨e4, s4⟩ := own_upd S2.sto hp2 ((h4.eraseIdx i).mono e3)
    refine ⟨p, ws, i, i, u, rfl, rfl, h3, by omega, by omega, seqIndex_nat (by omega), hu, k _ _ _ _ (S2.step e4 s4) ((e1.trans e2).trans e4) (ru.mono e4) q2⟩
end
section
variable {K : Fg} {B : Bx K} {ta tb : TE} {φ φ' φa φb : DE} {tas : TA} {ψ : DA}
theorem TupAt.bare {μ : Sto} {H : Hp} {a : Addr} {us : List V} (h : TupAt K μ H a us) : (∃ (o : Obj) (us : List V), H a = some (.frz o (.tup us)) ∧ o.dict = none ∧ o.cls = .type "tuple") ∨ ∃ o, K.lookup a = some o ∧ o.cls = .type "tuple" ∧ o.dict = none :=
  h.elim (fun ⟨o, h1, h2, h3, _⟩ => .inl ⟨o, us, h1, h2, h3⟩) fun ⟨o, _, _, h1, h2, h3, _⟩ => .inr ⟨o, h1, h2, h3⟩
def dCntT (φa φb : DE) : DE := fun Ψ δ μ Φ => φa Ψ δ μ fun x μ1 => ∃ ns : List Int, x = .tup (ns.map .int) ∧ φb Ψ δ μ1 fun y μ2 => ∃ k : Int, y = .int k ∧ Φ (.int (ns.count k : Nat)) μ2
def dIdxT (φa φb : DE) : DE := fun Ψ δ μ Φ => φa Ψ δ μ fun x μ1 => ∃ ns : List Int, x = .tup (ns.map .int) ∧ φb Ψ δ μ1 fun y μ2 => ∃ (k : Int) (j : Nat), y = .int k ∧ ns[j]? = some k ∧ (∀ m, m < j → ns[m]? ≠ some k) ∧ Φ (.int j) μ2
end
end DW
set_option Elab.async false
set_option linter.all false
set_option maxRecDepth 100000
set_option maxHeartbeats 4000000
namespace DW
open PySem PySem.Spec PyProof.Rows L2
section
variable {M : Model} {A : Around} {E : Value → Shared → Prop} {s : Shared}
theorem callWith_tyKw {pos : Pos} {T : String} {x : Sem Value} {rest : List (Bool × Sem Value)} {kws : List (Option Str × Sem Value)} {Q : Value → Shared → Prop} (plain : ((false, x) :: rest).any (·.1) = false) (named : kws.any (·.1.isNone) = false) (all : kws.all (·.1.isSome) = true)
    (h : wpAny M A (spliced ((false, x) :: rest)) (fun vs s1 => wpAny M A (evalAll (kws.map (·.2))) (fun ks s2 => wpAny M A (call (.type T) vs ((kws.filterMap (·.1)).zip ks)) Q E s2) E s1) E s) :
    wpAny M A (callWith pos (.type T) [] ((false, x) :: rest) kws) Q E s := by
  have h2 : wpAny M A (evalArgs (.type T) true ((false, x) :: rest) kws) (fun a s1 => wpAny M A (call (.type T) ([] ++ a.pos) a.kw) Q E s1) E s := evalArgs_kwB all h
  unfold callWith
  refine wpAny_bind (wpAny_holding (wpAny_mono h2 (fun a s1 h1 => wpAny_bind (wpAny_standAt ?_)) fun _ _ z => z))
  simp only [plain, named, Bool.or_false]
  exact wpAny_bind (wpAny_pure (wpAny_bind (wpAny_mono h1 (fun r s2 hr => wpAny_bind (wpAny_holding (wpAny_point (wpAny_pure hr)))) fun _ _ z => z)))
end
section
variable {K : Fg} {B : Bx K} {ta tb : TE} {φa φb : DE} {w : World} {d : Addr} {tbl : List (Str × D)}
/-- d[z] -/
def oIxD (d : Addr) (tbl : List (Str × D)) : DO := fun x y μ Φ => x = .hd (.ref d) ∧ ∃ z v, y = .str z ∧ tbl.lookup z = some v ∧ Φ v μ
def oInD (d : Addr) (tbl : List (Str × D)) (neg : Bool) : DO := fun x y μ Φ => y = .hd (.ref d) ∧ ∃ z, x = .str z ∧ Φ (.bl (if neg then !(tbl.lookup z).isSome else (tbl.lookup z).isSome)) μ
end
section
variable {K : Fg} {B : Bx K} {tas : TA} {ψ : DA}
def dCallF (i : Nat) (F : Addr → Con → Prop) (ψ : DA) : DE := fun Ψ δ μ Φ => ∃ f c, F f c ∧ δ[i]? = some (some (.hd (.ref f))) ∧ ψ Ψ δ μ fun ds μ1 => c ds μ1 Φ fun y μ2 => Ψ y δ μ2
end
end DW
set_option Elab.async false
set_option linter.all false
set_option maxRecDepth 100000
set_option maxHeartbeats 4000000
namespace DW
open PySem PySem.Spec PyProof.Rows L2
/-- a statement of a class's suite -/
def clsS : Stmt → Nat → Stmt
  | .ClassDef _ _ _ b _ _ _ _ _ _ _, j => b.getD j (.Pass ⟨0, 0, 0, 0⟩)
  | s, _ => s
section
variable {K : Fg} {φ φ' φa φb φv : DE} {ψ : DA} {Ψ : XP} {δ : DEnv} {μ : Sto} {Φ : DK} {Δ : DEnds} {C d : Addr} {NS : List Str} {i j : Nat} {c : Con} {f z : Str} {F : Addr → Con → Prop} {ds es : List D} {k : Int} {tbl : List (Str × D)} {n : Bool} {x : D}
theorem u_fld : dFld C NS i φ Ψ δ μ Φ = φ Ψ δ μ fun x μ1 => ∃ ds d, x = .obj C NS ds ∧ ds[i]? = some d ∧ Φ d μ1 := rfl
theorem w_fld {P : D → Prop} : (∃ es d, D.obj C NS ds = .obj C NS es ∧ es[i]? = some d ∧ P d) = ∃ d, ds[i]? = some d ∧ P d := propext ⟨fun ⟨es, d, e, h, q⟩ => by cases e; exact ⟨d, h, q⟩, fun ⟨d, h, q⟩ => ⟨_, d, rfl, h, q⟩⟩
theorem w_someE {y : D} {P : D → Prop} : (∃ d, some y = some d ∧ P d) = P y := propext ⟨fun ⟨_, e, q⟩ => by cases e; exact q, fun q => ⟨_, rfl, q⟩⟩
theorem u_setF : dSetF C f φv φa Ψ Δ δ μ = φv Ψ δ μ fun y μ1 => φa Ψ δ μ1 fun x μ2 => ∃ a ns ds, x = .hd (.ref a) ∧ μ2 a = some (.ins C ns ds) ∧ f ∉ ns ∧ ns.length < 1000 ∧ Δ.nx δ (sset μ2 a (.ins C (ns ++ [f]) (ds ++ [y]))) := rfl
theorem u_methX : dMethX C NS c φ ψ Ψ δ μ Φ = φ Ψ δ μ fun x μ1 => ∃ es, x = .obj C NS es ∧ ψ Ψ δ μ1 fun ds μ2 => c (x :: ds) μ2 Φ fun y μ3 => Ψ y δ μ3 := rfl
theorem w_objE {P : List D → Prop} : (∃ es, D.obj C NS ds = .obj C NS es ∧ P es) = P ds := propext ⟨fun ⟨_, e, q⟩ => by cases e; exact q, fun q => ⟨_, rfl, q⟩⟩
theorem u_makeS : dMakeS C c ψ Ψ δ μ Φ = ψ Ψ δ μ fun ds μ1 => ∀ x, μ1 x = none → c (.hd (.ref x) :: ds) (sset μ1 x (.ins C [] [])) (fun d μ2 => d = .non ∧ ∃ ns es, μ2 x = some (.ins C ns es) ∧ Φ (.obj C ns es) (sdel μ2 x)) (fun y μ2 => Ψ y δ μ2) := rfl
theorem u_sortSet : dSortSet φ Ψ δ μ Φ = φ Ψ δ μ fun x μ1 => ∃ zs : List Int, Items μ1 x (zs.map .int) ∧ (zs.length ≤ 1000 ∧ ∃ bd : List Int, bd.length < 64 ∧ ∀ z ∈ zs, z ∈ bd) ∧ ∀ ns : List Int, ns.Pairwise (· < ·) → (∀ k : Int, k ∈ ns ↔ k ∈ zs) → Φ (.lst (ns.map .int)) μ1 := rfl
theorem u_lstR1 : dLstR1 φ Ψ δ μ Φ = φ Ψ δ μ fun x μ1 => ∃ j, x = .int j ∧ 0 ≤ j ∧ j ≤ 100000 ∧ Φ (.lst (rngD 0 j.toNat)) μ1 := rfl
theorem u_iZipL {Φ : List D → Sto → Prop} : iZipL φ φ' Ψ δ μ Φ = φ Ψ δ μ fun x μ1 => φ' Ψ δ μ1 fun y μ2 => ∃ xs ys, x = .lst xs ∧ y = .lst ys ∧ Φ ((xs.zip ys).map fun p => D.pr [p.1, p.2]) μ2 := rfl
theorem u_iEnL {Φ : List D → Sto → Prop} : iEnL φ Ψ δ μ Φ = φ Ψ δ μ fun x μ1 => ∃ ds, x = .lst ds ∧ Φ ((List.range ds.length).map fun (i : Nat) => D.pr [.int (i : Int), ds.getD i .non]) μ1 := rfl
theorem u_idx : dIdx φa φb Ψ δ μ Φ = φa Ψ δ μ fun x μ1 => ∃ ds, x = .lst ds ∧ φb Ψ δ μ1 fun y μ2 => flatD y = true ∧ ds.all flatD = true ∧ ∃ (j : Nat) (z : D), ds[j]? = some z ∧ eqF z y = true ∧ (∀ (m : Nat) (z' : D), m < j → ds[m]? = some z' → eqF z' y = false) ∧ Φ (.int j) μ2 := rfl
theorem u_popAt : dPopAt φa φb Ψ δ μ Φ = φa Ψ δ μ fun x μ1 => ∃ a ds, x = .hd (.ref a) ∧ μ1 a = some (.lst ds) ∧ φb Ψ δ μ1 fun y μ2 => ∃ es, μ2 a = some (.lst es) ∧ es.length ≤ 100000 ∧ ∃ (i : Nat) (d : D), y = .int i ∧ es[i]? = some d ∧ Φ d (sset μ2 a (.lst (es.eraseIdx i))) := rfl
theorem u_cntT : dCntT φa φb Ψ δ μ Φ = φa Ψ δ μ fun x μ1 => ∃ ns : List Int, x = .tup (ns.map .int) ∧ φb Ψ δ μ1 fun y μ2 => ∃ k : Int, y = .int k ∧ Φ (.int (ns.count k : Nat)) μ2 := rfl
theorem u_idxT : dIdxT φa φb Ψ δ μ Φ = φa Ψ δ μ fun x μ1 => ∃ ns : List Int, x = .tup (ns.map .int) ∧ φb Ψ δ μ1 fun y μ2 => ∃ (k : Int) (j : Nat), y = .int k ∧ ns[j]? = some k ∧ (∀ m, m < j → ns[m]? ≠ some k) ∧ Φ (.int j) μ2 := rfl
theorem u_callF : dCallF i F ψ Ψ δ μ Φ = ∃ f c, F f c ∧ δ[i]? = some (some (.hd (.ref f))) ∧ ψ Ψ δ μ fun ds μ1 => c ds μ1 Φ fun y μ2 => Ψ y δ μ2 := rfl
theorem w_maxL : cMaxL [x] μ Φ = ∃ ns, Items μ x (ns.map .int) ∧ isTup x = false ∧ ns ≠ [] ∧ ∀ m, m ∈ ns → (∀ y, y ∈ ns → y ≤ m) → Φ (.int m) μ := propext ⟨fun ⟨_, ns, e, q⟩ => by cases e; exact ⟨ns, q⟩, fun ⟨ns, q⟩ => ⟨_, ns, rfl, q⟩⟩
theorem w_minL : cMinL [x] μ Φ = ∃ ns, Items μ x (ns.map .int) ∧ isTup x = false ∧ ns ≠ [] ∧ ∀ m, m ∈ ns → (∀ y, y ∈ ns → m ≤ y) → Φ (.int m) μ := propext ⟨fun ⟨_, ns, e, q⟩ => by cases e; exact ⟨ns, q⟩, fun ⟨ns, q⟩ => ⟨_, ns, rfl, q⟩⟩
theorem w_ixDc : oIxD d tbl (.hd (.ref d)) (.str z) μ Φ = ∃ v, tbl.lookup z = some v ∧ Φ v μ := propext ⟨fun ⟨_, _, v, e, h, q⟩ => by cases e; exact ⟨v, h, q⟩, fun ⟨v, h, q⟩ => ⟨rfl, _, v, rfl, h, q⟩⟩
theorem w_inDc : oInD d tbl n (.str z) (.hd (.ref d)) μ Φ = Φ (.bl (if n then !(tbl.lookup z).isSome else (tbl.lookup z).isSome)) μ := propext ⟨fun ⟨_, _, e, q⟩ => by cases e; exact q, fun q => ⟨rfl, _, rfl, q⟩⟩
theorem w_repL : oRepL (.lst ds) (.int k) μ Φ = (k ≤ 100000 ∧ -100000 ≤ k ∧ ds.length * k.toNat ≤ 100000 ∧ Φ (.lst (List.replicate k.toNat ds).flatten) μ) := propext ⟨fun ⟨_, _, e1, e2, q⟩ => by cases e1; cases e2; exact q, fun q => ⟨_, _, rfl, rfl, q⟩⟩
theorem w_listLs {P : List D → List D → Prop} : (∃ xs ys, D.lst ds = .lst xs ∧ D.lst es = .lst ys ∧ P xs ys) = P ds es := propext ⟨fun ⟨_, _, e1, e2, q⟩ => by cases e1; cases e2; exact q, fun q => ⟨_, _, rfl, rfl, q⟩⟩
end
end DW
set_option Elab.async false
set_option linter.all false
set_option maxRecDepth 100000
namespace DW
open PySem PySem.Spec PyProof.Rows L2
/-- items and tests drawn from the state at st -/
theorem lcG_drawG {Ψ : XP} {Φ : DK} {γ : DG} {θ : DT} {φ : DE} {δw : DEnv} {μ1 : Sto} {xs : List D} {st : Addr} (Sc : List D → Prop) (Inv : Nat → List D → Prop) {c : List D} (hz : xs.length ≤ 100000)
    (hst : μ1 st = some (.lst c)) (h0 : Sc c) (hI : Inv 0 [])
    (hs : ∀ (i : Nat) (d : D) (μ2 : Sto) (X : DK) (Y : Sto → Prop) (acc c : List D), xs[i]? = some d → μ2 st = some (.lst c) → Sc c → Inv i acc → acc.length ≤ i →
      (∀ y c', Sc c' → Inv (i + 1) (acc ++ [y]) → X y (sset μ2 st (.lst c'))) → (∀ c', Sc c' → Inv (i + 1) acc → Y (sset μ2 st (.lst c'))) →
      γ d δw μ2 fun δ3 μ3 => θ Ψ δ3 μ3 fun b μ4 => (b = true → φ Ψ δ3 μ4 X) ∧ (b = false → Y μ4))
    (hd : ∀ acc c, Inv xs.length acc → acc.length ≤ xs.length → Sc c → Φ (.lst acc) (sset μ1 st (.lst c))) : LcG γ θ φ δw Ψ xs μ1 Φ := fun p hp => by
  refine ⟨fun i μ' => ∃ acc c, Two μ1 p st acc c μ' ∧ Sc c ∧ Inv i acc ∧ acc.length ≤ i, ⟨[], c, .start hp hst, h0, hI, Nat.le_refl _⟩, ?_, ?_⟩
  · rintro i d μ2 hi ⟨acc, c, T, s, I, hl⟩
    have hlt : i < xs.length := (List.getElem?_eq_some_iff.mp hi).1
    refine hs i d μ2 _ _ acc c hi T.sc s I hl (fun y c' s' I' => ⟨acc, T.setS.pL, by omega, _, c', T.setS.setP, s', I', by simp; omega⟩) fun c' s' I' => ⟨acc, c', T.setS, s', I', by omega⟩
  · rintro μ2 ⟨acc, c, T, s, I, hl⟩
    exact ⟨acc, T.pL, by rw [T.del]; exact hd acc c I hl s⟩
theorem sset_comm {μ : Sto} {a b : Addr} {x y : Cell} (h : a ≠ b) : sset (sset μ a x) b y = sset (sset μ b y) a x := by
  funext e
  unfold sset
  by_cases h1 : e = a
  · subst h1; rw [if_neg h, if_pos rfl, if_pos rfl]
  · rw [if_neg h1, if_neg h1]
/-- list(range(n)), a list that will change -/
def dLstR1O (φ : DE) : DE := fun Ψ δ μ Φ => φ Ψ δ μ fun x μ1 => ∃ j, x = .int j ∧ 0 ≤ j ∧ j ≤ 100000 ∧ ∀ p, μ1 p = none → Φ (.hd (.ref p)) (sset μ1 p (.lst (rngD 0 j.toNat)))
theorem u_lstR1O {φ : DE} {Ψ : XP} {δ : DEnv} {μ : Sto} {Φ : DK} : dLstR1O φ Ψ δ μ Φ = φ Ψ δ μ fun x μ1 => ∃ j, x = .int j ∧ 0 ≤ j ∧ j ≤ 100000 ∧ ∀ p, μ1 p = none → Φ (.hd (.ref p)) (sset μ1 p (.lst (rngD 0 j.toNat))) := rfl
end DW
set_option Elab.async false
set_option linter.all false
set_option maxRecDepth 100000
namespace DW
open PySem PySem.Spec PyProof.Rows L2
/-- xs.count(k), xs a list of ints -/
def dCntL (φa φb : DE) : DE := fun Ψ δ μ Φ => φa Ψ δ μ fun x μ1 => ∃ ns : List Int, x = .lst (ns.map .int) ∧ φb Ψ δ μ1 fun y μ2 => ∃ k : Int, y = .int k ∧ Φ (.int (ns.count k : Nat)) μ2
theorem sCntL {K : Fg} {B : Bx K} {ta tb : TE} {φa φb : DE} (a : SE B ta φa) (b : SE B tb φb) : SE B (tBM K "list" (rCntI K) ta (tCons tb tNil)) (dCntL φa φb) := fun σ H δ μ Φ Q S q k =>
  a σ H δ μ _ _ S q fun v H1 x μ1 S1 e1 r1 q1 => by
    obtain ⟨ns, rfl, q1⟩ := q1
    obtain ⟨p, us, rfl, h1, h2⟩ := Rep.lst_inv r1
    have e := reps_intsV h2
    subst e
    refine ⟨.inl ⟨rfl, _, h1.sq⟩, b σ H1 δ μ1 _ _ S1 q1 fun w H2 y μ2 S2 e2 r2 q2 => ?_⟩
    obtain ⟨j, rfl, q2⟩ := q2
    obtain rfl := Rep.int_inv r2
    exact ⟨p, ns, j, rfl, rfl, (h1.mono e2).sq, k _ _ _ μ2 S2 (e1.trans e2) (.int _ .nil) q2⟩
theorem u_cntL {φa φb : DE} {Ψ : XP} {δ : DEnv} {μ : Sto} {Φ : DK} : dCntL φa φb Ψ δ μ Φ = φa Ψ δ μ fun x μ1 => ∃ ns : List Int, x = .lst (ns.map .int) ∧ φb Ψ δ μ1 fun y μ2 => ∃ k : Int, y = .int k ∧ Φ (.int (ns.count k : Nat)) μ2 := rfl
end DW
set_option Elab.async false
set_option linter.all false
set_option maxRecDepth 100000
namespace LW
open PySem PySem.Spec L2 DW
inductive Am where
  | any | best (r : List Int) | second (r : List Int) | most | fewest | fixed | like (i : Nat) | unlike (i : Nat) | among (l : List Int) | only (l : List Int) | table (rows : List (List Int))
  | either (a b : Am) | both (a b : Am) | els (a b : Am) | not (a : Am) | first (a : Am) | recode (m : List Int) (a : Am) | reorder (p : List Int) (a : Am)
namespace Am
def iT (l : List Int) : D := .tup (l.map .int)
def d : Am → D
  | any => .tup [.str "any"]
  | best r => .tup [.str "best", iT r]
  | second r => .tup [.str "second", iT r]
  | most => .tup [.str "most"]
  | fewest => .tup [.str "fewest"]
  | fixed => .tup [.str "fixed"]
  | like i => .tup [.str "like", .int i]
  | unlike i => .tup [.str "unlike", .int i]
  | among l => .tup [.str "among", iT l]
  | only l => .tup [.str "only", iT l]
  | table rows => .tup [.str "table", .tup (rows.map iT)]
  | either a b => .tup [.str "either", a.d, b.d]
  | both a b => .tup [.str "both", a.d, b.d]
  | els a b => .tup [.str "else", a.d, b.d]
  | not a => .tup [.str "not", a.d]
  | first a => .tup [.str "first", a.d]
  | recode m a => .tup [.str "recode", iT m, a.d]
  | reorder p a => .tup [.str "reorder", iT p, a.d]
def dep : Am → Nat
  | either a b => max a.dep b.dep + 1
  | both a b => max a.dep b.dep + 1
  | els a b => max a.dep b.dep + 1
  | not a => a.dep + 1
  | first a => a.dep + 1
  | recode _ a => a.dep + 1
  | reorder _ a => a.dep + 1
  | _ => 1
end Am
/-- ascending numbers from lo on, below hi -/
def Asc (hi : Int) : Int → List Int → Prop
  | _, [] => True
  | lo, x :: r => lo ≤ x ∧ x < hi ∧ Asc hi (x + 1) r
structure CtxOk (n k : Nat) (c : List Int) : Prop where
  len : c.length = n
  lo : ∀ r ∈ c, 0 ≤ r
  hi : ∀ r ∈ c, r < k
  n1 : 1 ≤ n
  n64 : n ≤ 64
  k1 : 1 ≤ k
  k4 : k ≤ 4
def NumOk (len lim : Nat) (r : List Int) : Prop := r.length = len ∧ ∀ x ∈ r, 0 ≤ x ∧ x < (lim : Int)
def AmOk (n k : Nat) : Am → Prop
  | .any => True
  | .best r => NumOk k 10 r
  | .second r => NumOk k 10 r
  | .most => True
  | .fewest => True
  | .fixed => True
  | .like i => i < n
  | .unlike i => i < n
  | .among l => Asc k 0 l
  | .only l => Asc n 0 l
  | .table rows => n ≤ 8 ∧ k ^ n ≤ 256 ∧ rows.length = k ^ n ∧ ∀ l ∈ rows, Asc n 0 l
  | .either a b => AmOk n k a ∧ AmOk n k b
  | .both a b => AmOk n k a ∧ AmOk n k b
  | .els a b => AmOk n k a ∧ AmOk n k b
  | .not a => AmOk n k a
  | .first a => AmOk n k a
  | .recode m a => NumOk k k m ∧ AmOk n k a
  | .reorder p a => NumOk n n p ∧ p.Nodup ∧ AmOk n k a
def at' (l : List Int) (i : Int) : Int := l.getD i.toNat 0
/-- the number of a context -/
def ctxIx (k : Nat) (c : List Int) : Int := c.foldl (fun s r => s * k + r) 0
def someI (n : Nat) (p : Nat → Bool) : Bool := (List.range n).any p
def isG (k : Nat) : Am → List Int → Nat → Bool
  | .any, _, _ => true
  | .best r, c, x => c.all fun s => decide (at' r s ≤ at' r (c.getD x 0))
  | .second r, c, x => let m := at' r (c.getD x 0); c.all (fun s => m == at' r s) || (let ab := (c.map (at' r)).filter (fun s => decide (m < s)); decide (0 < ab.length) && ab.all (· == ab.getD 0 0))
  | .most, c, x => c.all fun s => decide (c.count s ≤ c.count (c.getD x 0))
  | .fewest, c, x => c.all fun s => decide (c.count (c.getD x 0) ≤ c.count s)
  | .fixed, c, x => c.getD x 0 == (x : Int)
  | .like i, c, x => c.getD x 0 == c.getD i 0
  | .unlike i, c, x => c.getD x 0 != c.getD i 0
  | .among l, c, x => l.contains (c.getD x 0)
  | .only l, _, x => l.contains (x : Int)
  | .table rows, c, x => (rows.getD (ctxIx k c).toNat []).contains (x : Int)
  | .either a b, c, x => isG k a c x || isG k b c x
  | .both a b, c, x => isG k a c x && isG k b c x
  | .els a b, c, x => if someI c.length (isG k a c) then isG k a c x else isG k b c x
  | .not a, c, x => !isG k a c x
  | .first a, c, x => isG k a c x && !someI x (isG k a c)
  | .recode m a, c, x => isG k a (c.map (at' m)) x
  | .reorder p a, c, x => isG k a ((List.range c.length).map fun (y : Nat) => c.getD (p.idxOf (y : Int)) (0 : Int)) (at' p x).toNat
def flagL (k : Nat) (a : Am) (c : List Int) : List D := (List.range c.length).map fun x => .bl (isG k a c x)
def FlC (P : Am → Prop) : Con := fun ds μ Φ _ => ∃ (n k : Nat) (a : Am) (c : List Int), P a ∧ AmOk n k a ∧ CtxOk n k c ∧ ds = [a.d, .tup (c.map .int), .int k] ∧ Φ (.lst (flagL k a c)) μ
section
variable {Ψ : XP} {Φ : DK} {n : Nat} {φ : DE} {δw : DEnv} {μ1 : Sto}
/-- over numbers, by the place -/
theorem lcI {ws : List Int} (v : Nat → D) (hz : ws.length ≤ 100000)
    (hs : ∀ (i : Nat) (z : Int) (μ2 : Sto) (X : DK), ws[i]? = some z → Sub μ1 μ2 → X (v i) μ2 → φ Ψ (δw.set n (some (.int z))) μ2 X)
    (hd : Φ (.lst ((List.range ws.length).map v)) μ1) : LcG (eName n) dYes φ δw Ψ (ws.map .int) μ1 Φ := by
  have hl : (ws.map D.int).length = ws.length := List.length_map ..
  refine lcG_mapN v (by rw [hl]; exact hz) (fun i d μ2 X hi hsub hx => ?_) (by rw [hl]; exact hd)
  obtain ⟨z, e, rfl⟩ := mapI_get hi
  exact hs i z μ2 X e hsub hx
/-- over numbers, by the number -/
theorem lcZ {ws : List Int} (f : Int → D) (hz : ws.length ≤ 100000)
    (hs : ∀ (z : Int) (μ2 : Sto) (X : DK), z ∈ ws → Sub μ1 μ2 → X (f z) μ2 → φ Ψ (δw.set n (some (.int z))) μ2 X)
    (hd : Φ (.lst (ws.map f)) μ1) : LcG (eName n) dYes φ δw Ψ (ws.map .int) μ1 Φ := by
  refine lcI (fun i => f (ws.getD i 0)) hz (fun i z μ2 X hi hsub hx => ?_) ?_
  · rw [List.getD_eq_getElem?_getD, hi] at hx
    exact hs z μ2 X (List.mem_of_getElem? hi) hsub hx
  · have : (List.range ws.length).map (fun i => f (ws.getD i 0)) = ws.map f := by
      apply List.ext_getElem
      · simp
      · intro i h1 h2
        simp at h1
        simp [List.getD_eq_getElem?_getD, List.getElem?_eq_getElem h1]
    rw [this]; exact hd
/-- over a range -/
theorem lcR {m : Nat} (v : Nat → D) (hz : m ≤ 100000)
    (hs : ∀ (i : Nat) (μ2 : Sto) (X : DK), i < m → Sub μ1 μ2 → X (v i) μ2 → φ Ψ (δw.set n (some (.int (i : Int)))) μ2 X)
    (hd : Φ (.lst ((List.range m).map v)) μ1) : LcG (eName n) dYes φ δw Ψ (rngD 0 m) μ1 Φ := by
  refine lcG_mapN v (by rw [rngD_len]; exact hz) (fun i d μ2 X hi hsub hx => ?_) (by rw [rngD_len]; exact hd)
  obtain ⟨hj, rfl⟩ := rngD_get hi
  have := hs i μ2 X hj hsub hx
  rw [Int.zero_add]
  exact this
theorem inD_I (z : Int) : ∀ l : List Int, inD (.int z) (l.map .int) = l.contains z
  | [] => rfl
  | x :: l => by
    have ih := inD_I z l
    unfold inD at ih ⊢
    rw [List.map_cons, List.any_cons, ih, List.contains_cons]
    show (x == z || l.contains z) = _
    by_cases hh : x = z
    · rw [hh]
    · rw [beq_eq_false_iff_ne.mpr hh, beq_eq_false_iff_ne.mpr (Ne.symm hh)]
theorem flat_I (l : List Int) : (l.map D.int).all flatD = true := by rw [List.all_map]; exact List.all_eq_true.mpr fun _ _ => rfl
end
theorem FlC.len {P : Am → Prop} {ds μ Φ Ψ} (h : FlC P ds μ Φ Ψ) : ds.length = 3 := by obtain ⟨_, _, _, _, _, _, _, rfl, _⟩ := h; rfl
end LW
set_option Elab.async false
set_option linter.all false
set_option maxRecDepth 100000
namespace DW
open PySem PySem.Spec PyProof.Rows L2
end DW
set_option Elab.async false
set_option linter.all false
set_option maxRecDepth 100000
namespace DW
open PySem PySem.Spec PyProof.Rows L2
section
variable {K : Fg} {B : Bx K}
def dLc2 (ι : DI) (γ : DG) (θ : DT) (ι1 : DI) (γ1 : DG) (θ1 : DT) (φ : DE) (vs vs1 : List Nat) : DE := fun Ψ δ μ Φ => ι Ψ δ μ fun xs μ1 => ∀ p, μ1 p = none → ∃ W : Nat → Sto → Prop, W 0 (sset μ1 p (.lst [])) ∧
  (∀ i d μ2, xs[i]? = some d → W i μ2 → γ d (dwipe δ vs) μ2 fun δ3 μ3 => θ Ψ δ3 μ3 fun b μ4 =>
    (b = true → ι1 Ψ δ3 μ4 fun xs1 μ5 => ∃ W1 : Nat → Sto → Prop, W1 0 μ5 ∧
      (∀ j d1 μ6, xs1[j]? = some d1 → W1 j μ6 → γ1 d1 (dwipe δ3 vs1) μ6 fun δ7 μ7 => θ1 Ψ δ7 μ7 fun b1 μ8 =>
        (b1 = true → φ Ψ δ7 μ8 fun y μ9 => ∃ acc, μ9 p = some (.lst acc) ∧ acc.length ≤ 100000 ∧ W1 (j + 1) (sset μ9 p (.lst (acc ++ [y])))) ∧ (b1 = false → W1 (j + 1) μ8)) ∧
      ∀ μ6, W1 xs1.length μ6 → W (i + 1) μ6) ∧ (b = false → W (i + 1) μ4)) ∧
  ∀ μ2, W xs.length μ2 → ∃ acc, μ2 p = some (.lst acc) ∧ Φ (.lst acc) (sdel μ2 p)
theorem sLc2 {wi wi1 : TI} {g g1 : TG} {tt tt1 : TT} {te : TE} {vs vs1 : List Nat} {ι ι1 : DI} {γ γ1 : DG} {θ θ1 : DT} {φ : DE} (a : SI B wi ι) (w : GW vs g) (w1 : GW vs1 g1) (b : ∀ H1 μ1 e, SG (B.re H1 μ1 e) g γ) (c : ∀ H1 μ1 e, ST (B.re H1 μ1 e) tt θ)
    (a1 : ∀ H1 μ1 e, SI (B.re H1 μ1 e) wi1 ι1) (b1 : ∀ H1 μ1 e, SG (B.re H1 μ1 e) g1 γ1) (c1 : ∀ H1 μ1 e, ST (B.re H1 μ1 e) tt1 θ1) (d : ∀ H1 μ1 e, SE (B.re H1 μ1 e) te φ) :
    SE B (tLc2 wi g tt wi1 g1 tt1 te vs vs1) (dLc2 ι γ θ ι1 γ1 θ1 φ vs vs1) := fun σ H δ μ Φ Q S q k =>
  a σ H δ μ _ _ S q fun xs J H1 μ1 S1 e1 it q1 => fun p hp => by
    have hμp : μ1 p = none := S1.sto.fresh hp
    obtain ⟨W, w0, ws, wd⟩ := q1 p hμp
    refine ⟨fun i m H' => m = xs.length - i ∧ i ≤ xs.length ∧ ∃ μ', Evo μ1 H1 μ' H' ∧ StoOk K μ' H' ∧ W i μ', ⟨xs.length, by simp, Nat.zero_le _, _, .newC S1.sto hp, sto_own S1.sto hp .nil, w0⟩, ?_⟩
    rintro i m H' ⟨rfl, hi, μ', e', s', wi'⟩
    by_cases hlt : i < xs.length
    · obtain ⟨hgo, hy⟩ := (it i H' μ' s' e').1 hlt
      refine .inr ⟨hgo, fun H2 => ∃ μ2, Evo μ1 H1 μ2 H2 ∧ StoOk K μ2 H2 ∧ W (i + 1) μ2, fun H2 ⟨μ2, e2, s2, w2⟩ => ⟨xs.length - (i + 1), by omega, rfl, by omega, μ2, e2, s2, w2⟩, fun x H2 y => ?_⟩
      obtain ⟨dd, hd, s2, e2, r2⟩ := hy x H2 y
      have S2 : (B.re H1 μ1 S1.evo).S (L2.wipe σ vs) H2 (dwipe δ vs) μ' := ⟨e'.trans e2, s2, ((S1.env.mono e').mono e2).wipe vs⟩
      refine w x (L2.wipe σ vs) (L2.wipe σ vs) H2 _ wipe_wipe ?_
      refine b H1 μ1 S1.evo x dd (L2.wipe σ vs) H2 (dwipe δ vs) μ' _ _ S2 r2 (ws i dd μ' hd wi') fun σ3 H3 δ3 μ3 S3 e3 q3 => ?_
      refine c H1 μ1 S1.evo σ3 H3 δ3 μ3 _ _ S3 q3 fun b4 H4 μ4 S4 e4 q4 => ?_
      cases b4 with
      | true =>
        rw [if_pos rfl]
        refine a1 H1 μ1 S1.evo σ3 H4 δ3 μ4 _ _ S4 (q4.1 rfl) fun xs1 J1 H5 μ5 S5 e5 it1 q5 => ?_
        obtain ⟨W1, w10, ws1, wd1⟩ := q5
        refine ⟨fun j m H' => m = xs1.length - j ∧ j ≤ xs1.length ∧ ∃ μ', Evo μ5 H5 μ' H' ∧ StoOk K μ' H' ∧ W1 j μ', ⟨xs1.length, by simp, Nat.zero_le _, μ5, .refl, S5.sto, w10⟩, ?_⟩
        rintro j m H6 ⟨rfl, hj, μ6, e6, s6, w16⟩
        by_cases hlt1 : j < xs1.length
        · obtain ⟨hgo1, hy1⟩ := (it1 j H6 μ6 s6 e6).1 hlt1
          refine .inr ⟨hgo1, fun H7 => ∃ μ7, Evo μ5 H5 μ7 H7 ∧ StoOk K μ7 H7 ∧ W1 (j + 1) μ7, fun H7 ⟨μ7, e7, s7, w7⟩ => ⟨xs1.length - (j + 1), by omega, rfl, by omega, μ7, e7, s7, w7⟩, fun x1 H7 y1 => ?_⟩
          obtain ⟨d1, hd1, s7, e7, r7⟩ := hy1 x1 H7 y1
          have S7 : (B.re H1 μ1 S1.evo).S (L2.wipe σ3 vs1) H7 (dwipe δ3 vs1) μ6 := ⟨(S5.evo.trans e6).trans e7, s7, ((S5.env.mono e6).mono e7).wipe vs1⟩
          refine w1 x1 (L2.wipe σ3 vs1) (L2.wipe σ3 vs1) H7 _ wipe_wipe ?_
          refine b1 H1 μ1 S1.evo x1 d1 (L2.wipe σ3 vs1) H7 (dwipe δ3 vs1) μ6 _ _ S7 r7 (ws1 j d1 μ6 hd1 w16) fun σ8 H8 δ8 μ8 S8 e8 q8 => ?_
          have E8 : Evo μ5 H5 μ8 H8 := (e6.trans e7).trans e8
          refine c1 H1 μ1 S1.evo σ8 H8 δ8 μ8 _ _ S8 q8 fun b9 H9 μ9 S9 e9 q9 => ?_
          have E9 : Evo μ5 H5 μ9 H9 := E8.trans e9
          cases b9 with
          | true =>
            rw [if_pos rfl]
            refine d H1 μ1 S1.evo σ8 H9 δ8 μ9 _ _ S9 (q9.1 rfl) fun v10 H10 y10 μ10 S10 e10 r10 q10 => ?_
            obtain ⟨acc, hacc, hz, w11⟩ := q10
            obtain ⟨us, h10, hr10⟩ := S10.sto _ _ hacc
            have e11 : Evo μ10 H10 (sset μ10 p (.lst (acc ++ [y10]))) (upd H10 p (.lst (us ++ [v10]))) := own_evo hacc
            obtain ⟨e12, s12⟩ := own_upd S10.sto hacc ((hr10.append r10).mono e11)
            exact ⟨us, h10, Nat.lt_of_le_of_lt (by rw [hr10.length]; exact hz) (by decide), _, (E9.trans e10).trans e12, s12, w11⟩
          | false =>
            rw [if_neg Bool.false_ne_true]
            exact ⟨μ9, E9, S9.sto, q9.2 rfl⟩
        · have e : j = xs1.length := by omega
          subst e
          exact .inl ⟨(it1 _ H6 μ6 s6 e6).2 (Nat.le_refl _), μ6, S5.evo.trans e6, s6, wd1 μ6 w16⟩
      | false =>
        rw [if_neg Bool.false_ne_true]
        exact ⟨μ4, S4.evo, S4.sto, q4.2 rfl⟩
    · have e : i = xs.length := by omega
      subst e
      obtain ⟨acc, hacc, q2⟩ := wd μ' wi'
      obtain ⟨us, h5, hr5⟩ := s' _ _ hacc
      refine .inl ⟨(it _ H' μ' s' e').2 (Nat.le_refl _), ?_⟩
      have e8 : Evo μ1 H1 (sdel μ' p) H' := e'.trans sdel_sub.evo
      exact k (.ref p) H' (.lst acc) (sdel μ' p) (S1.step e8 (sdel_sub.sto s')) (e1.trans e8) (.lst ⟨h5, .of sdel_same⟩ (hr5.mono sdel_sub.evo) .nil) q2
end
def LcG2 (γ : DG) (θ : DT) (ι1 : DI) (γ1 : DG) (θ1 : DT) (φ : DE) (δw : DEnv) (vs1 : List Nat) (Ψ : XP) (xs : List D) (μ1 : Sto) (Φ : DK) : Prop := ∀ p, μ1 p = none → ∃ W : Nat → Sto → Prop, W 0 (sset μ1 p (.lst [])) ∧
  (∀ i d μ2, xs[i]? = some d → W i μ2 → γ d δw μ2 fun δ3 μ3 => θ Ψ δ3 μ3 fun b μ4 =>
    (b = true → ι1 Ψ δ3 μ4 fun xs1 μ5 => ∃ W1 : Nat → Sto → Prop, W1 0 μ5 ∧
      (∀ j d1 μ6, xs1[j]? = some d1 → W1 j μ6 → γ1 d1 (dwipe δ3 vs1) μ6 fun δ7 μ7 => θ1 Ψ δ7 μ7 fun b1 μ8 =>
        (b1 = true → φ Ψ δ7 μ8 fun y μ9 => ∃ acc, μ9 p = some (.lst acc) ∧ acc.length ≤ 100000 ∧ W1 (j + 1) (sset μ9 p (.lst (acc ++ [y])))) ∧ (b1 = false → W1 (j + 1) μ8)) ∧
      ∀ μ6, W1 xs1.length μ6 → W (i + 1) μ6) ∧ (b = false → W (i + 1) μ4)) ∧
  ∀ μ2, W xs.length μ2 → ∃ acc, μ2 p = some (.lst acc) ∧ Φ (.lst acc) (sdel μ2 p)
section
variable {Ψ : XP} {Φ : DK} {δ : DEnv} {μ : Sto}
theorem u_lc2 {ι : DI} {γ : DG} {θ : DT} {ι1 : DI} {γ1 : DG} {θ1 : DT} {φ : DE} {vs vs1 : List Nat} : dLc2 ι γ θ ι1 γ1 θ1 φ vs vs1 Ψ δ μ Φ = ι Ψ δ μ fun xs μ1 => LcG2 γ θ ι1 γ1 θ1 φ (dwipe δ vs) vs1 Ψ xs μ1 Φ := rfl
/-- plain names, no tests, nothing changes -/
theorem lcG2_pure {n n1 : Nat} {ι1 : DI} {φ : DE} {δw : DEnv} {μ1 : Sto} {xs : List D} (cols : Nat → List D) (v : Nat → Nat → D) (hz : ∀ i, i ≤ xs.length → ((List.range i).flatMap fun i => (List.range (cols i).length).map (v i)).length ≤ 50000)
    (hc : ∀ i, (cols i).length ≤ 50000)
    (hi : ∀ (i : Nat) (d : D) (μ2 : Sto) (X : List D → Sto → Prop), xs[i]? = some d → Sub μ1 μ2 → X (cols i) μ2 → ι1 Ψ (δw.set n (some d)) μ2 X)
    (hs : ∀ (i : Nat) (d : D) (j : Nat) (d1 : D) (μ2 : Sto) (X : DK), xs[i]? = some d → (cols i)[j]? = some d1 → Sub μ1 μ2 → X (v i j) μ2 → φ Ψ (((δw.set n (some d)).set n1 none).set n1 (some d1)) μ2 X)
    (hd : Φ (.lst ((List.range xs.length).flatMap fun i => (List.range (cols i).length).map (v i))) μ1) : LcG2 (eName n) dYes ι1 (eName n1) dYes φ δw [n1] Ψ xs μ1 Φ := fun p hp => by
  refine ⟨fun i μ' => μ' = sset μ1 p (.lst ((List.range i).flatMap fun i => (List.range (cols i).length).map (v i))), rfl, fun i d μ2 hi2 e => ?_, fun μ2 e => ?_⟩
  · subst e
    refine ⟨fun _ => hi i d _ _ hi2 (.set Sub.refl hp) ⟨fun j μ' => j ≤ (cols i).length ∧ μ' = sset μ1 p (.lst (((List.range i).flatMap fun i => (List.range (cols i).length).map (v i)) ++ (List.range j).map (v i))), ⟨Nat.zero_le _, by rw [List.range_zero, List.map_nil, List.append_nil]⟩, fun j d1 μ6 hj hw => ?_, fun μ6 hw => ?_⟩, fun z => by cases z⟩
    · obtain ⟨hjl, rfl⟩ := hw
      have hj2 := (List.getElem?_eq_some_iff.mp hj).1
      refine ⟨fun _ => hs i d j d1 _ _ hi2 hj (.set Sub.refl hp) ⟨_, sset_same, ?_, ?_⟩, fun z => by cases z⟩
      · have h1 := hz i (Nat.le_of_lt (List.getElem?_eq_some_iff.mp hi2).1)
        have h2 := hc i
        rw [List.length_append, List.length_map, List.length_range]
        omega
      · refine ⟨hj2, ?_⟩
        rw [sset_sset, List.range_succ, List.map_append, List.append_assoc]
        rfl
    · obtain ⟨_, rfl⟩ := hw
      rw [List.range_succ, List.flatMap_append]
      simp
  · subst e
    refine ⟨_, sset_same, ?_⟩
    rw [sdel_sset hp]
    exact hd
end
end DW
set_option Elab.async false
set_option linter.all false
set_option maxRecDepth 100000
set_option maxHeartbeats 4000000
namespace DW
open PySem PySem.Spec PyProof.Rows L2
def wrap : Bool → List D → D
  | true => .tup
  | false => .lst
def iZM (b1 b2 : Bool) (φ φ' : DE) : DI := fun Ψ δ μ Φ => φ Ψ δ μ fun x μ1 => φ' Ψ δ μ1 fun y μ2 => ∃ xs ys, x = wrap b1 xs ∧ y = wrap b2 ys ∧ Φ ((xs.zip ys).map fun p => .pr [p.1, p.2]) μ2
theorem u_iZM {b1 b2 : Bool} {φ φ' : DE} {Ψ : XP} {δ : DEnv} {μ : Sto} {Φ : List D → Sto → Prop} : iZM b1 b2 φ φ' Ψ δ μ Φ = φ Ψ δ μ fun x μ1 => φ' Ψ δ μ1 fun y μ2 => ∃ xs ys, x = wrap b1 xs ∧ y = wrap b2 ys ∧ Φ ((xs.zip ys).map fun p => .pr [p.1, p.2]) μ2 := rfl
theorem w_zipLT {l t : List D} {P : List D → List D → Prop} : (∃ xs ys, D.lst l = wrap false xs ∧ D.tup t = wrap true ys ∧ P xs ys) = P l t := propext ⟨fun ⟨_, _, e1, e2, q⟩ => by cases e1; cases e2; exact q, fun q => ⟨_, _, rfl, rfl, q⟩⟩
theorem w_zipTL {l t : List D} {P : List D → List D → Prop} : (∃ xs ys, D.tup l = wrap true xs ∧ D.lst t = wrap false ys ∧ P xs ys) = P l t := propext ⟨fun ⟨_, _, e1, e2, q⟩ => by cases e1; cases e2; exact q, fun q => ⟨_, _, rfl, rfl, q⟩⟩
end DW
set_option Elab.async false
set_option linter.all false
set_option maxRecDepth 100000
set_option maxHeartbeats 4000000
namespace DW
open PySem PySem.Spec PyProof.Rows L2
section
variable {K : Fg} {B : Bx K} {ta : TE} {φ : DE} {Ψ : XP} {δ : DEnv} {μ : Sto} {Φ : DK}
def dTupR1 (φ : DE) : DE := fun Ψ δ μ Φ => φ Ψ δ μ fun x μ1 => ∃ j, x = .int j ∧ 0 ≤ j ∧ j ≤ 100000 ∧ Φ (.tup (rngD 0 j.toNat)) μ1
theorem u_tupR1 : dTupR1 φ Ψ δ μ Φ = φ Ψ δ μ fun x μ1 => ∃ j, x = .int j ∧ 0 ≤ j ∧ j ≤ 100000 ∧ Φ (.tup (rngD 0 j.toNat)) μ1 := rfl
end
end DW
set_option Elab.async false
set_option linter.all false
set_option maxRecDepth 100000
set_option maxHeartbeats 4000000
namespace DW
open PySem PySem.Spec PyProof.Rows L2
mutual
def toPy : D → PyData
  | .bl b => .bool b
  | .int i => .int i
  | .str s => .str s
  | .tup ds => .tuple (toPys ds)
  | .lst ds => .list (toPys ds)
  | _ => .none
def toPys : List D → List PyData
  | [] => []
  | d :: ds => toPy d :: toPys ds
end
mutual
/-- what can be compared -/
def eqOk : D → Bool
  | .non => true
  | .bl _ => true
  | .int _ => true
  | .str s => PyData.strOk s
  | .tup ds => eqOks ds
  | .lst ds => eqOks ds
  | _ => false
def eqOks : List D → Bool
  | [] => true
  | d :: ds => eqOk d && eqOks ds
end
mutual
def dpt : D → Nat
  | .tup ds => dpts ds + 1
  | .lst ds => dpts ds + 1
  | _ => 0
def dpts : List D → Nat
  | [] => 0
  | d :: ds => max (dpt d) (dpts ds)
end
mutual
theorem eqOk_lay : ∀ d : D, eqOk d = true → (toPy d).canLay0 = true
  | .non, _ => rfl
  | .bl _, _ => rfl
  | .int _, _ => rfl
  | .str s, h => by simpa [eqOk, toPy, PyData.canLay0] using h
  | .tup ds, h => by simp only [toPy, PyData.canLay0]; exact eqOks_lay ds (by simpa [eqOk] using h)
  | .lst ds, h => by simp only [toPy, PyData.canLay0]; exact eqOks_lay ds (by simpa [eqOk] using h)
  | .pr _, h => by simp [eqOk] at h
  | .obj _ _ _, h => by simp [eqOk] at h
  | .hd _, h => by simp [eqOk] at h
  | .scr _, h => by simp [eqOk] at h
theorem eqOks_lay : ∀ ds : List D, eqOks ds = true → PyData.canLayAll0 (toPys ds) = true
  | [], _ => rfl
  | d :: ds, h => by
    simp only [eqOks, Bool.and_eq_true] at h
    simp only [toPys, PyData.canLayAll0, eqOk_lay d h.1, eqOks_lay ds h.2, Bool.and_self]
end
mutual
theorem dpt_py : ∀ d : D, (toPy d).depth ≤ dpt d + 1
  | .non => by simp [toPy, PyData.depth]
  | .bl _ => by simp [toPy, PyData.depth]
  | .int _ => by simp [toPy, PyData.depth]
  | .str s => by simp [toPy, PyData.depth]
  | .tup ds => by simp only [toPy, PyData.depth, dpt]; have := dpts_py ds; omega
  | .lst ds => by simp only [toPy, PyData.depth, dpt]; have := dpts_py ds; omega
  | .pr _ => by simp [toPy, PyData.depth]
  | .obj _ _ _ => by simp [toPy, PyData.depth]
  | .hd _ => by simp [toPy, PyData.depth]
  | .scr _ => by simp [toPy, PyData.depth]
theorem dpts_py : ∀ ds : List D, PyData.depthAll (toPys ds) ≤ dpts ds + 1
  | [] => by simp [toPys, PyData.depthAll]
  | d :: ds => by
    simp only [toPys, PyData.depthAll, dpts]
    have h1 := dpt_py d
    have h2 := dpts_py ds
    omega
end
theorem shaped_of {d : D} (h : eqOk d = true) (hd : dpt d ≤ 60) : SeqAt.shaped (toPy d) = true := by
  unfold SeqAt.shaped
  rw [eqOk_lay d h, Bool.true_and]
  exact decide_eq_true (by have := dpt_py d; omega)
theorem dp_all {K : Fg} {μ : Sto} {H : Hp} {vs : List V} {ds : List D} (r : Reps K μ H vs ds) : eqOks ds = true → DpAll K H vs (toPys ds) := by
  induction r with
  | nil => intro _; exact .nil
  | non _ ih => intro h; simp only [eqOks, eqOk, Bool.true_and] at h; exact .cons .non (ih h)
  | bl b _ ih => intro h; simp only [eqOks, eqOk, Bool.true_and] at h; exact .cons (.bl b) (ih h)
  | int b _ ih => intro h; simp only [eqOks, eqOk, Bool.true_and] at h; exact .cons (.int b) (ih h)
  | str b _ ih => intro h; simp only [eqOks, Bool.and_eq_true] at h; exact .cons (.str b) (ih h.2)
  | hd v _ ih => intro h; simp [eqOks, eqOk] at h
  | tup h1 _ _ i1 i2 => intro h; simp only [eqOks, eqOk, Bool.and_eq_true] at h; exact .cons (.tup h1.sq (i1 h.1)) (i2 h.2)
  | pr _ _ _ _ _ => intro h; simp [eqOks, eqOk] at h
  | scr _ _ _ => intro h; simp [eqOks, eqOk] at h
  | lst h1 _ _ i1 i2 => intro h; simp only [eqOks, eqOk, Bool.and_eq_true] at h; exact .cons (.lst h1.sq (i1 h.1)) (i2 h.2)
  | obj _ _ _ _ _ _ _ => intro h; simp [eqOks, eqOk] at h
theorem dp_one {K : Fg} {μ : Sto} {H : Hp} {v : V} {d : D} (r : Rep K μ H v d) (h : eqOk d = true) : Dp K H v (toPy d) := by
  have q := dp_all r (by simp only [eqOks, h, Bool.and_self])
  cases q with
  | cons a b => exact a
def eqD (a b : D) : Bool := PyData.eqv (toPy a) (toPy b)
def EqSide (d : D) : Prop := eqOk d = true ∧ dpt d ≤ 60
def oEqD : DO := fun x y μ Φ => EqSide x ∧ EqSide y ∧ Φ (.bl (eqD x y)) μ
theorem roEqD {K : Fg} : RO K (rEqD K) oEqD := fun H μ v w x y Φ Q s r1 r2 q k => by
  obtain ⟨h1, h2, q⟩ := q
  exact ⟨_, _, dp_one r1 h1.1, dp_one r2 h2.1, shaped_of h1.1 h1.2, shaped_of h2.1 h2.2, k _ H _ μ .refl s (.bl _ .nil) q⟩
theorem eqOks_all : ∀ {ds : List D}, (∀ d ∈ ds, eqOk d = true) → eqOks ds = true
  | [], _ => rfl
  | d :: ds, h => by
    simp only [eqOks, Bool.and_eq_true]
    exact ⟨h d List.mem_cons_self, eqOks_all fun x hx => h x (List.mem_cons_of_mem _ hx)⟩
theorem dpts_all {m : Nat} : ∀ {ds : List D}, (∀ d ∈ ds, dpt d ≤ m) → dpts ds ≤ m
  | [], _ => Nat.zero_le _
  | d :: ds, h => by
    simp only [dpts]
    have h1 := h d List.mem_cons_self
    have h2 := dpts_all fun x hx => h x (List.mem_cons_of_mem _ hx)
    omega
theorem eqvAll_map {α : Type} {f : α → D} (hf : ∀ a b, PyData.eqv (toPy (f a)) (toPy (f b)) = true ↔ a = b) : ∀ l m : List α, PyData.eqvAll (toPys (l.map f)) (toPys (m.map f)) = true ↔ l = m
  | [], [] => by simp [toPys, PyData.eqvAll]
  | [], _ :: _ => by simp [toPys, PyData.eqvAll]
  | _ :: _, [] => by simp [toPys, PyData.eqvAll]
  | a :: l, b :: m => by
    simp only [List.map_cons, toPys, PyData.eqvAll, Bool.and_eq_true, hf a b, eqvAll_map hf l m, List.cons.injEq]
theorem eqv_int (a b : Int) : PyData.eqv (toPy (.int a)) (toPy (.int b)) = true ↔ a = b := by simp [toPy, PyData.eqv]
end DW
set_option Elab.async false
set_option linter.all false
set_option maxRecDepth 100000
set_option maxHeartbeats 4000000
namespace DW
open PySem PySem.Spec PyProof.Rows L2
abbrev WN : WX := fun _ _ _ _ => False
theorem passAtN {X : Cx} {P : Program} {w : World} (σ : L2.St) : PassesAt (L2N.CX P w) X σ (WE WN σ) := fun _ _ _ _ _ _ h => by
  obtain ⟨_, _, _, _, _, _, _, _, _, _, _, _, z⟩ := h
  exact z.elim
section
variable {K : Fg} {B : Bx K} {ta : TE} {φ : DE} {tas : TA} {ψ : DA} {Ψ : XP} {δ : DEnv} {μ : Sto} {Φ : DK}
def dMethXN (C : Addr) (NS : List Str) (c : Con) (φ : DE) (ψ : DA) : DE := fun Ψ δ μ Φ => φ Ψ δ μ fun x μ1 => ∃ es, x = .obj C NS es ∧ ψ Ψ δ μ1 fun ds μ2 => c (x :: ds) μ2 Φ fun _ _ => False
def dMakeSN (C : Addr) (c : Con) (ψ : DA) : DE := fun Ψ δ μ Φ => ψ Ψ δ μ fun ds μ1 => ∀ x, μ1 x = none → c (.hd (.ref x) :: ds) (sset μ1 x (.ins C [] [])) (fun d μ2 => d = .non ∧ ∃ ns es, μ2 x = some (.ins C ns es) ∧ Φ (.obj C ns es) (sdel μ2 x)) (fun _ _ => False)
theorem sMakeSN {C : Addr} {c : Con} (a : SA B tas ψ) : SE B (tMakeS C (spOf K c) (WE WN) tas) (dMakeSN C c ψ) := fun σ H δ μ Φ Q S q k =>
  a σ H δ μ _ _ S q fun vs H1 xs μ1 S1 e1 r1 q1 x dx hx hdx hne => by
    have hx' : upd H1 dx (.own x) x = none := by rw [upd_ne (Ne.symm hne)]; exact hx
    have ev0 : Evo μ1 H1 μ1 (upd H1 dx (.own x)) := .new hdx
    have st0 : StoOk K μ1 (upd H1 dx (.own x)) := S1.sto.new hdx
    have ev1 : Evo μ1 (upd H1 dx (.own x)) (sset μ1 x (.ins C [] [])) (upd (upd H1 dx (.own x)) x (.ins C dx [])) := .newC st0 hx'
    have st1 : StoOk K (sset μ1 x (.ins C [] [])) (upd (upd H1 dx (.own x)) x (.ins C dx [])) := st0.cell ev1 ⟨dx, [], upd_same, rfl, .nil⟩
    have ev := ev0.trans ev1
    refine ⟨sset μ1 x (.ins C [] []), .hd (.ref x) :: xs, _, _, st1, .hd _ (r1.mono ev), q1 x (S1.sto.fresh hx), fun v H' d μ' e s r ⟨hd, ns, es, hc, hq⟩ => ?_, fun cls dd H' y μ' e s rx hΨ => hΨ.elim⟩
    subst hd
    obtain rfl := Rep.non_inv r
    refine ⟨rfl, ?_⟩
    obtain ⟨dx', us, hH, hl, hr⟩ := s x _ hc
    have sb : Sub (sdel μ' x) μ' := sdel_sub
    have e2 : Evo μ' H' (sdel μ' x) H' := sb.evo
    exact k _ H' _ (sdel μ' x) (S1.step (ev.trans (e.trans e2)) (sb.sto s)) (e1.trans (ev.trans (e.trans e2))) (.obj hH (NM.of sdel_same) hl (hr.mono e2) .nil) hq
theorem u_methXN {C : Addr} {NS : List Str} {c : Con} : dMethXN C NS c φ ψ Ψ δ μ Φ = φ Ψ δ μ fun x μ1 => ∃ es, x = .obj C NS es ∧ ψ Ψ δ μ1 fun ds μ2 => c (x :: ds) μ2 Φ fun _ _ => False := rfl
theorem u_makeSN {C : Addr} {c : Con} : dMakeSN C c ψ Ψ δ μ Φ = ψ Ψ δ μ fun ds μ1 => ∀ x, μ1 x = none → c (.hd (.ref x) :: ds) (sset μ1 x (.ins C [] [])) (fun d μ2 => d = .non ∧ ∃ ns es, μ2 x = some (.ins C ns es) ∧ Φ (.obj C ns es) (sdel μ2 x)) (fun _ _ => False) := rfl
end
theorem w_neB {b c : Bool} {μ : Sto} {Φ : DK} : oNe (.bl b) (.bl c) μ Φ = Φ (.bl (!decide (b = c))) μ := w_someb
end DW
set_option Elab.async false
set_option linter.all false
set_option maxRecDepth 100000
set_option maxHeartbeats 4000000
namespace DW
open PySem PySem.Spec PyProof.Rows L2
section
variable {K : Fg} {B : Bx K} {ta tb : TE} {φ φ2 : DE} {Ψ : XP} {δ : DEnv} {μ : Sto} {Φ : DK} {W : WX}
def dBinX (C : Addr) (NS : List Str) (c : Con) (φ φ2 : DE) : DE := fun Ψ δ μ Φ => φ Ψ δ μ fun x μ1 => φ2 Ψ δ μ1 fun y μ2 => ∃ es fs, x = .obj C NS es ∧ y = .obj C NS fs ∧ c [x, y] μ2 (fun d μ3 => (∃ C' NS' es', d = .obj C' NS' es') ∧ Φ d μ3) fun z μ3 => Ψ z δ μ3
def dInvX (C : Addr) (NS : List Str) (c : Con) (φ : DE) : DE := fun Ψ δ μ Φ => φ Ψ δ μ fun x μ1 => ∃ es, x = .obj C NS es ∧ c [x] μ1 Φ fun z μ3 => Ψ z δ μ3
theorem u_binX {C : Addr} {NS : List Str} {c : Con} : dBinX C NS c φ φ2 Ψ δ μ Φ = φ Ψ δ μ fun x μ1 => φ2 Ψ δ μ1 fun y μ2 => ∃ es fs, x = .obj C NS es ∧ y = .obj C NS fs ∧ c [x, y] μ2 (fun d μ3 => (∃ C' NS' es', d = .obj C' NS' es') ∧ Φ d μ3) fun z μ3 => Ψ z δ μ3 := rfl
theorem u_invX {C : Addr} {NS : List Str} {c : Con} : dInvX C NS c φ Ψ δ μ Φ = φ Ψ δ μ fun x μ1 => ∃ es, x = .obj C NS es ∧ c [x] μ1 Φ fun z μ3 => Ψ z δ μ3 := rfl
end
end DW
set_option Elab.async false
set_option linter.all false
set_option maxRecDepth 100000
set_option Elab.async false
set_option linter.all false
set_option maxRecDepth 100000
set_option maxHeartbeats 4000000
namespace DW
open PySem PySem.Spec PyProof.Rows L2
section
variable {K : Fg} {B : Bx K} {ta tb : TE} {φ φ2 : DE} {Ψ : XP} {δ : DEnv} {μ : Sto} {Φ : DK} {W : WX}
def dGetX (C : Addr) (NS : List Str) (c : Con) (φ φ2 : DE) : DE := fun Ψ δ μ Φ => φ Ψ δ μ fun x μ1 => φ2 Ψ δ μ1 fun y μ2 => ∃ es, x = .obj C NS es ∧ c [x, y] μ2 Φ fun z μ3 => Ψ z δ μ3
theorem u_getX {C : Addr} {NS : List Str} {c : Con} : dGetX C NS c φ φ2 Ψ δ μ Φ = φ Ψ δ μ fun x μ1 => φ2 Ψ δ μ1 fun y μ2 => ∃ es, x = .obj C NS es ∧ c [x, y] μ2 Φ fun z μ3 => Ψ z δ μ3 := rfl
end
end DW
set_option Elab.async false
set_option linter.all false
set_option maxRecDepth 100000
set_option maxHeartbeats 4000000
namespace DW
open PySem PySem.Spec PyProof.Rows PySem.Calls L2
section
variable {K : Fg} {B : Bx K} {tas : TA} {ψ : DA} {Ψ : XP} {δ : DEnv} {μ : Sto} {Φ : DK} {W : WX}
def dCallX (C : Addr) (NS : List Str) (i : Nat) (c : Con) (ψ : DA) : DE := fun Ψ δ μ Φ => ∃ es, δ[i]? = some (some (.obj C NS es)) ∧ ψ Ψ δ μ fun ds μ1 => c (.obj C NS es :: ds) μ1 Φ fun y μ2 => Ψ y δ μ2
theorem u_callX {C : Addr} {NS : List Str} {i : Nat} {c : Con} : dCallX C NS i c ψ Ψ δ μ Φ = ∃ es, δ[i]? = some (some (.obj C NS es)) ∧ ψ Ψ δ μ fun ds μ1 => c (.obj C NS es :: ds) μ1 Φ fun y μ2 => Ψ y δ μ2 := rfl
end
end DW
set_option Elab.async false
set_option linter.all false
set_option maxRecDepth 100000
set_option maxHeartbeats 4000000
namespace DW
open PySem PySem.Spec PyProof.Rows L2
section
variable {K : Fg} {B : Bx K} {ta tb : TE} {φ φ2 : DE} {Ψ : XP} {δ : DEnv} {μ : Sto} {Φ : DK} {W : WX}
def dBinXI (C : Addr) (NS : List Str) (c : Con) (φ φ2 : DE) : DE := fun Ψ δ μ Φ => φ Ψ δ μ fun x μ1 => φ2 Ψ δ μ1 fun y μ2 => ∃ es j, x = .obj C NS es ∧ y = .int j ∧ c [x, y] μ2 (fun d μ3 => (∃ C' NS' es', d = .obj C' NS' es') ∧ Φ d μ3) fun z μ3 => Ψ z δ μ3
theorem u_binXI {C : Addr} {NS : List Str} {c : Con} : dBinXI C NS c φ φ2 Ψ δ μ Φ = φ Ψ δ μ fun x μ1 => φ2 Ψ δ μ1 fun y μ2 => ∃ es j, x = .obj C NS es ∧ y = .int j ∧ c [x, y] μ2 (fun d μ3 => (∃ C' NS' es', d = .obj C' NS' es') ∧ Φ d μ3) fun z μ3 => Ψ z δ μ3 := rfl
def cSum : DC := fun xs μ Φ => ∃ (x : D) (ns : List Int), xs = [x] ∧ Items μ x (ns.map .int) ∧ isTup x = false ∧ Φ (.int ns.sum) μ
theorem rcSum : RC K (rSum K) cSum := fun H μ vs ds Φ Q s r q k => by
  obtain ⟨x, ns, rfl, hi, ht, q⟩ := q
  obtain ⟨v, rfl, r1⟩ := reps1 r
  obtain ⟨a, us, rfl, h1, h2⟩ := hi.okL s r1 ht
  have e := reps_intsV h2
  subst e
  exact ⟨a, ns, rfl, h1, k _ H _ μ .refl s (.int _ .nil) q⟩
theorem w_sumL {ns : List Int} (h : Φ (.int ns.sum) μ) : cSum [.lst (ns.map .int)] μ Φ := ⟨_, ns, rfl, .lst _, rfl, h⟩
def dRestF (i : Nat) : DE := fun _ δ μ Φ => ∃ a ds, δ[i]? = some (some (.hd (.ref a))) ∧ ((μ a = some (.lst ds) ∧ Φ (.lst ds) (sset μ a (.frz ds))) ∨ (μ a = some (.frz ds) ∧ Φ (.lst ds) μ))
theorem u_restF {i : Nat} : dRestF i Ψ δ μ Φ = ∃ a ds, δ[i]? = some (some (.hd (.ref a))) ∧ ((μ a = some (.lst ds) ∧ Φ (.lst ds) (sset μ a (.frz ds))) ∨ (μ a = some (.frz ds) ∧ Φ (.lst ds) μ)) := rfl
end
end DW
set_option Elab.async false
set_option linter.all false
set_option maxRecDepth 100000
set_option maxHeartbeats 4000000
namespace DW
open PySem PySem.Spec PyProof.Rows L2
end DW
set_option Elab.async false
set_option linter.all false
set_option maxRecDepth 100000
set_option maxHeartbeats 4000000
namespace DW
open PySem PySem.Spec PyProof.Rows L2
end DW
set_option Elab.async false
set_option linter.all false
set_option maxRecDepth 100000
namespace DW
open PySem PySem.Spec PyProof.Rows L2
section
variable {K : Fg} {B : Bx K}
def dStar (φ : DE) (ψ : DA) : DA := fun Ψ δ μ Φ => φ Ψ δ μ fun x μ1 => ∃ ds, x = .tup ds ∧ ψ Ψ δ μ1 fun xs μ2 => Φ (ds ++ xs) μ2
theorem u_star {φ : DE} {ψ : DA} {Ψ : XP} {δ : DEnv} {μ : Sto} {Φ : List D → Sto → Prop} : dStar φ ψ Ψ δ μ Φ = φ Ψ δ μ fun x μ1 => ∃ ds, x = .tup ds ∧ ψ Ψ δ μ1 fun xs μ2 => Φ (ds ++ xs) μ2 := rfl
def dRev2L (φ : DE) : DE := fun Ψ δ μ Φ => φ Ψ δ μ fun x μ1 => ∃ ds, Items μ1 x ds ∧ isTup x = false ∧ ds ≠ [] ∧ Φ (.lst ds.dropLast.reverse) μ1
theorem u_rev2L {φ : DE} {Ψ : XP} {δ : DEnv} {μ : Sto} {Φ : DK} : dRev2L φ Ψ δ μ Φ = φ Ψ δ μ fun x μ1 => ∃ ds, Items μ1 x ds ∧ isTup x = false ∧ ds ≠ [] ∧ Φ (.lst ds.dropLast.reverse) μ1 := rfl
end
section
variable {K : Fg} {B : Bx K}
def dCallR (n : Nat) (c : Con) (ψ : DA) : DE := fun Ψ δ μ Φ => ψ Ψ δ μ fun xs μ1 => n ≤ xs.length ∧ xs.length ≤ 100000 ∧ c (xs.take n ++ [.tup (xs.drop n)]) μ1 Φ fun x μ2 => Ψ x δ μ2
theorem u_callR {n : Nat} {c : Con} {ψ : DA} {Ψ : XP} {δ : DEnv} {μ : Sto} {Φ : DK} : dCallR n c ψ Ψ δ μ Φ = ψ Ψ δ μ fun xs μ1 => n ≤ xs.length ∧ xs.length ≤ 100000 ∧ c (xs.take n ++ [.tup (xs.drop n)]) μ1 Φ fun x μ2 => Ψ x δ μ2 := rfl
end
end DW
set_option Elab.async false
set_option linter.all false
set_option maxRecDepth 100000
namespace LW
open PySem PySem.Spec L2 DW
theorem seq_cut {ω ζ : DSt} {Ψ : XP} {Δ : DEnds} {δ : DEnv} {μ : Sto} (h : ∀ M, M = ζ Ψ Δ → ω Ψ { Δ with nx := M } δ μ) : dSeq ω ζ Ψ Δ δ μ := h _ rfl
end LW
set_option Elab.async false
set_option linter.all false
set_option maxRecDepth 100000
namespace LW
open PySem PySem.Spec L2 DW
inductive QT where
  | tell (o : Nat)
  | look (p : Nat) (ts : List QT)
def NS_Query : List Str := ["term", "widths", "outcomes"]
mutual
def qD : QT → D
  | .tell o => .tup [.str "tell", .int (o : Int)]
  | .look p ts => .tup (.str "look" :: .int (p : Int) :: qDs ts)
def qDs : List QT → List D
  | [] => []
  | t :: ts => qD t :: qDs ts
end
theorem qDs_map : ∀ ts : List QT, qDs ts = ts.map qD
  | [] => rfl
  | t :: ts => by rw [qDs, qDs_map ts]; rfl
theorem qDs_len (ts : List QT) : (qDs ts).length = ts.length := by rw [qDs_map, List.length_map]
/-- the width of a place -/
def wd (ws : List Int) (p : Nat) : Nat := (ws.getD (p % ws.length) 0).toNat
structure WsOk (ws : List Int) : Prop where
  l0 : 1 ≤ ws.length
  l1 : ws.length ≤ 6
  w : ∀ x ∈ ws, 1 ≤ x ∧ x ≤ 4
theorem WsOk.at_ {ws : List Int} (h : WsOk ws) (p : Nat) : ∃ x, ws[p % ws.length]? = some x ∧ x = (wd ws p : Int) ∧ 1 ≤ x ∧ x ≤ 4 := by
  have hp : p % ws.length < ws.length := Nat.mod_lt _ (by have := h.l0; omega)
  have hx := h.w _ (List.getElem_mem hp)
  refine ⟨ws[p % ws.length], List.getElem?_eq_getElem hp, ?_, hx⟩
  unfold wd
  rw [List.getD_eq_getElem?_getD, List.getElem?_eq_getElem hp]
  simp only [Option.getD_some]
  omega
theorem WsOk.wd1 {ws : List Int} (h : WsOk ws) (p : Nat) : 1 ≤ wd ws p ∧ wd ws p ≤ 4 := by
  obtain ⟨x, _, e, h1, h2⟩ := h.at_ p
  omega
mutual
def QOk (ws : List Int) (oc : Nat) : QT → Prop
  | .tell o => o < oc
  | .look p ts => p < 100 ∧ ts.length = wd ws p ∧ QOks ws oc ts
def QOks (ws : List Int) (oc : Nat) : List QT → Prop
  | [] => True
  | t :: ts => QOk ws oc t ∧ QOks ws oc ts
end
theorem qoks_iff {ws : List Int} {oc : Nat} : ∀ {ts : List QT}, QOks ws oc ts ↔ ∀ t ∈ ts, QOk ws oc t
  | [] => by simp [QOks]
  | t :: ts => by rw [QOks, qoks_iff (ts := ts)]; simp
/-- how many looks inside of one another -/
def qDep : QT → Nat
  | .tell _ => 0
  | .look _ ts => qDeps ts + 1
where qDeps : List QT → Nat
  | [] => 0
  | t :: ts => max (qDep t) (qDeps ts)
theorem qdeps_le {t : QT} : ∀ {ts : List QT}, t ∈ ts → qDep t ≤ qDep.qDeps ts
  | s :: ts, h => by
    rw [qDep.qDeps]
    rcases List.mem_cons.mp h with e | e
    · subst e; omega
    · have := qdeps_le e; omega
/-- the places, look by look -/
def qPl : QT → List Nat
  | .tell _ => []
  | .look p ts => p :: qPls ts
where qPls : List QT → List Nat
  | [] => []
  | t :: ts => qPl t ++ qPls ts
theorem qpls_flat : ∀ ts : List QT, qPl.qPls ts = ts.flatMap qPl
  | [] => rfl
  | t :: ts => by rw [qPl.qPls, qpls_flat ts, List.flatMap_cons]
theorem qpls_mem {ts : List QT} {q : Nat} : q ∈ qPl.qPls ts ↔ ∃ t ∈ ts, q ∈ qPl t := by rw [qpls_flat, List.mem_flatMap]
theorem qpls_len {t : QT} : ∀ {ts : List QT}, t ∈ ts → (qPl t).length ≤ (qPl.qPls ts).length
  | s :: ts, h => by
    rw [qPl.qPls, List.length_append]
    rcases List.mem_cons.mp h with e | e
    · subst e; omega
    · have := qpls_len e; omega
/-- what is told on a way -/
def qA (f : Nat → Nat) : QT → Nat
  | .tell o => o
  | .look p ts => (qAs f ts).getD (f p) 0
where qAs (f : Nat → Nat) : List QT → List Nat
  | [] => []
  | t :: ts => qA f t :: qAs f ts
theorem qas_map {f : Nat → Nat} : ∀ ts : List QT, qA.qAs f ts = ts.map (qA f)
  | [] => rfl
  | t :: ts => by rw [qA.qAs, qas_map ts]; rfl
theorem qA_look {f : Nat → Nat} {p : Nat} {ts : List QT} {t : QT} (h : ts[f p]? = some t) : qA f (.look p ts) = qA f t := by
  rw [qA, qas_map, List.getD_eq_getElem?_getD, List.getElem?_map, h]; rfl
/-- a place fixed -/
def qFx (m o : Nat) : QT → QT
  | .tell x => .tell x
  | .look p ts => if p = m then (qFxs m o ts).getD o (.tell 0) else .look p (qFxs m o ts)
where qFxs (m o : Nat) : List QT → List QT
  | [] => []
  | t :: ts => qFx m o t :: qFxs m o ts
theorem qfxs_map {m o : Nat} : ∀ ts : List QT, qFx.qFxs m o ts = ts.map (qFx m o)
  | [] => rfl
  | t :: ts => by rw [qFx.qFxs, qfxs_map ts]; rfl
theorem qFx_at {m o : Nat} {ts : List QT} {t : QT} (h : ts[o]? = some t) : qFx m o (.look m ts) = qFx m o t := by
  rw [qFx, if_pos rfl, qfxs_map, List.getD_eq_getElem?_getD, List.getElem?_map, h]; rfl
theorem qFx_ne {m o p : Nat} {ts : List QT} (h : p ≠ m) : qFx m o (.look p ts) = .look p (ts.map (qFx m o)) := by rw [qFx, if_neg h, qfxs_map]
/-- a way of proving for all terms -/
theorem QT.ind {P : QT → Prop} (h1 : ∀ o, P (.tell o)) (h2 : ∀ p ts, (∀ t ∈ ts, P t) → P (.look p ts)) (t : QT) : P t :=
  QT.rec (motive_1 := P) (motive_2 := fun ts => ∀ t ∈ ts, P t) h1 h2 (by simp) (fun t ts a b => by simpa using ⟨a, b⟩) t
section
variable {ws : List Int} {oc m o : Nat}
theorem qFx_ok (hm : o < wd ws m) : ∀ t, QOk ws oc t → QOk ws oc (qFx m o t) := fun t => by
  induction t using QT.ind with
  | h1 x => intro h; exact h
  | h2 p ts ih =>
    intro h
    obtain ⟨hp, hl, ht⟩ := h
    rw [qoks_iff] at ht
    by_cases e : p = m
    · subst e
      have ho : o < ts.length := by omega
      rw [qFx_at (List.getElem?_eq_getElem ho)]
      exact ih _ (List.getElem_mem ho) (ht _ (List.getElem_mem ho))
    · rw [qFx_ne e]
      refine ⟨hp, by rw [List.length_map]; exact hl, qoks_iff.mpr fun t h => ?_⟩
      obtain ⟨s, hs, rfl⟩ := List.mem_map.mp h
      exact ih s hs (ht s hs)
theorem qFx_ans {f : Nat → Nat} (hm : o < wd ws m) (hf : ∀ p, f p < wd ws p) : ∀ t, QOk ws oc t → qA f (qFx m o t) = qA (fun p => if p = m then o else f p) t := fun t => by
  induction t using QT.ind with
  | h1 x => intro h; rfl
  | h2 p ts ih =>
    intro h
    obtain ⟨hp, hl, ht⟩ := h
    rw [qoks_iff] at ht
    by_cases e : p = m
    · subst e
      have ho : o < ts.length := by omega
      rw [qFx_at (List.getElem?_eq_getElem ho), ih _ (List.getElem_mem ho) (ht _ (List.getElem_mem ho))]
      refine (qA_look ?_).symm
      rw [if_pos rfl]
      exact List.getElem?_eq_getElem ho
    · rw [qFx_ne e]
      have ho : f p < ts.length := by have := hf p; omega
      rw [qA_look (t := qFx m o ts[f p]) (by rw [List.getElem?_map, List.getElem?_eq_getElem ho]; rfl), ih _ (List.getElem_mem ho) (ht _ (List.getElem_mem ho))]
      refine (qA_look ?_).symm
      rw [if_neg e]
      exact List.getElem?_eq_getElem ho
theorem qFx_pl (hm : o < wd ws m) : ∀ t, QOk ws oc t → ∀ q ∈ qPl (qFx m o t), q ∈ qPl t ∧ q ≠ m := fun t => by
  induction t using QT.ind with
  | h1 x => intro h q hq; simp [qFx, qPl] at hq
  | h2 p ts ih =>
    intro h q hq
    obtain ⟨hp, hl, ht⟩ := h
    rw [qoks_iff] at ht
    rw [qPl]
    by_cases e : p = m
    · subst e
      have ho : o < ts.length := by omega
      rw [qFx_at (List.getElem?_eq_getElem ho)] at hq
      obtain ⟨h1, h2⟩ := ih _ (List.getElem_mem ho) (ht _ (List.getElem_mem ho)) q hq
      exact ⟨List.mem_cons_of_mem _ (qpls_mem.mpr ⟨_, List.getElem_mem ho, h1⟩), h2⟩
    · rw [qFx_ne e, qPl] at hq
      rcases List.mem_cons.mp hq with e2 | e2
      · subst e2; exact ⟨List.mem_cons_self, e⟩
      · obtain ⟨s, hs, hq2⟩ := qpls_mem.mp e2
        obtain ⟨t, ht2, rfl⟩ := List.mem_map.mp hs
        obtain ⟨h1, h2⟩ := ih t ht2 (ht t ht2) q hq2
        exact ⟨List.mem_cons_of_mem _ (qpls_mem.mpr ⟨t, ht2, h1⟩), h2⟩
theorem qpls_map_le {g : QT → QT} : ∀ ts : List QT, (∀ t ∈ ts, (qPl (g t)).length ≤ (qPl t).length) → (qPl.qPls (ts.map g)).length ≤ (qPl.qPls ts).length
  | [], _ => Nat.le_refl _
  | t :: ts, h => by
    rw [List.map_cons, qPl.qPls, qPl.qPls, List.length_append, List.length_append]
    have h1 := h t List.mem_cons_self
    have h2 := qpls_map_le ts fun s hs => h s (List.mem_cons_of_mem _ hs)
    omega
theorem qFx_len (hm : o < wd ws m) : ∀ t, QOk ws oc t → (qPl (qFx m o t)).length ≤ (qPl t).length := fun t => by
  induction t using QT.ind with
  | h1 x => intro h; exact Nat.le_refl _
  | h2 p ts ih =>
    intro h
    obtain ⟨hp, hl, ht⟩ := h
    rw [qoks_iff] at ht
    by_cases e : p = m
    · subst e
      have ho : o < ts.length := by omega
      rw [qFx_at (List.getElem?_eq_getElem ho), qPl, List.length_cons]
      have h1 := ih _ (List.getElem_mem ho) (ht _ (List.getElem_mem ho))
      have h2 := qpls_len (List.getElem_mem ho)
      omega
    · rw [qFx_ne e, qPl, qPl, List.length_cons, List.length_cons]
      have := qpls_map_le (g := qFx m o) ts fun t h => ih t h (ht t h)
      omega
theorem qFx_dep : ∀ t, QOk ws oc t → o < wd ws m → qDep (qFx m o t) ≤ qDep t := fun t => by
  induction t using QT.ind with
  | h1 x => intro h _; exact Nat.le_refl _
  | h2 p ts ih =>
    intro h hm
    obtain ⟨hp, hl, ht⟩ := h
    rw [qoks_iff] at ht
    by_cases e : p = m
    · subst e
      have ho : o < ts.length := by omega
      rw [qFx_at (List.getElem?_eq_getElem ho), qDep]
      have h1 := ih _ (List.getElem_mem ho) (ht _ (List.getElem_mem ho)) hm
      have h2 := qdeps_le (List.getElem_mem ho)
      omega
    · rw [qFx_ne e, qDep, qDep]
      have : ∀ us : List QT, (∀ t ∈ us, qDep (qFx m o t) ≤ qDep t) → qDep.qDeps (us.map (qFx m o)) ≤ qDep.qDeps us := fun us => by
        induction us with
        | nil => intro _; exact Nat.le_refl _
        | cons u us ih2 =>
          intro h
          rw [List.map_cons, qDep.qDeps, qDep.qDeps]
          have h1 := h u List.mem_cons_self
          have h2 := ih2 fun t ht => h t (List.mem_cons_of_mem _ ht)
          omega
      have := this ts fun t h => ih t h (ht t h) hm
      omega
end
section
variable {ws : List Int} {oc m o : Nat}
theorem qpls_map_lt {g : QT → QT} {t0 : QT} : ∀ ts : List QT, (∀ t ∈ ts, (qPl (g t)).length ≤ (qPl t).length) → t0 ∈ ts → (qPl (g t0)).length < (qPl t0).length → (qPl.qPls (ts.map g)).length < (qPl.qPls ts).length
  | [], _, z, _ => by cases z
  | t :: ts, h, hm, hl => by
    rw [List.map_cons, qPl.qPls, qPl.qPls, List.length_append, List.length_append]
    have h1 := h t List.mem_cons_self
    have h2 := qpls_map_le (g := g) ts fun s hs => h s (List.mem_cons_of_mem _ hs)
    rcases List.mem_cons.mp hm with e | e
    · subst e; omega
    · have := qpls_map_lt ts (fun s hs => h s (List.mem_cons_of_mem _ hs)) e hl
      omega
theorem qFx_lt (hm : o < wd ws m) : ∀ t, QOk ws oc t → m ∈ qPl t → (qPl (qFx m o t)).length < (qPl t).length := fun t => by
  induction t using QT.ind with
  | h1 x => intro h q; simp [qPl] at q
  | h2 p ts ih =>
    intro h q
    have hh := h
    obtain ⟨hp, hl, ht⟩ := h
    rw [qoks_iff] at ht
    by_cases e : p = m
    · subst e
      have ho : o < ts.length := by omega
      rw [qFx_at (List.getElem?_eq_getElem ho), qPl, List.length_cons]
      have h1 := qFx_len hm _ (ht _ (List.getElem_mem ho))
      have h2 := qpls_len (List.getElem_mem ho)
      omega
    · rw [qFx_ne e, qPl, qPl, List.length_cons, List.length_cons]
      rw [qPl] at q
      rcases List.mem_cons.mp q with e2 | e2
      · exact absurd e2.symm e
      · obtain ⟨t, ht2, hq⟩ := qpls_mem.mp e2
        have := qpls_map_lt (g := qFx m o) (t0 := t) ts (fun t h => qFx_len hm t (ht t h)) ht2 (ih t ht2 (ht t ht2) hq)
        omega
/-- the least of numbers -/
def qMin : List Nat → Nat
  | [] => 0
  | [x] => x
  | x :: y :: l => min x (qMin (y :: l))
theorem qMin_mem : ∀ {l : List Nat}, l ≠ [] → qMin l ∈ l
  | [x], _ => List.mem_cons_self
  | x :: y :: l, _ => by
    rw [qMin]
    have h := qMin_mem (l := y :: l) (by simp)
    by_cases e : x ≤ qMin (y :: l)
    · rw [Nat.min_eq_left e]; exact List.mem_cons_self
    · rw [Nat.min_eq_right (by omega)]; exact List.mem_cons_of_mem _ h
theorem qMin_le : ∀ {l : List Nat} {z : Nat}, z ∈ l → qMin l ≤ z
  | [x], z, h => by simp at h; subst h; exact Nat.le_refl _
  | x :: y :: l, z, h => by
    rw [qMin]
    rcases List.mem_cons.mp h with e | e
    · subst e; omega
    · have := qMin_le e; omega
theorem qMin_eq {l : List Nat} (h : m ∈ l) (hl : ∀ z ∈ l, m ≤ z) : qMin l = m := by
  have h1 := qMin_le h
  have h2 := hl _ (qMin_mem (l := l) (fun e => by rw [e] at h; cases h))
  omega
open Classical in
/-- the parts of a place put together -/
noncomputable def joinP (m : Nat) (parts : List QT) : QT := if ∀ q ∈ parts, q = parts.headD (.tell 0) then parts.headD (.tell 0) else .look m parts
/-- a settled term -/
noncomputable def qSt (ws : List Int) : Nat → QT → QT
  | 0, t => t
  | _ + 1, .tell o => .tell o
  | n + 1, .look p ts => joinP (qMin (qPl (.look p ts))) ((List.range (wd ws (qMin (qPl (.look p ts))))).map fun i => qSt ws n (qFx (qMin (qPl (.look p ts))) i (.look p ts)))
mutual
def IsS (ws : List Int) (oc : Nat) : Nat → QT → Prop
  | _, .tell o => o < oc
  | lo, .look p ts => lo ≤ p ∧ p < 100 ∧ ts.length = wd ws p ∧ (¬ ∀ q ∈ ts, q = ts.headD (.tell 0)) ∧ IsSs ws oc (p + 1) ts
def IsSs (ws : List Int) (oc : Nat) : Nat → List QT → Prop
  | _, [] => True
  | lo, t :: ts => IsS ws oc lo t ∧ IsSs ws oc lo ts
end
theorem iss_iff {lo : Nat} : ∀ {ts : List QT}, IsSs ws oc lo ts ↔ ∀ t ∈ ts, IsS ws oc lo t
  | [] => by simp [IsSs]
  | t :: ts => by rw [IsSs, iss_iff (ts := ts)]; simp
theorem IsS.mono {lo lo' : Nat} (h : lo' ≤ lo) : ∀ {t : QT}, IsS ws oc lo t → IsS ws oc lo' t
  | .tell o, q => by rw [IsS] at q ⊢; exact q
  | .look p ts, q => by rw [IsS] at q ⊢; exact ⟨by omega, q.2⟩
theorem IsS.ok : ∀ (t : QT) {lo : Nat}, IsS ws oc lo t → QOk ws oc t := fun t => by
  induction t using QT.ind with
  | h1 x => intro lo h; rw [IsS] at h; exact h
  | h2 p ts ih =>
    intro lo h
    rw [IsS] at h
    obtain ⟨_, h1, h2, _, h3⟩ := h
    exact ⟨h1, h2, qoks_iff.mpr fun t ht => ih t ht (iss_iff.mp h3 t ht)⟩
theorem IsS.pl : ∀ (t : QT) {lo : Nat}, IsS ws oc lo t → ∀ q ∈ qPl t, lo ≤ q := fun t => by
  induction t using QT.ind with
  | h1 x => intro lo h q hq; simp [qPl] at hq
  | h2 p ts ih =>
    intro lo h q hq
    rw [IsS] at h
    obtain ⟨h0, h1, h2, _, h3⟩ := h
    rw [qPl] at hq
    rcases List.mem_cons.mp hq with e | e
    · subst e; exact h0
    · obtain ⟨t, ht, hq2⟩ := qpls_mem.mp e
      have := ih t ht (iss_iff.mp h3 t ht) q hq2
      omega
theorem qSt_ok (hw : WsOk ws) : ∀ (n : Nat) (t : QT) (lo : Nat), QOk ws oc t → (qPl t).length ≤ n → (∀ p ∈ qPl t, lo ≤ p) →
    IsS ws oc lo (qSt ws n t) ∧ (∀ q ∈ qPl (qSt ws n t), q ∈ qPl t) ∧ ∀ f : Nat → Nat, (∀ p, f p < wd ws p) → qA f (qSt ws n t) = qA f t := fun n => by
  induction n with
  | zero =>
    intro t lo h hl hp
    cases t with
    | tell x => exact ⟨by rw [qSt, IsS]; exact h, fun _ q => q, fun _ _ => rfl⟩
    | look p ts => rw [qPl, List.length_cons] at hl; omega
  | succ n ih =>
    intro t lo h hl hp
    cases t with
    | tell x => exact ⟨by rw [qSt, IsS]; exact h, fun _ q => by rw [qSt] at q; exact q, fun _ _ => rfl⟩
    | look p ts =>
      rw [qSt]
      generalize ht : QT.look p ts = t at *
      have hne : qPl t ≠ [] := by rw [← ht, qPl]; simp
      have hm := qMin_mem hne
      generalize hmm : qMin (qPl t) = m at *
      have hm1 : ∀ z ∈ qPl t, m ≤ z := fun z hz => by rw [← hmm]; exact qMin_le hz
      have hlo := hp m hm
      have hm100 : m < 100 := by
        have : ∀ t : QT, QOk ws oc t → ∀ q ∈ qPl t, q < 100 := fun t => by
          induction t using QT.ind with
          | h1 x => intro h q hq; simp [qPl] at hq
          | h2 p ts ih2 =>
            intro h q hq
            obtain ⟨hp, hl, ht⟩ := h
            rw [qoks_iff] at ht
            rw [qPl] at hq
            rcases List.mem_cons.mp hq with e | e
            · subst e; exact hp
            · obtain ⟨t, ht2, hq2⟩ := qpls_mem.mp e
              exact ih2 t ht2 (ht t ht2) q hq2
        exact this t h m hm
      have I : ∀ i, i < wd ws m → IsS ws oc (m + 1) (qSt ws n (qFx m i t)) ∧ (∀ q ∈ qPl (qSt ws n (qFx m i t)), q ∈ qPl t) ∧ ∀ f : Nat → Nat, (∀ p, f p < wd ws p) → f m = i → qA f (qSt ws n (qFx m i t)) = qA f t := fun i hi => by
        have hlt := qFx_lt hi t h hm
        obtain ⟨a, b, c⟩ := ih (qFx m i t) (m + 1) (qFx_ok hi t h) (by omega) (fun q hq => by
          obtain ⟨x, y⟩ := qFx_pl hi t h q hq
          have := hm1 q x
          omega)
        refine ⟨a, fun q hq => (qFx_pl hi t h q (b q hq)).1, fun f hf e => ?_⟩
        rw [c f hf, qFx_ans hi hf t h]
        congr 1
        funext p
        by_cases ep : p = m
        · rw [if_pos ep, ep, e]
        · rw [if_neg ep]
      have hw1 := hw.wd1 m
      generalize hps : ((List.range (wd ws m)).map fun i => qSt ws n (qFx m i t)) = parts
      have hpl : parts.length = wd ws m := by rw [← hps, List.length_map, List.length_range]
      have hat : ∀ i, i < wd ws m → parts[i]? = some (qSt ws n (qFx m i t)) := fun i hi => by rw [← hps, List.getElem?_map, List.getElem?_range hi]; rfl
      have hmem : ∀ s ∈ parts, ∃ i, i < wd ws m ∧ s = qSt ws n (qFx m i t) := fun s hs => by
        rw [← hps] at hs
        obtain ⟨i, hi, rfl⟩ := List.mem_map.mp hs
        exact ⟨i, List.mem_range.mp hi, rfl⟩
      unfold joinP
      split
      · rename_i hall
        have h0 : parts.headD (.tell 0) = qSt ws n (qFx m 0 t) := by
          have := hat 0 (by omega)
          cases parts with
          | nil => simp at this
          | cons a l => simpa using this
        rw [h0] at hall ⊢
        obtain ⟨a, b, c⟩ := I 0 (by omega)
        refine ⟨a.mono (by omega), b, fun f hf => ?_⟩
        have e := hall _ (List.mem_of_getElem? (hat (f m) (hf m)))
        rw [← e]
        exact (I (f m) (hf m)).2.2 f hf rfl
      · rename_i hall
        refine ⟨?_, fun q hq => ?_, fun f hf => ?_⟩
        · rw [IsS]
          exact ⟨hlo, hm100, hpl, hall, iss_iff.mpr fun s hs => by obtain ⟨i, hi, rfl⟩ := hmem s hs; exact (I i hi).1⟩
        · rw [qPl] at hq
          rcases List.mem_cons.mp hq with e | e
          · subst e; exact hm
          · obtain ⟨s, hs, hq2⟩ := qpls_mem.mp e
            obtain ⟨i, hi, rfl⟩ := hmem s hs
            exact (I i hi).2.1 q hq2
        · rw [qA_look (hat (f m) (hf m))]
          exact (I (f m) (hf m)).2.2 f hf rfl
/-- the product of the widths of places -/
def wpr (ws : List Int) : List Nat → Nat
  | [] => 1
  | p :: ps => wd ws p * wpr ws ps
theorem wpr_pos (hw : WsOk ws) : ∀ ps, 1 ≤ wpr ws ps
  | [] => Nat.le_refl _
  | p :: ps => by rw [wpr]; exact Nat.mul_le_mul (hw.wd1 p).1 (wpr_pos hw ps)
theorem wpr_split (hw : WsOk ws) {p : Nat} : ∀ {ps : List Nat}, ps.Pairwise (· < ·) → p ∈ ps → ∃ b : List Nat, b.Pairwise (· < ·) ∧ (∀ q ∈ ps, p < q → q ∈ b) ∧ wd ws p * wpr ws b ≤ wpr ws ps ∧ b.length + 1 ≤ ps.length
  | x :: ps, hs, hp => by
    rw [List.pairwise_cons] at hs
    rcases List.mem_cons.mp hp with e | e
    · subst e
      refine ⟨ps, hs.2, fun q hq hl => ?_, by rw [wpr]; exact Nat.le_refl _, by rw [List.length_cons]; omega⟩
      rcases List.mem_cons.mp hq with e2 | e2
      · omega
      · exact e2
    · obtain ⟨b, h1, h2, h3, h4⟩ := wpr_split hw hs.2 e
      refine ⟨b, h1, fun q hq hl => ?_, ?_, by rw [List.length_cons]; omega⟩
      · rcases List.mem_cons.mp hq with e2 | e2
        · have := hs.1 p e; omega
        · exact h2 q e2 hl
      · rw [wpr]
        have := (hw.wd1 x).1
        exact Nat.le_trans h3 (Nat.le_mul_of_pos_left _ (by omega))
theorem qpls_bound {k : Nat} : ∀ ts : List QT, (∀ t ∈ ts, (qPl t).length + 1 ≤ k) → (qPl.qPls ts).length + ts.length ≤ ts.length * k
  | [], _ => by simp [qPl.qPls]
  | t :: ts, h => by
    rw [qPl.qPls, List.length_append, List.length_cons, Nat.add_mul, Nat.one_mul]
    have h1 := h t List.mem_cons_self
    have h2 := qpls_bound ts fun s hs => h s (List.mem_cons_of_mem _ hs)
    omega
theorem qdeps_bound {k : Nat} : ∀ ts : List QT, (∀ t ∈ ts, qDep t ≤ k) → qDep.qDeps ts ≤ k
  | [], _ => by rw [qDep.qDeps]; omega
  | t :: ts, h => by
    rw [qDep.qDeps]
    have h1 := h t List.mem_cons_self
    have h2 := qdeps_bound ts fun s hs => h s (List.mem_cons_of_mem _ hs)
    omega
/-- a settled term is small -/
theorem IsS.small (hw : WsOk ws) : ∀ (t : QT) {lo : Nat} {ps : List Nat}, IsS ws oc lo t → ps.Pairwise (· < ·) → (∀ q ∈ qPl t, q ∈ ps) → (qPl t).length + 1 ≤ wpr ws ps ∧ qDep t ≤ ps.length := fun t => by
  induction t using QT.ind with
  | h1 x => intro lo ps _ _ _; exact ⟨by rw [qPl]; exact wpr_pos hw ps, by rw [qDep]; omega⟩
  | h2 p ts ih =>
    intro lo ps h hs hm
    rw [IsS] at h
    obtain ⟨h0, h1, h2, h4, h3⟩ := h
    rw [iss_iff] at h3
    obtain ⟨b, b1, b2, b3, b4⟩ := wpr_split hw hs (hm p (by rw [qPl]; exact List.mem_cons_self))
    have hch : ∀ t ∈ ts, (qPl t).length + 1 ≤ wpr ws b ∧ qDep t ≤ b.length := fun t ht => ih t ht (h3 t ht) b1 fun q hq => by
      have hl := IsS.pl t (h3 t ht) q hq
      exact b2 q (hm q (by rw [qPl]; exact List.mem_cons_of_mem _ (qpls_mem.mpr ⟨t, ht, hq⟩))) (by omega)
    have h5 := qpls_bound ts fun t ht => (hch t ht).1
    have h6 := qdeps_bound ts fun t ht => (hch t ht).2
    have h7 : 2 ≤ ts.length := by
      refine Classical.byContradiction fun z => h4 fun q hq => ?_
      match ts, hq with
      | [a], hq => simpa using hq
      | a :: c :: l, _ => exact absurd (by simp) z
    refine ⟨?_, by rw [qDep]; omega⟩
    rw [qPl, List.length_cons]
    rw [← h2] at b3
    omega
end
theorem qpls_take : ∀ (ts : List QT) (k : Nat), (qPl.qPls (ts.take k)).length ≤ (qPl.qPls ts).length
  | [], k => by rw [List.take_nil]; exact Nat.le_refl _
  | t :: ts, 0 => by rw [List.take_zero]; exact Nat.zero_le _
  | t :: ts, k + 1 => by
    rw [List.take_succ_cons, qPl.qPls, qPl.qPls, List.length_append, List.length_append]
    have := qpls_take ts k
    omega
def nI (l : List Nat) : List D := l.map fun (n : Nat) => D.int (n : Int)
theorem nI_len (l : List Nat) : (nI l).length = l.length := by unfold nI; rw [List.length_map]
theorem nI_get {l : List Nat} {i : Nat} {d : D} (h : (nI l)[i]? = some d) : ∃ hi : i < l.length, d = .int ((l[i] : Nat) : Int) := by
  unfold nI at h
  rw [List.getElem?_map] at h
  have hi : i < l.length := by
    refine Classical.byContradiction fun z => ?_
    rw [List.getElem?_eq_none (by omega)] at h
    cases h
  rw [List.getElem?_eq_getElem hi] at h
  cases h
  exact ⟨hi, rfl⟩
theorem nI_ints (l : List Nat) : nI l = (l.map fun (n : Nat) => (n : Int)).map D.int := by unfold nI; rw [List.map_map]; rfl
theorem nI_range (l : List Nat) : ((List.range (nI l).length).map fun j => D.int ((l.getD j 0 : Nat) : Int)) = nI l := by
  refine List.ext_getElem (by rw [List.length_map, List.length_range]) fun i h1 h2 => ?_
  have hi : i < l.length := by rw [nI_len] at h2; exact h2
  have e : (nI l)[i]? = some (D.int ((l[i] : Nat) : Int)) := by unfold nI; rw [List.getElem?_map, List.getElem?_eq_getElem hi]; rfl
  rw [List.getElem_map, List.getElem_range, List.getD_eq_getElem?_getD, List.getElem?_eq_getElem hi]
  rw [List.getElem?_eq_getElem h2] at e
  exact (Option.some.inj e).symm
theorem nI_flat (ts : List QT) : ∀ k, k ≤ ts.length → ((List.range k).flatMap fun i => (List.range (nI (qPl (ts.getD i (.tell 0)))).length).map fun j => D.int (((qPl (ts.getD i (.tell 0))).getD j 0 : Nat) : Int)) = nI (qPl.qPls (ts.take k))
  | 0, _ => by rw [List.range_zero, List.take_zero]; rfl
  | k + 1, h => by
    rw [List.range_succ, List.flatMap_append, nI_flat ts k (by omega), List.take_succ, List.getElem?_eq_getElem (by omega), List.flatMap_cons, List.flatMap_nil, nI_range, qpls_flat, qpls_flat]
    unfold nI
    rw [Option.toList_some, List.flatMap_append, List.flatMap_cons, List.flatMap_nil, List.append_nil, List.append_nil, List.map_append, List.getD_eq_getElem?_getD, List.getElem?_eq_getElem (show k < ts.length by omega)]
    rfl
theorem qDs_at {ts : List QT} {i : Nat} (h : i < ts.length) : (qDs ts).getD i .non = qD ts[i] := by rw [qDs_map, List.getD_eq_getElem?_getD, List.getElem?_map, List.getElem?_eq_getElem h]; rfl
theorem qDs_get {ts : List QT} {i : Nat} {d : D} (h : (qDs ts)[i]? = some d) : ∃ hi : i < ts.length, d = qD ts[i] := by
  rw [qDs_map, List.getElem?_map] at h
  have hi : i < ts.length := by
    refine Classical.byContradiction fun z => ?_
    rw [List.getElem?_eq_none (by omega)] at h
    cases h
  rw [List.getElem?_eq_getElem hi] at h
  cases h
  exact ⟨hi, rfl⟩
section
variable {ws : List Int}
theorem wpr_mono (hw : WsOk ws) : ∀ {ns ps : List Nat}, ns.Pairwise (· < ·) → ps.Pairwise (· < ·) → (∀ q ∈ ns, q ∈ ps) → wpr ws ns ≤ wpr ws ps ∧ ns.length ≤ ps.length
  | [], ps, _, _, _ => ⟨wpr_pos hw ps, Nat.zero_le _⟩
  | n :: ns, ps, h1, h2, h3 => by
    rw [List.pairwise_cons] at h1
    obtain ⟨b, b1, b2, b3, b4⟩ := wpr_split hw h2 (h3 n List.mem_cons_self)
    obtain ⟨c1, c2⟩ := wpr_mono hw h1.2 b1 fun q hq => b2 q (h3 q (List.mem_cons_of_mem _ hq)) (h1.1 q hq)
    rw [wpr, List.length_cons]
    exact ⟨Nat.le_trans (Nat.mul_le_mul_left _ c1) b3, by omega⟩
theorem fold_wpr : ∀ (l : List Nat) (a : Int), (l.map fun (p : Nat) => (wd ws p : Int)).foldl (· * ·) a = a * (wpr ws l : Int)
  | [], a => by rw [wpr]; simp
  | p :: l, a => by
    rw [List.map_cons, List.foldl_cons, fold_wpr l, wpr, Int.natCast_mul, Int.mul_assoc]
theorem prod_wpr (l : List Nat) : prodI (l.map fun (p : Nat) => (wd ws p : Int)) = (wpr ws l : Int) := by
  unfold prodI
  rw [fold_wpr, Int.one_mul]
/-- what of a query keeps it within the limits -/
structure QFit (ws : List Int) (oc : Nat) (ps : List Nat) (t : QT) : Prop where
  w : WsOk ws
  o1 : 1 ≤ oc
  o4 : oc ≤ 4
  ok : QOk ws oc t
  sorted : ps.Pairwise (· < ·)
  most : ps.length ≤ 8
  few : wpr ws ps ≤ 256
  pl : ∀ q ∈ qPl t, q ∈ ps
  looks : (qPl t).length ≤ 300
  dep : qDep t ≤ 20
end
def qO (C : Addr) (t : QT) (ws : List Int) (oc : Nat) : D := .obj C NS_Query [qD t, .tup (ws.map .int), .int (oc : Int)]
theorem rangeQ {α : Type} (f : QT → α) (ts : List QT) : (List.range ts.length).map (fun i => f (ts.getD i (.tell 0))) = ts.map f := by
  refine List.ext_getElem (by rw [List.length_map, List.length_range, List.length_map]) fun i h1 h2 => ?_
  have hi : i < ts.length := by rw [List.length_map] at h2; exact h2
  rw [List.getElem_map, List.getElem_range, List.getElem_map, List.getD_eq_getElem?_getD, List.getElem?_eq_getElem hi]
  rfl
mutual
theorem eqv_q : ∀ s t : QT, PyData.eqv (toPy (qD s)) (toPy (qD t)) = true ↔ s = t
  | .tell a, .tell b => by
    rw [qD, qD]
    simp [toPy, toPys, PyData.eqv, PyData.eqvAll]
    exact ⟨fun h => Int.ofNat.inj h, fun h => by rw [h]⟩
  | .tell a, .look p ts => by
    rw [qD, qD]
    simp only [toPy, toPys, PyData.eqv, PyData.eqvAll, Bool.and_eq_true, reduceCtorEq, iff_false]
    intro h
    exact absurd (by simpa using h.1) (show ¬ (Str.ofString "tell" = Str.ofString "look") by decide)
  | .look p ts, .tell a => by
    rw [qD, qD]
    simp only [toPy, toPys, PyData.eqv, PyData.eqvAll, Bool.and_eq_true, reduceCtorEq, iff_false]
    intro h
    exact absurd (by simpa using h.1) (show ¬ (Str.ofString "look" = Str.ofString "tell") by decide)
  | .look p ts, .look q us => by
    rw [qD, qD]
    simp only [toPy, toPys, PyData.eqv, PyData.eqvAll, Bool.and_eq_true, QT.look.injEq, eqv_qs ts us]
    simp
    exact fun _ => ⟨fun h => Int.ofNat.inj h, fun h => by rw [h]⟩
theorem eqv_qs : ∀ ss ts : List QT, PyData.eqvAll (toPys (qDs ss)) (toPys (qDs ts)) = true ↔ ss = ts
  | [], [] => by simp [qDs, toPys, PyData.eqvAll]
  | [], t :: ts => by simp [qDs, toPys, PyData.eqvAll]
  | s :: ss, [] => by simp [qDs, toPys, PyData.eqvAll]
  | s :: ss, t :: ts => by
    simp only [qDs, toPys, PyData.eqvAll, Bool.and_eq_true, eqv_q s t, eqv_qs ss ts, List.cons.injEq]
end
open Classical in
theorem eqD_qs (ss ts : List QT) : eqD (.tup (qDs ss)) (.tup (qDs ts)) = decide (ss = ts) := by
  unfold eqD
  simp only [toPy, PyData.eqv]
  rw [Bool.eq_iff_iff, eqv_qs, decide_eq_true_eq]
mutual
theorem eqOk_q : ∀ t : QT, eqOk (qD t) = true
  | .tell o => by rw [qD]; simp only [eqOk, eqOks, Bool.and_true]; decide +kernel
  | .look p ts => by rw [qD]; simp only [eqOk, eqOks, eqOk_qs ts, Bool.and_true]; decide +kernel
theorem eqOk_qs : ∀ ts : List QT, eqOks (qDs ts) = true
  | [] => rfl
  | t :: ts => by rw [qDs, eqOks, eqOk_q t, eqOk_qs ts]; rfl
end
mutual
theorem dpt_q : ∀ t : QT, dpt (qD t) ≤ qDep t + 1
  | .tell o => by rw [qD, qDep]; simp [dpt, dpts]
  | .look p ts => by rw [qD, qDep]; simp only [dpt, dpts]; have := dpts_q ts; omega
theorem dpts_q : ∀ ts : List QT, dpts (qDs ts) ≤ qDep.qDeps ts + 1
  | [] => by rw [qDs, dpts]; omega
  | t :: ts => by rw [qDs, dpts, qDep.qDeps]; have := dpt_q t; have := dpts_q ts; omega
end
theorem qSt_fuel {ws : List Int} {oc : Nat} (hw : WsOk ws) : ∀ (n n' : Nat) (t : QT), QOk ws oc t → (qPl t).length ≤ n → (qPl t).length ≤ n' → qSt ws n t = qSt ws n' t := fun n => by
  induction n with
  | zero =>
    intro n' t h h1 h2
    cases t with
    | tell x => cases n' <;> rfl
    | look p ts => rw [qPl, List.length_cons] at h1; omega
  | succ n ih =>
    intro n' t h h1 h2
    cases t with
    | tell x => cases n' <;> rfl
    | look p ts =>
      cases n' with
      | zero => rw [qPl, List.length_cons] at h2; omega
      | succ n' =>
        have hm : qMin (qPl (.look p ts)) ∈ qPl (.look p ts) := qMin_mem (by rw [qPl]; simp)
        rw [qSt, qSt]
        congr 1
        refine List.map_congr_left fun i hi => ?_
        have hi := List.mem_range.mp hi
        have hl := qFx_lt hi _ h hm
        exact ih n' _ (qFx_ok hi _ h) (by omega) (by omega)
end LW
set_option Elab.async false
set_option linter.all false
set_option maxRecDepth 100000
namespace LW
open PySem PySem.Spec L2 DW
section
variable {ws : List Int} {oc : Nat}
theorem QOk.pl : ∀ t, QOk ws oc t → ∀ q ∈ qPl t, q < 100 := fun t => by
  induction t using QT.ind with
  | h1 o => intro _ q hq; simp [qPl] at hq
  | h2 p ts ih =>
    intro h q hq
    obtain ⟨hp, hl, hts⟩ := h
    rw [qoks_iff] at hts
    rw [qPl] at hq
    rcases List.mem_cons.mp hq with e | e
    · omega
    · obtain ⟨s, hs, hq2⟩ := qpls_mem.mp e
      exact ih s hs (hts s hs) q hq2
end
/-- the product of widths, in the order of a list -/
def wpl (ws : List Int) (ps : List Nat) : Nat := ps.foldl (fun a p => a * wd ws p) 1
theorem wpl_snoc (ws : List Int) (ps : List Nat) (p : Nat) : wpl ws (ps ++ [p]) = wpl ws ps * wd ws p := by
  unfold wpl
  rw [List.foldl_append, List.foldl_cons, List.foldl_nil]
theorem wpl_wpr0 (ws : List Int) : ∀ (ps : List Nat) (a : Nat), ps.foldl (fun a p => a * wd ws p) a = a * wpr ws ps
  | [], a => by rw [wpr, Nat.mul_one]; rfl
  | p :: ps, a => by rw [List.foldl_cons, wpl_wpr0 ws ps, wpr, Nat.mul_assoc]
theorem wpl_wpr (ws : List Int) (ps : List Nat) : wpl ws ps = wpr ws ps := by unfold wpl; rw [wpl_wpr0, Nat.one_mul]
end LW
set_option Elab.async false
set_option linter.all false
set_option maxRecDepth 100000
namespace LW
open PySem PySem.Spec L2 DW
def smT : Nat → (Nat → Nat) → Nat
  | 0, _ => 0
  | n + 1, h => smT n h + h n
theorem smT_congr {h h' : Nat → Nat} : ∀ n, (∀ x, x < n → h x = h' x) → smT n h = smT n h'
  | 0, _ => rfl
  | n + 1, e => by rw [smT, smT, smT_congr n fun x hx => e x (by omega), e n (by omega)]
theorem smT_const (c : Nat) : ∀ n, (smT n fun _ => c) = n * c
  | 0 => by rw [smT, Nat.zero_mul]
  | n + 1 => by rw [smT, smT_const c n, Nat.add_mul, Nat.one_mul]
theorem smT_mul (h : Nat → Nat) (c : Nat) : ∀ n, (smT n fun x => h x * c) = smT n h * c
  | 0 => by rw [smT, smT, Nat.zero_mul]
  | n + 1 => by rw [smT, smT, smT_mul h c n, Nat.add_mul]
theorem smT_mono (h : Nat → Nat) {m : Nat} : ∀ n, m ≤ n → smT m h ≤ smT n h
  | 0, e => by obtain rfl : m = 0 := by omega
               exact Nat.le_refl _
  | n + 1, e => by
    by_cases z : m = n + 1
    · rw [z]; exact Nat.le_refl _
    · have := smT_mono h n (m := m) (by omega)
      rw [smT]; omega
theorem smT_list (l : List Nat) (n : Nat) (hn : n ≤ l.length) : smT n (fun x => l.getD x 0) = (l.take n).sum := by
  induction n with
  | zero => rfl
  | succ n ih =>
    rw [smT, ih (by omega), List.take_add_one, List.sum_append, List.getD_eq_getElem?_getD, List.getElem?_eq_getElem (by omega)]
    simp
/-- the product of the widths of k places from a on -/
def pwk (ws : List Int) : Nat → Nat → Nat
  | _, 0 => 1
  | a, k + 1 => wd ws a * pwk ws (a + 1) k
/-- one place set -/
def up (f : Nat → Nat) (p x : Nat) : Nat → Nat := fun q => if q = p then x else f q
theorem up_same (f : Nat → Nat) (p x : Nat) : up f p x p = x := if_pos rfl
theorem up_ne {f : Nat → Nat} {p x q : Nat} (h : q ≠ p) : up f p x q = f q := if_neg h
theorem up_self (f : Nat → Nat) (p : Nat) : up f p (f p) = f := by
  funext q
  unfold up
  split
  · rename_i h; rw [h]
  · rfl
/-- how many ways to set k places from st on make g answer r -/
def cn (ws : List Int) (g : (Nat → Nat) → Nat) (r : Nat) : Nat → Nat → (Nat → Nat) → Nat
  | 0, _, f => if r = g f then 1 else 0
  | k + 1, st, f => smT (wd ws st) fun x => cn ws g r k (st + 1) (up f st x)
/-- how many of them stand before f -/
def rk (ws : List Int) (g : (Nat → Nat) → Nat) (r : Nat) : Nat → Nat → (Nat → Nat) → Nat
  | 0, _, _ => 0
  | k + 1, st, f => (smT (f st) fun x => cn ws g r k (st + 1) (up f st x)) + rk ws g r k (st + 1) f
section
variable {ws : List Int} {oc r : Nat}
/-- two states that differ at most on the k places from st on -/
def Off (st k : Nat) (f f' : Nat → Nat) : Prop := ∀ q, q < st ∨ st + k ≤ q → f' q = f q
theorem cn_congr {g g' : (Nat → Nat) → Nat} : ∀ (k st : Nat) (f : Nat → Nat), (∀ f', Off st k f f' → g f' = g' f') → cn ws g r k st f = cn ws g' r k st f
  | 0, st, f, h => by rw [cn, cn, h f fun _ _ => rfl]
  | k + 1, st, f, h => by
    rw [cn, cn]
    refine smT_congr _ fun x hx => cn_congr k (st + 1) _ fun f' hf => h f' fun q hq => ?_
    rw [hf q (by omega), up_ne (by omega)]
theorem cn_off {g : (Nat → Nat) → Nat} : ∀ (k st : Nat) (f f' : Nat → Nat), Off st k f f' → cn ws g r k st f = cn ws g r k st f'
  | 0, st, f, f', h => by
    have : f' = f := funext fun q => h q (by omega)
    rw [this]
  | k + 1, st, f, f', h => by
    rw [cn, cn]
    refine smT_congr _ fun x hx => cn_off k (st + 1) _ _ fun q hq => ?_
    by_cases e : q = st
    · rw [e, up_same, up_same]
    · rw [up_ne e, up_ne e]
      exact h q (by omega)
theorem rk_congr {g g' : (Nat → Nat) → Nat} : ∀ (k st : Nat) (f : Nat → Nat), (∀ f', (∀ q, q < st → f' q = f q) → g f' = g' f') → rk ws g r k st f = rk ws g' r k st f
  | 0, st, f, h => rfl
  | k + 1, st, f, h => by
    rw [rk, rk, rk_congr k (st + 1) f fun f' hf => h f' fun q hq => hf q (by omega)]
    congr 1
    refine smT_congr _ fun x hx => cn_congr k (st + 1) _ fun f' hf => h f' fun q hq => ?_
    rw [hf q (by omega), up_ne (by omega)]
/-- the number of a state is below the count -/
theorem rk_lt {g : (Nat → Nat) → Nat} : ∀ (k st : Nat) (f : Nat → Nat), g f = r → (∀ q, f q < wd ws q) → rk ws g r k st f < cn ws g r k st f
  | 0, st, f, h, _ => by rw [rk, cn, if_pos h.symm]; omega
  | k + 1, st, f, h, hf => by
    have ih := rk_lt k (st + 1) f h hf
    have m := smT_mono (fun x => cn ws g r k (st + 1) (up f st x)) (m := f st + 1) (wd ws st) (hf st)
    have e : smT (f st + 1) (fun x => cn ws g r k (st + 1) (up f st x)) = smT (f st) (fun x => cn ws g r k (st + 1) (up f st x)) + cn ws g r k (st + 1) (up f st (f st)) := rfl
    rw [up_self] at e
    rw [rk, cn]
    omega
/-- two states with one answer and one number are one -/
theorem rk_inj {g : (Nat → Nat) → Nat} : ∀ (k st : Nat) (f f' : Nat → Nat), Off st k f f' → g f = r → g f' = r → (∀ q, f q < wd ws q) → (∀ q, f' q < wd ws q) → rk ws g r k st f = rk ws g r k st f' → f' = f
  | 0, st, f, f', h, _, _, _, _, _ => funext fun q => h q (by omega)
  | k + 1, st, f, f', h, h1, h2, w1, w2, e => by
    rw [rk, rk] at e
    have hs : ∀ x, cn ws g r k (st + 1) (up f st x) = cn ws g r k (st + 1) (up f' st x) := fun x => cn_off k (st + 1) _ _ fun q hq => by
      by_cases z : q = st
      · rw [z, up_same, up_same]
      · rw [up_ne z, up_ne z]; exact h q (by omega)
    have hs2 : (fun x => cn ws g r k (st + 1) (up f' st x)) = fun x => cn ws g r k (st + 1) (up f st x) := funext fun x => (hs x).symm
    rw [hs2] at e
    have l1 := rk_lt (ws := ws) k (st + 1) f h1 w1
    have l2 := rk_lt (ws := ws) k (st + 1) f' h2 w2
    have c1 := hs (f' st)
    rw [up_self f' st] at c1
    have c2 : cn ws g r k (st + 1) (up f st (f st)) = cn ws g r k (st + 1) f := by rw [up_self]
    have st1 : ∀ a b, a < b → smT (a + 1) (fun x => cn ws g r k (st + 1) (up f st x)) ≤ smT b (fun x => cn ws g r k (st + 1) (up f st x)) := fun a b hab => smT_mono _ b hab
    have ex : ∀ a, smT (a + 1) (fun x => cn ws g r k (st + 1) (up f st x)) = smT a (fun x => cn ws g r k (st + 1) (up f st x)) + cn ws g r k (st + 1) (up f st a) := fun a => rfl
    have e0 : f st = f' st := by
      rcases Nat.lt_trichotomy (f st) (f' st) with z | z | z
      · have a := st1 _ _ z
        rw [ex, c2] at a
        omega
      · exact z
      · have a := st1 _ _ z
        rw [ex, c1] at a
        omega
    rw [e0] at e
    refine rk_inj k (st + 1) f f' (fun q hq => ?_) h1 h2 w1 w2 (by omega)
    by_cases z : q = st
    · rw [z, e0]
    · exact h q (by omega)
/-- heads by outcome: the count -/
def tc (ws : List Int) (R r : Nat) : QT → Nat → Nat
  | .tell o, st => pwk ws st (R - st) * (if r = o then 1 else 0)
  | .look p ts, st => pwk ws st (p - st) * (tcs ws R r ts (p + 1)).sum
where tcs (ws : List Int) (R r : Nat) : List QT → Nat → List Nat
  | [], _ => []
  | t :: ts, a => tc ws R r t a :: tcs ws R r ts a
theorem tcs_map {R : Nat} : ∀ (ts : List QT) (a : Nat), tc.tcs ws R r ts a = ts.map fun t => tc ws R r t a
  | [], _ => rfl
  | t :: ts, a => by rw [tc.tcs, tcs_map ts]; rfl
/-- the number of the free entries -/
def fi (ws : List Int) (f : Nat → Nat) : Nat → Nat → Nat
  | _, 0 => 0
  | a, k + 1 => f a * pwk ws (a + 1) k + fi ws f (a + 1) k
/-- the number of a head -/
def ti (ws : List Int) (R r : Nat) (f : Nat → Nat) : QT → Nat → Nat
  | .tell _, st => fi ws f st (R - st)
  | .look p ts, st => fi ws f st (p - st) * (tc.tcs ws R r ts (p + 1)).sum + (((tc.tcs ws R r ts (p + 1)).take (f p)).sum + (tis ws R r f ts (p + 1)).getD (f p) 0)
where tis (ws : List Int) (R r : Nat) (f : Nat → Nat) : List QT → Nat → List Nat
  | [], _ => []
  | t :: ts, a => ti ws R r f t a :: tis ws R r f ts a
theorem tis_map {R : Nat} {f : Nat → Nat} : ∀ (ts : List QT) (a : Nat), ti.tis ws R r f ts a = ts.map fun t => ti ws R r f t a
  | [], _ => rfl
  | t :: ts, a => by rw [ti.tis, tis_map ts]; rfl
theorem IsS.up1 {st p : Nat} {ts : List QT} (h : IsS ws oc st (.look p ts)) (hp : st ≠ p) : IsS ws oc (st + 1) (.look p ts) := by
  rw [IsS] at h ⊢
  exact ⟨by omega, h.2⟩
theorem IsS.sub {st p : Nat} {ts : List QT} (h : IsS ws oc st (.look p ts)) {t : QT} (ht : t ∈ ts) : IsS ws oc (p + 1) t := by
  rw [IsS] at h
  exact iss_iff.mp h.2.2.2.2 t ht
theorem IsS.len {st p : Nat} {ts : List QT} (h : IsS ws oc st (.look p ts)) : ts.length = wd ws p := by
  rw [IsS] at h
  exact h.2.2.1
theorem IsS.ge {st p : Nat} {ts : List QT} (h : IsS ws oc st (.look p ts)) : st ≤ p := by
  rw [IsS] at h
  exact h.1
theorem tc_cn : ∀ (k : Nat) (t : QT) (st : Nat) (f : Nat → Nat), IsS ws oc st t → (∀ q ∈ qPl t, q < st + k) → cn ws (fun f => qA f t) r k st f = tc ws (st + k) r t st := fun k => by
  induction k with
  | zero =>
    intro t st f h hp
    cases t with
    | tell o => rw [cn, tc, Nat.add_zero, Nat.sub_self, pwk, Nat.one_mul]; rfl
    | look p ts =>
      have h1 := h.ge
      have h2 := hp p (by rw [qPl]; exact List.mem_cons_self)
      omega
  | succ k ih =>
    intro t st f h hp
    have hk : st + (k + 1) = (st + 1) + k := by omega
    rw [hk]
    cases t with
    | tell o =>
      rw [cn, smT_congr (h' := fun _ => tc ws (st + 1 + k) r (.tell o) (st + 1)) _ fun x _ => ih (.tell o) (st + 1) _ h (fun q hq => by simp [qPl] at hq), smT_const, tc, tc,
        show st + 1 + k - st = k + 1 by omega, show st + 1 + k - (st + 1) = k by omega, pwk, Nat.mul_assoc]
    | look p ts =>
      have h1 := h.ge
      by_cases e : st = p
      · subst e
        rw [cn, tc, Nat.sub_self, pwk, Nat.one_mul]
        rw [smT_congr (h' := fun x => (tc.tcs ws (st + 1 + k) r ts (st + 1)).getD x 0) _ fun x hx => ?_]
        · have hl : (tc.tcs ws (st + 1 + k) r ts (st + 1)).length = wd ws st := by rw [tcs_map, List.length_map, h.len]
          rw [← hl, smT_list _ _ (Nat.le_refl _), List.take_length]
        · have hx' : x < ts.length := by rw [h.len]; exact hx
          rw [cn_congr (g' := fun f => qA f ts[x]) k (st + 1) _ fun f' hf => qA_look (by rw [hf st (by omega), up_same]; exact List.getElem?_eq_getElem hx'),
            ih ts[x] (st + 1) _ (h.sub (List.getElem_mem hx')) fun q hq => ?_]
          · rw [tcs_map, List.getD_eq_getElem?_getD, List.getElem?_map, List.getElem?_eq_getElem hx']
            rfl
          · have := hp q (by rw [qPl]; exact List.mem_cons_of_mem _ (qpls_mem.mpr ⟨_, List.getElem_mem hx', hq⟩))
            omega
      · rw [cn, smT_congr (h' := fun _ => tc ws (st + 1 + k) r (.look p ts) (st + 1)) _ fun x _ => ih (.look p ts) (st + 1) _ (h.up1 e) (fun q hq => by have := hp q hq; omega), smT_const, tc, tc,
          show p - st = (p - (st + 1)) + 1 by omega, pwk, Nat.mul_assoc]
theorem ti_rk : ∀ (k : Nat) (t : QT) (st : Nat) (f : Nat → Nat), IsS ws oc st t → (∀ q ∈ qPl t, q < st + k) → (∀ q, f q < wd ws q) → qA f t = r → rk ws (fun f => qA f t) r k st f = ti ws (st + k) r f t st := fun k => by
  induction k with
  | zero =>
    intro t st f h hp hf hr
    cases t with
    | tell o => rw [rk, ti, Nat.add_zero, Nat.sub_self, fi]
    | look p ts =>
      have h1 := h.ge
      have h2 := hp p (by rw [qPl]; exact List.mem_cons_self)
      omega
  | succ k ih =>
    intro t st f h hp hf hr
    have hk : st + (k + 1) = (st + 1) + k := by omega
    rw [hk]
    cases t with
    | tell o =>
      have hr' : o = r := hr
      rw [rk, ih (.tell o) (st + 1) f h (fun q hq => by simp [qPl] at hq) hf hr,
        smT_congr (h' := fun _ => tc ws (st + 1 + k) r (.tell o) (st + 1)) _ fun x _ => tc_cn k (.tell o) (st + 1) _ h (fun q hq => by simp [qPl] at hq), smT_const, tc, ti, ti,
        show st + 1 + k - st = k + 1 by omega, show st + 1 + k - (st + 1) = k by omega, fi, if_pos hr'.symm, Nat.mul_one]
    | look p ts =>
      have h1 := h.ge
      by_cases e : st = p
      · subst e
        have hx' : f st < ts.length := by rw [h.len]; exact hf st
        have hq : ∀ x (hx' : x < ts.length), ∀ q ∈ qPl ts[x], q < st + 1 + k := fun x hx' q hq => by
          have := hp q (by rw [qPl]; exact List.mem_cons_of_mem _ (qpls_mem.mpr ⟨_, List.getElem_mem hx', hq⟩))
          omega
        rw [rk, ti, Nat.sub_self, fi, Nat.zero_mul, Nat.zero_add]
        congr 1
        · rw [smT_congr (h' := fun x => (tc.tcs ws (st + 1 + k) r ts (st + 1)).getD x 0) _ fun x hx => ?_]
          · rw [smT_list _ _ (by rw [tcs_map, List.length_map]; omega)]
          · have hx' : x < ts.length := by omega
            rw [cn_congr (g' := fun f => qA f ts[x]) k (st + 1) _ fun f' hf => qA_look (by rw [hf st (by omega), up_same]; exact List.getElem?_eq_getElem hx'),
              tc_cn k ts[x] (st + 1) _ (h.sub (List.getElem_mem hx')) (hq x hx'), tcs_map, List.getD_eq_getElem?_getD, List.getElem?_map, List.getElem?_eq_getElem hx']
            rfl
        · generalize hfs : f st = x0 at *
          rw [rk_congr (g' := fun f => qA f ts[x0]) k (st + 1) _ fun f' hf => qA_look (by rw [hf st (by omega), hfs]; exact List.getElem?_eq_getElem hx')]
          have hr2 : qA f ts[x0] = r := by rw [← hr, qA_look (by rw [hfs]; exact List.getElem?_eq_getElem hx')]
          rw [ih ts[x0] (st + 1) f (h.sub (List.getElem_mem hx')) (hq _ hx') hf hr2, tis_map, List.getD_eq_getElem?_getD, List.getElem?_map, List.getElem?_eq_getElem hx']
          rfl
      · rw [rk, ih (.look p ts) (st + 1) f (h.up1 e) (fun q hq => by have := hp q hq; omega) hf hr,
          smT_congr (h' := fun _ => tc ws (st + 1 + k) r (.look p ts) (st + 1)) _ fun x _ => tc_cn k (.look p ts) (st + 1) _ (h.up1 e) (fun q hq => by have := hp q hq; omega), smT_const, tc, ti, ti,
          show p - st = (p - (st + 1)) + 1 by omega, fi, Nat.add_mul, Nat.mul_assoc, ← Nat.add_assoc]
end
end LW
set_option Elab.async false
set_option linter.all false
set_option maxRecDepth 100000
namespace LW
open PySem PySem.Spec L2 DW
section
variable {ws : List Int} {oc r : Nat}
theorem qA_off : ∀ (t : QT) {f f' : Nat → Nat}, (∀ q ∈ qPl t, f q = f' q) → qA f t = qA f' t := fun t => by
  induction t using QT.ind with
  | h1 o => intro f f' h; rfl
  | h2 p ts ih =>
    intro f f' h
    rw [qA, qA, qas_map, qas_map, h p (by rw [qPl]; exact List.mem_cons_self)]
    congr 1
    exact List.map_congr_left fun t ht => ih t ht fun q hq => h q (by rw [qPl]; exact List.mem_cons_of_mem _ (qpls_mem.mpr ⟨t, ht, hq⟩))
theorem up_lt {f : Nat → Nat} (hf : ∀ q, f q < wd ws q) {p x : Nat} (hx : x < wd ws p) : ∀ q, up f p x q < wd ws q := fun q => by
  unfold up
  split
  · rename_i e; rw [e]; exact hx
  · exact hf q
theorem sub_off {lo p : Nat} {ts : List QT} (h : IsS ws oc lo (.look p ts)) {t : QT} (ht : t ∈ ts) : p ∉ qPl t := fun hq => by
  have := IsS.pl _ (h.sub ht) p hq
  omega
theorem qA_up {p x : Nat} {t : QT} (h : p ∉ qPl t) (f : Nat → Nat) : qA (up f p x) t = qA f t := qA_off t fun q hq => up_ne fun e => h (by rw [← e]; exact hq)
/-- all parts alike is no settled look -/
theorem IsS.ne_all {lo p : Nat} {ts : List QT} (h : IsS ws oc lo (.look p ts)) (u : QT) (hu : ∀ x (hx : x < ts.length), ts[x] = u) : False := by
  have hl := h.len
  rw [IsS] at h
  refine h.2.2.2.1 fun q hq => ?_
  obtain ⟨x, hx, rfl⟩ := List.mem_iff_getElem.mp hq
  cases ts with
  | nil => simp at hx
  | cons a l => rw [hu x hx]; exact (hu 0 (by simp)).symm
/-- settled terms that answer alike are one -/
theorem canon (hw : WsOk ws) : ∀ (n : Nat) (t u : QT) (lo lo' : Nat), (qPl t).length + (qPl u).length ≤ n → IsS ws oc lo t → IsS ws oc lo' u → (∀ f : Nat → Nat, (∀ q, f q < wd ws q) → qA f t = qA f u) → t = u := fun n => by
  have z0 : ∀ q, (fun _ => 0 : Nat → Nat) q < wd ws q := fun q => (hw.wd1 q).1
  have len_sub : ∀ {p : Nat} {ts : List QT} {t : QT}, t ∈ ts → (qPl t).length < (qPl (.look p ts)).length := fun {p ts t} ht => by
    rw [qPl, List.length_cons]
    have := qpls_len ht
    omega
  have low : ∀ (m : Nat), (∀ (t u : QT) (lo lo' : Nat), (qPl t).length + (qPl u).length ≤ m → IsS ws oc lo t → IsS ws oc lo' u → (∀ f : Nat → Nat, (∀ q, f q < wd ws q) → qA f t = qA f u) → t = u) →
      ∀ (p : Nat) (ts : List QT) (u : QT) (lo lo' : Nat), (qPl (.look p ts)).length + (qPl u).length ≤ m + 1 → IsS ws oc lo (.look p ts) → IsS ws oc lo' u → p ∉ qPl u → (∀ f : Nat → Nat, (∀ q, f q < wd ws q) → qA f (.look p ts) = qA f u) → False :=
    fun m ih p ts u lo lo' hl h1 h2 hp he => by
      refine h1.ne_all u fun x hx => ?_
      refine ih ts[x] u _ _ (by have := len_sub (p := p) (List.getElem_mem hx); omega) (h1.sub (List.getElem_mem hx)) h2 fun f hf => ?_
      have hx' : x < wd ws p := by rw [← h1.len]; exact hx
      have e := he (up f p x) (up_lt hf hx')
      rw [qA_look (t := ts[x]) (by rw [up_same]; exact List.getElem?_eq_getElem hx), qA_up (sub_off h1 (List.getElem_mem hx)), qA_up hp] at e
      exact e
  induction n with
  | zero =>
    intro t u lo lo' hl h1 h2 he
    cases t with
    | look p ts => rw [qPl, List.length_cons] at hl; omega
    | tell o =>
      cases u with
      | look p ts => rw [qPl.eq_2 p ts, List.length_cons] at hl; omega
      | tell o' =>
        have := he _ z0
        rw [qA, qA] at this
        rw [this]
  | succ n ih =>
    intro t u lo lo' hl h1 h2 he
    cases t with
    | tell o =>
      cases u with
      | tell o' =>
        have := he _ z0
        rw [qA, qA] at this
        rw [this]
      | look p us => exact (low n ih p us _ _ _ (by omega) h2 h1 (by simp [qPl]) fun f hf => (he f hf).symm).elim
    | look p ts =>
      cases u with
      | tell o' => exact (low n ih p ts _ _ _ hl h1 h2 (by simp [qPl]) he).elim
      | look p' us =>
        rcases Nat.lt_trichotomy p p' with z | z | z
        · refine (low n ih p ts _ _ _ hl h1 h2 (fun hq => ?_) he).elim
          have h3 : IsS ws oc p' (.look p' us) := by rw [IsS] at h2 ⊢; exact ⟨Nat.le_refl _, h2.2⟩
          have := IsS.pl _ h3 p hq
          omega
        · subst z
          congr 1
          refine List.ext_getElem (by rw [h1.len, h2.len]) fun x hx hy => ?_
          refine ih _ _ _ _ (by have := len_sub (p := p) (List.getElem_mem hx); have := len_sub (p := p) (List.getElem_mem hy); omega) (h1.sub (List.getElem_mem hx)) (h2.sub (List.getElem_mem hy)) fun f hf => ?_
          have hx' : x < wd ws p := by rw [← h1.len]; exact hx
          have e := he (up f p x) (up_lt hf hx')
          rw [qA_look (t := ts[x]) (by rw [up_same]; exact List.getElem?_eq_getElem hx), qA_look (t := us[x]) (by rw [up_same]; exact List.getElem?_eq_getElem hy), qA_up (sub_off h1 (List.getElem_mem hx)), qA_up (sub_off h2 (List.getElem_mem hy))] at e
          exact e
        · refine (low n ih p' us _ _ _ (by omega) h2 h1 (fun hq => ?_) fun f hf => (he f hf).symm).elim
          have h3 : IsS ws oc p (.look p ts) := by rw [IsS] at h1 ⊢; exact ⟨Nat.le_refl _, h1.2⟩
          have := IsS.pl _ h3 p' hq
          omega
theorem adj {α : Type} {l : List α} (h : ∀ x (h1 : x + 1 < l.length), l[x] = l[x + 1]) : ∀ x (hx : x < l.length), l[x] = l[0]
  | 0, _ => rfl
  | x + 1, hx => by rw [← h x hx]; exact adj h x (by omega)
/-- each place of a settled term is needed -/
theorem needed_dep (hw : WsOk ws) : ∀ (t : QT) (lo p : Nat), IsS ws oc lo t → p ∈ qPl t → ∃ f : Nat → Nat, (∀ q, f q < wd ws q) ∧ f p + 1 < wd ws p ∧ qA f t ≠ qA (up f p (f p + 1)) t := fun t => by
  induction t using QT.ind with
  | h1 o => intro lo p h hp; simp [qPl] at hp
  | h2 q ts ih =>
    intro lo p h hp
    have hl := h.len
    by_cases e : p = q
    · subst e
      have hx : ∃ x, ∃ h1 : x + 1 < ts.length, ts[x] ≠ ts[x + 1] := Classical.byContradiction fun z => by
        have a : ∀ x (h1 : x + 1 < ts.length), ts[x] = ts[x + 1] := fun x h1 => Classical.byContradiction fun y => z ⟨x, h1, y⟩
        have h0 : 0 < ts.length := by rw [hl]; exact (hw.wd1 p).1
        exact h.ne_all ts[0] fun x hx => adj a x hx
      obtain ⟨x, h1, hne⟩ := hx
      have hf : ∃ f : Nat → Nat, (∀ q, f q < wd ws q) ∧ qA f ts[x] ≠ qA f ts[x + 1] := Classical.byContradiction fun z =>
        hne (canon hw _ _ _ _ _ (Nat.le_refl _) (h.sub (List.getElem_mem (by omega))) (h.sub (List.getElem_mem h1)) fun f hf => Classical.byContradiction fun y => z ⟨f, hf, y⟩)
      obtain ⟨f, hf, hd⟩ := hf
      refine ⟨up f p x, up_lt hf (by omega), by rw [up_same]; omega, ?_⟩
      rw [up_same, qA_look (t := ts[x]) (by rw [up_same]; exact List.getElem?_eq_getElem (by omega)), qA_look (t := ts[x + 1]) (by rw [up_same]; exact List.getElem?_eq_getElem h1),
        qA_up (sub_off h (List.getElem_mem (by omega))), qA_up (sub_off h (List.getElem_mem h1)), qA_up (sub_off h (List.getElem_mem h1))]
      exact hd
    · rw [qPl] at hp
      rcases List.mem_cons.mp hp with z | z
      · exact absurd z e
      · obtain ⟨t, ht, hq⟩ := qpls_mem.mp z
        obtain ⟨f, hf, h1, h2⟩ := ih t ht _ p (h.sub ht) hq
        obtain ⟨x, hx, rfl⟩ := List.mem_iff_getElem.mp ht
        refine ⟨up f q x, up_lt hf (by omega), by rw [up_ne e]; exact h1, ?_⟩
        rw [up_ne e, qA_look (t := ts[x]) (by rw [up_same]; exact List.getElem?_eq_getElem hx), qA_look (t := ts[x]) (by rw [up_ne (Ne.symm e), up_same]; exact List.getElem?_eq_getElem hx), qA_up (sub_off h ht)]
        have e2 : up (up f q x) p (f p + 1) = up (up f p (f p + 1)) q x := funext fun z => by
          unfold up
          by_cases z1 : z = p
          · rw [if_pos z1, if_neg (by omega), if_pos z1]
          · rw [if_neg z1, if_neg z1]
        rw [e2, qA_up (sub_off h ht)]
        exact h2
def hs (ws : List Int) : List Nat → List (List Nat)
  | [] => [[]]
  | p :: ps => (List.range (wd ws p)).flatMap fun x => (hs ws ps).map (x :: ·)
/-- the list of ways that a head over places tells -/
def rd (ps c : List Nat) (q : Nat) : Nat := c.getD (ps.idxOf q) 0
theorem fm_idx {α β γ : Type} {h : α → β → γ} {M : List β} {b : β} {j : Nat} (hb : M[j]? = some b) : ∀ (L : List α) (i : Nat) (a : α), L[i]? = some a → (L.flatMap fun a => M.map (h a))[i * M.length + j]? = some (h a b)
  | [], i, a, e => by simp at e
  | x :: L, 0, a, e => by
    obtain rfl : x = a := by simpa using e
    have hj : j < M.length := (List.getElem?_eq_some_iff.mp hb).1
    rw [List.flatMap_cons, Nat.zero_mul, Nat.zero_add, List.getElem?_append_left (by rw [List.length_map]; exact hj), List.getElem?_map, hb]
    rfl
  | x :: L, i + 1, a, e => by
    have e' : L[i]? = some a := by simpa using e
    rw [List.flatMap_cons, List.getElem?_append_right (by rw [List.length_map, Nat.add_mul]; omega), List.length_map, show (i + 1) * M.length + j - M.length = i * M.length + j by rw [Nat.add_mul]; omega]
    exact fm_idx hb L i a e'
theorem hs_app (A B : List Nat) : hs ws (A ++ B) = (hs ws A).flatMap fun la => (hs ws B).map (la ++ ·) := by
  induction A with
  | nil => rw [List.nil_append, hs, List.flatMap_cons, List.flatMap_nil, List.append_nil]; exact (List.map_id _).symm
  | cons p A ih =>
    rw [List.cons_append, hs, hs, ih, List.flatMap_assoc]
    congr 1
    funext x
    rw [List.map_flatMap, List.flatMap_map]
    congr 1
    funext la
    rw [List.map_map]
    rfl
end
end LW
set_option Elab.async false
set_option linter.all false
set_option maxRecDepth 100000
namespace LW
open PySem PySem.Spec L2 DW
section
variable {ws : List Int} {oc r : Nat}
theorem hs_len (ps : List Nat) : (hs ws (ps)).length = ps.foldr (fun p a => wd ws p * a) 1 := by
  induction ps with
  | nil => rfl
  | cons p ps ih =>
    rw [hs, List.length_flatMap, List.foldr_cons, ← ih]
    have : (List.map (fun a => ((hs ws ps).map (a :: ·)).length) (List.range (wd ws p))) = List.replicate (wd ws p) (hs ws ps).length := by
      refine List.ext_getElem (by simp) fun i h1 h2 => by simp
    rw [this, List.sum_replicate_nat]
theorem hs_mem {ps : List Nat} {l : List Nat} : l ∈ hs ws ps ↔ l.length = ps.length ∧ ∀ i (h : i < ps.length), l.getD i 0 < wd ws ps[i] := by
  induction ps generalizing l with
  | nil =>
    rw [hs, List.mem_singleton]
    constructor
    · intro h; subst h; exact ⟨rfl, fun i h => by simp at h⟩
    · intro h; exact List.eq_nil_of_length_eq_zero h.1
  | cons p ps ih =>
    rw [hs, List.mem_flatMap]
    constructor
    · rintro ⟨x, hx, hl⟩
      obtain ⟨l', h', rfl⟩ := List.mem_map.mp hl
      obtain ⟨h1, h2⟩ := ih.mp h'
      refine ⟨by rw [List.length_cons, List.length_cons, h1], fun i hi => ?_⟩
      cases i with
      | zero => exact List.mem_range.mp hx
      | succ i => simpa using h2 i (by simpa using hi)
    · rintro ⟨h1, h2⟩
      cases l with
      | nil => simp at h1
      | cons x l =>
        refine ⟨x, List.mem_range.mpr (h2 0 (Nat.zero_lt_succ _)), List.mem_map.mpr ⟨l, ih.mpr ⟨by simpa using h1, fun i hi => ?_⟩, rfl⟩⟩
        exact h2 (i + 1) (Nat.succ_lt_succ hi)
def longer (hs : List (List Nat)) (n : Nat) : List (List Nat) := hs.flatMap fun l => (List.range n).map fun x => l ++ [x]
/-- all ways to choose options of places -/
def heads (ws : List Int) (ps : List Nat) : List (List Nat) := ps.foldl (fun hs p => longer hs (wd ws p)) [[]]
theorem heads_hs0 (ps : List Nat) : ∀ L : List (List Nat), ps.foldl (fun hs p => longer hs (wd ws p)) L = L.flatMap fun l => (hs ws ps).map (l ++ ·) := by
  induction ps with
  | nil =>
    intro L
    rw [List.foldl_nil, hs]
    induction L with
    | nil => rfl
    | cons a L ih => rw [List.flatMap_cons, ← ih]; simp
  | cons p ps ih =>
    intro L
    rw [List.foldl_cons, ih, longer, List.flatMap_assoc]
    congr 1
    funext l
    rw [hs, List.map_flatMap, List.flatMap_map]
    congr 1
    funext x
    rw [List.map_map]
    congr 1
    funext m
    show (l ++ [x]) ++ m = l ++ x :: m
    simp
theorem heads_hs (ps : List Nat) : heads ws ps = hs ws ps := by
  unfold heads
  rw [heads_hs0]
  show [[]].flatMap _ = _
  rw [List.flatMap_cons, List.flatMap_nil, List.append_nil]
  exact List.map_id _
/-- a state put down for places -/
theorem hs_map {ps : List Nat} {f : Nat → Nat} (hf : ∀ q, f q < wd ws q) : ps.map f ∈ hs ws ps := hs_mem.mpr ⟨List.length_map f, fun i h => by
  rw [List.getD_eq_getElem?_getD, List.getElem?_map, List.getElem?_eq_getElem h]
  exact hf _⟩
theorem rd_map {ps : List Nat} {f : Nat → Nat} {q : Nat} (h : q ∈ ps) : rd ps (ps.map f) q = f q := by
  unfold rd
  have hi := List.idxOf_lt_length_iff.mpr h
  rw [List.getD_eq_getElem?_getD, List.getElem?_map, List.getElem?_eq_getElem hi, List.getElem_idxOf hi]
  rfl
theorem rd_lt (hw : WsOk ws) {ps c : List Nat} (h : c ∈ hs ws ps) (q : Nat) : rd ps c q < wd ws q := by
  obtain ⟨h1, h2⟩ := hs_mem.mp h
  unfold rd
  by_cases z : q ∈ ps
  · have hi := List.idxOf_lt_length_iff.mpr z
    have := h2 _ hi
    rw [List.getElem_idxOf hi] at this
    exact this
  · have hn : ¬ ps.idxOf q < ps.length := fun y => z (List.idxOf_lt_length_iff.mp y)
    rw [List.getD_eq_getElem?_getD, List.getElem?_eq_none (by omega)]
    exact (hw.wd1 q).1
/-- what a head over places is told -/
def tl (t : QT) (ps c : List Nat) : Nat := qA (rd ps c) t
theorem tl_map {t : QT} {ps : List Nat} {f : Nat → Nat} (h : ∀ q ∈ qPl t, q ∈ ps) : tl t ps (ps.map f) = qA f t := qA_off t fun q hq => rd_map (h q hq)
/-- a term that answers as its settled one -/
theorem tl_eq (hw : WsOk ws) {t s : QT} {ps c : List Nat} (he : ∀ f : Nat → Nat, (∀ q, f q < wd ws q) → qA f s = qA f t) (hc : c ∈ hs ws ps) : tl t ps c = tl s ps c := (he _ (rd_lt hw hc)).symm
/-- the law's look for one place: n is how far the next entry stands -/
def ndB (T : Nat → Nat) (w n q : Nat) : Bool := decide ((q / n) % w < w - 1) && decide (T q ≠ T (q + n))
theorem idx_split {n w i x j : Nat} (hx : x < w) (hj : j < n) : ((i * (w * n) + (x * n + j)) / n) % w = x := by
  have e : i * (w * n) + (x * n + j) = j + n * (i * w + x) := by
    rw [Nat.mul_add, Nat.mul_comm n x, ← Nat.mul_assoc i w n, Nat.mul_comm n (i * w)]
    omega
  rw [e, Nat.add_mul_div_left _ _ (by omega), Nat.div_eq_of_lt hj, Nat.zero_add, Nat.mul_comm i w, Nat.mul_add_mod, Nat.mod_eq_of_lt hx]
theorem hs_at {A B : List Nat} {p : Nat} {la lb : List Nat} {i x j : Nat} (ha : (hs ws A)[i]? = some la) (hb : (hs ws B)[j]? = some lb) (hx : x < wd ws p) :
    (hs ws (A ++ p :: B))[i * (wd ws p * (hs ws B).length) + (x * (hs ws B).length + j)]? = some (la ++ x :: lb) := by
  have h1 : (hs ws (p :: B))[x * (hs ws B).length + j]? = some (x :: lb) := by
    rw [hs]
    exact fm_idx hb _ x x (List.getElem?_range hx)
  have h2 : (hs ws (p :: B)).length = wd ws p * (hs ws B).length := by rw [hs_len, hs_len, List.foldr_cons]
  rw [hs_app, ← h2]
  exact fm_idx h1 _ i la ha
theorem ix_of {α : Type} {l : List α} {x : α} (h : x ∈ l) : ∃ i : Nat, l[i]? = some x := by
  obtain ⟨i, hi, e⟩ := List.mem_iff_getElem.mp h
  exact ⟨i, by rw [List.getElem?_eq_getElem hi, e]⟩
theorem hs_len_app (A B : List Nat) : (hs ws (A ++ B)).length = (hs ws A).length * (hs ws B).length := by
  induction A with
  | nil => rw [List.nil_append, hs, List.length_singleton, Nat.one_mul]
  | cons p A ih => rw [List.cons_append, hs_len, List.foldr_cons, ← hs_len, ih, hs_len (p :: A), List.foldr_cons, ← hs_len, Nat.mul_assoc]
theorem hs_len_cons (p : Nat) (B : List Nat) : (hs ws (p :: B)).length = wd ws p * (hs ws B).length := by rw [hs_len, List.foldr_cons, ← hs_len]
theorem hs_pos (hw : WsOk ws) : ∀ B : List Nat, 0 < (hs ws B).length
  | [] => by rw [hs]; exact Nat.one_pos
  | p :: B => by rw [hs_len_cons]; exact Nat.mul_pos (hw.wd1 p).1 (hs_pos hw B)
theorem needed_iff (hw : WsOk ws) {t : QT} {lo p : Nat} {A B : List Nat} {T : Nat → Nat} (h : IsS ws oc lo t) (hn : (A ++ p :: B).Nodup) (hp : ∀ q ∈ qPl t, q ∈ A ++ p :: B)
    (hT : ∀ (i : Nat) c, (hs ws (A ++ p :: B))[i]? = some c → T i = tl t (A ++ p :: B) c) :
    (∃ q, q < (hs ws (A ++ p :: B)).length ∧ ndB T (wd ws p) (hs ws B).length q = true) ↔ p ∈ qPl t := by
  have hN : (hs ws (A ++ p :: B)).length = (hs ws A).length * (wd ws p * (hs ws B).length) := by rw [hs_len_app, hs_len_cons]
  have pB := hs_pos hw B
  have pw := (hw.wd1 p).1
  generalize hnn : (hs ws B).length = n at *
  constructor
  · rintro ⟨q, hq, hd⟩
    rw [ndB, Bool.and_eq_true, decide_eq_true_eq, decide_eq_true_eq] at hd
    obtain ⟨h1, h2⟩ := hd
    have hi : q / (wd ws p * n) < (hs ws A).length := by
      rw [Nat.div_lt_iff_lt_mul (Nat.mul_pos pw pB)]
      omega
    have hj : q % n < (hs ws B).length := by rw [hnn]; exact Nat.mod_lt _ pB
    generalize hx : (q / n) % wd ws p = x at *
    have eq : q = q / (wd ws p * n) * (wd ws p * n) + (x * n + q % n) := by
      have e1 := Nat.div_add_mod q n
      have e2 := Nat.div_add_mod (q / n) (wd ws p)
      rw [hx, Nat.div_div_eq_div_mul, Nat.mul_comm n] at e2
      have e3 : n * (wd ws p * (q / (wd ws p * n)) + x) + q % n = q := by rw [e2]; exact e1
      rw [Nat.mul_add] at e3
      have e4 : n * (wd ws p * (q / (wd ws p * n))) = q / (wd ws p * n) * (wd ws p * n) := by
        rw [← Nat.mul_assoc, Nat.mul_comm n, Nat.mul_comm]
      rw [e4, Nat.mul_comm n x] at e3
      omega
    have ga := List.getElem?_eq_getElem hi
    have gb := List.getElem?_eq_getElem hj
    have g1 := hs_at (p := p) (x := x) ga gb (by omega)
    have g2 := hs_at (p := p) (x := x + 1) ga gb (by omega)
    rw [hnn, ← eq] at g1
    have e5 : q / (wd ws p * n) * (wd ws p * n) + ((x + 1) * n + q % n) = q + n := by rw [Nat.add_mul]; omega
    rw [hnn, e5] at g2
    rw [hT _ _ g1, hT _ _ g2] at h2
    refine Classical.byContradiction fun z => h2 (qA_off t fun z' hz => ?_)
    have hl : ((hs ws A)[q / (wd ws p * n)]).length = A.length := (hs_mem.mp (List.getElem_mem hi)).1
    have hne : (A ++ p :: B).idxOf z' ≠ A.length := fun y => z (by
      have hm := hp z' hz
      have hi2 := List.idxOf_lt_length_iff.mpr hm
      have e := List.getElem_idxOf hi2
      have e2 : (A ++ p :: B)[A.length]? = some p := by rw [List.getElem?_append_right (Nat.le_refl _), Nat.sub_self]; rfl
      have e3 := List.getElem?_eq_getElem hi2
      rw [e, y, e2] at e3
      rw [Option.some.inj e3]
      exact hz)
    unfold rd
    generalize (A ++ p :: B).idxOf z' = m at hne
    rw [List.getD_eq_getElem?_getD, List.getD_eq_getElem?_getD]
    by_cases hm : m < A.length
    · rw [List.getElem?_append_left (by rw [hl]; exact hm), List.getElem?_append_left (by rw [hl]; exact hm)]
    · rw [List.getElem?_append_right (by rw [hl]; omega), List.getElem?_append_right (by rw [hl]; omega), hl]
      have : m - A.length = (m - A.length - 1) + 1 := by omega
      rw [this]
      rfl
  · intro hpt
    obtain ⟨f, hf, h1, h2⟩ := needed_dep hw t lo p h hpt
    have hA : p ∉ A := fun z => by
      rw [List.nodup_append] at hn
      exact hn.2.2 p z p List.mem_cons_self rfl
    have hB : p ∉ B := fun z => by
      rw [List.nodup_append, List.nodup_cons] at hn
      exact hn.2.1.1 z
    obtain ⟨i, hi⟩ := ix_of (hs_map (ps := A) hf)
    obtain ⟨j, hj⟩ := ix_of (hs_map (ps := B) hf)
    have hjn : j < n := by rw [← hnn]; exact (List.getElem?_eq_some_iff.mp hj).1
    have hiA : i < (hs ws A).length := (List.getElem?_eq_some_iff.mp hi).1
    have g1 := hs_at (p := p) (x := f p) hi hj (by omega)
    have g2 := hs_at (p := p) (x := f p + 1) hi hj (by omega)
    have m1 : A.map f ++ f p :: B.map f = (A ++ p :: B).map f := by rw [List.map_append, List.map_cons]
    have m2 : A.map f ++ (f p + 1) :: B.map f = (A ++ p :: B).map (up f p (f p + 1)) := by
      rw [List.map_append, List.map_cons, up_same]
      congr 1
      · exact List.map_congr_left fun q hq => (up_ne fun e => hA (by rw [← e]; exact hq)).symm
      · congr 1
        exact List.map_congr_left fun q hq => (up_ne fun e => hB (by rw [← e]; exact hq)).symm
    rw [m1, hnn] at g1
    rw [m2, hnn] at g2
    refine ⟨i * (wd ws p * n) + (f p * n + j), (List.getElem?_eq_some_iff.mp g1).1, ?_⟩
    rw [ndB, idx_split (by omega) hjn, Bool.and_eq_true, decide_eq_true_eq, decide_eq_true_eq]
    refine ⟨by omega, ?_⟩
    have e5 : i * (wd ws p * n) + (f p * n + j) + n = i * (wd ws p * n) + ((f p + 1) * n + j) := by rw [Nat.add_mul]; omega
    rw [e5, hT _ _ g1, hT _ _ g2, tl_map hp, tl_map hp]
    exact h2
end
end LW
set_option Elab.async false
set_option linter.all false
set_option maxRecDepth 100000
namespace LW
open PySem PySem.Spec L2 DW
section
variable {ws : List Int} {oc r : Nat}
/-- the needed places from st on -/
def nsGe (ns : List Nat) (st : Nat) : List Nat := ns.filter fun p => decide (st ≤ p)
def nsLt (ns : List Nat) (st : Nat) : List Nat := ns.filter fun p => decide (p < st)
theorem nsGe_in {ns : List Nat} (h : ns.Pairwise (· < ·)) {st : Nat} (hs : st ∈ ns) : nsGe ns st = st :: nsGe ns (st + 1) := by
  induction ns with
  | nil => cases hs
  | cons a l ih =>
    obtain ⟨h1, h2⟩ := List.pairwise_cons.mp h
    unfold nsGe at ih ⊢
    rcases List.mem_cons.mp hs with e | e
    · subst e
      rw [List.filter_cons, if_pos (by simp), List.filter_cons, if_neg (by simp)]
      congr 1
      refine List.filter_congr fun q hq => ?_
      have := h1 q hq
      rw [decide_eq_decide]
      omega
    · have := h1 st e
      rw [List.filter_cons, if_neg (by simp; omega), List.filter_cons, if_neg (by simp; omega), ih h2 e]
theorem nsGe_out {ns : List Nat} {st : Nat} (hs : st ∉ ns) : nsGe ns st = nsGe ns (st + 1) := List.filter_congr fun q hq => by
  rw [decide_eq_decide]
  have : q ≠ st := fun e => hs (by rw [← e]; exact hq)
  omega
theorem nsLt_in {ns : List Nat} (h : ns.Pairwise (· < ·)) {st : Nat} (hs : st ∈ ns) : nsLt ns (st + 1) = nsLt ns st ++ [st] := by
  induction ns with
  | nil => cases hs
  | cons a l ih =>
    obtain ⟨h1, h2⟩ := List.pairwise_cons.mp h
    unfold nsLt at ih ⊢
    rcases List.mem_cons.mp hs with e | e
    · subst e
      have e1 : l.filter (fun p => decide (p < st + 1)) = [] := List.filter_eq_nil_iff.mpr fun q hq => by have := h1 q hq; simp; omega
      have e2 : l.filter (fun p => decide (p < st)) = [] := List.filter_eq_nil_iff.mpr fun q hq => by have := h1 q hq; simp; omega
      rw [List.filter_cons, if_pos (by simp), List.filter_cons, if_neg (by simp), e1, e2]
      rfl
    · have := h1 st e
      rw [List.filter_cons, if_pos (by simp; omega), List.filter_cons, if_pos (by simp; omega), ih h2 e]
      rfl
theorem nsLt_out {ns : List Nat} {st : Nat} (hs : st ∉ ns) : nsLt ns (st + 1) = nsLt ns st := List.filter_congr fun q hq => by
  rw [decide_eq_decide]
  have : q ≠ st := fun e => hs (by rw [← e]; exact hq)
  omega
theorem nsLt_idx {ns : List Nat} (h : ns.Pairwise (· < ·)) {st : Nat} (hs : st ∈ ns) : (nsLt ns st).length = ns.idxOf st := by
  induction ns with
  | nil => cases hs
  | cons a l ih =>
    obtain ⟨h1, h2⟩ := List.pairwise_cons.mp h
    unfold nsLt at ih ⊢
    rw [List.idxOf_cons]
    rcases List.mem_cons.mp hs with e | e
    · subst e
      have e2 : l.filter (fun p => decide (p < st)) = [] := List.filter_eq_nil_iff.mpr fun q hq => by have := h1 q hq; simp; omega
      rw [List.filter_cons, if_neg (by simp), e2]
      simp
    · have := h1 st e
      have hne : (a == st) = false := by rw [beq_eq_false_iff_ne]; omega
      rw [List.filter_cons, if_pos (by simp; omega), List.length_cons, ih h2 e, hne]
      rfl
theorem nsLt_all {ns : List Nat} {R : Nat} (h : ∀ q ∈ ns, q < R) : nsLt ns R = ns := List.filter_eq_self.mpr fun q hq => by have := h q hq; simpa using this
theorem nsGe_nil {ns : List Nat} {R : Nat} (h : ∀ q ∈ ns, q < R) : nsGe ns R = [] := List.filter_eq_nil_iff.mpr fun q hq => by have := h q hq; simp; omega
theorem nsGe_0 (ns : List Nat) : nsGe ns 0 = ns := List.filter_eq_self.mpr fun q hq => by simp
theorem nsLt_0 (ns : List Nat) : nsLt ns 0 = [] := List.filter_eq_nil_iff.mpr fun q hq => by simp
/-- the product of the widths of the places that are not needed, k of them looked at from st on -/
def bh (ws : List Int) (ns : List Nat) : Nat → Nat → Nat
  | _, 0 => 1
  | st, k + 1 => bh ws ns (st + 1) k * (if st ∈ ns then 1 else wd ws st)
/-- the ways that are left: the needed places before st are as in f, r is told -/
def Lf (ws : List Int) (t : QT) (ns : List Nat) (r st : Nat) (f : Nat → Nat) : List (List Nat) :=
  ((hs ws (nsGe ns st)).filter fun c => decide (tl t ns ((nsLt ns st).map f ++ c) = r)).map ((nsLt ns st).map f ++ ·)
theorem fm_congr {α β : Type} {F G : α → List β} : ∀ l : List α, (∀ x ∈ l, F x = G x) → l.flatMap F = l.flatMap G
  | [], _ => rfl
  | a :: l, h => by rw [List.flatMap_cons, List.flatMap_cons, h a List.mem_cons_self, fm_congr l fun x hx => h x (List.mem_cons_of_mem _ hx)]
theorem fm_nil {α β : Type} {F : α → List β} : ∀ l : List α, (∀ x ∈ l, F x = []) → l.flatMap F = []
  | [], _ => rfl
  | a :: l, h => by rw [List.flatMap_cons, h a List.mem_cons_self, fm_nil l fun x hx => h x (List.mem_cons_of_mem _ hx)]; rfl
theorem fm_lt {β : Type} (F : Nat → List β) (a : Nat) : ∀ n, a ≤ n → ((List.range n).flatMap fun x => if x < a then F x else []) = (List.range a).flatMap F := fun n => by
  induction n with
  | zero => intro h
            obtain rfl : a = 0 := by omega
            rfl
  | succ n ih =>
    intro h
    by_cases e : a = n + 1
    · subst e
      exact fm_congr _ fun x hx => if_pos (List.mem_range.mp hx)
    · rw [List.range_succ, List.flatMap_append, List.flatMap_cons, List.flatMap_nil, List.append_nil, if_neg (by omega), List.append_nil]
      exact ih (by omega)
theorem fm_eq {β : Type} (F : Nat → List β) (a : Nat) : ∀ n, a < n → ((List.range n).flatMap fun x => if x = a then F x else []) = F a := fun n => by
  induction n with
  | zero => intro h; omega
  | succ n ih =>
    intro h
    rw [List.range_succ, List.flatMap_append, List.flatMap_cons, List.flatMap_nil, List.append_nil]
    by_cases e : a = n
    · subst e
      rw [if_pos rfl, fm_nil _ fun x hx => if_neg (by have := List.mem_range.mp hx; omega)]
      rfl
    · rw [if_neg (Ne.symm e), List.append_nil]
      exact ih (by omega)
theorem smT_range (h : Nat → Nat) : ∀ n, ((List.range n).map h).sum = smT n h
  | 0 => rfl
  | n + 1 => by rw [List.range_succ, List.map_append, List.sum_append, smT_range h n, smT]; simp
theorem Lf_in {t : QT} {ns : List Nat} (hn : ns.Pairwise (· < ·)) {st : Nat} (h : st ∈ ns) (f : Nat → Nat) : Lf ws t ns r st f = (List.range (wd ws st)).flatMap fun x => Lf ws t ns r (st + 1) (up f st x) := by
  unfold Lf
  rw [nsGe_in hn h, hs, List.filter_flatMap, List.map_flatMap]
  congr 1
  funext x
  have e : (nsLt ns (st + 1)).map (up f st x) = (nsLt ns st).map f ++ [x] := by
    rw [nsLt_in hn h, List.map_append, List.map_singleton, up_same]
    congr 1
    refine List.map_congr_left fun q hq => up_ne fun z => ?_
    have := (List.mem_filter.mp hq).2
    simp at this
    omega
  rw [e, List.filter_map, List.map_map]
  congr 1
  · funext c
    show (nsLt ns st).map f ++ x :: c = ((nsLt ns st).map f ++ [x]) ++ c
    simp
  · refine List.filter_congr fun c hc => ?_
    show decide (tl t ns ((nsLt ns st).map f ++ x :: c) = r) = _
    congr 2
    simp
theorem Lf_up {t : QT} {ns : List Nat} {st : Nat} (h : st ∉ ns) (f : Nat → Nat) (x : Nat) : Lf ws t ns r (st + 1) (up f st x) = Lf ws t ns r st f := by
  unfold Lf
  rw [nsGe_out h, nsLt_out h]
  have e : (nsLt ns st).map (up f st x) = (nsLt ns st).map f := List.map_congr_left fun q hq => up_ne fun z => by
    have := (List.mem_filter.mp hq).2
    simp at this
    omega
  rw [e]
theorem Lf_out {t : QT} {ns : List Nat} {st : Nat} (h : st ∉ ns) (f : Nat → Nat) : Lf ws t ns r (st + 1) f = Lf ws t ns r st f := by
  have := Lf_up (ws := ws) (r := r) (t := t) h f (f st)
  rw [up_self] at this
  exact this
theorem Lf_ent {t : QT} {ns : List Nat} (hn : ns.Pairwise (· < ·)) {st : Nat} (h : st ∈ ns) {f : Nat → Nat} {x : Nat} {c : List Nat} (hc : c ∈ Lf ws t ns r (st + 1) (up f st x)) : c.getD (ns.idxOf st) 0 = x := by
  unfold Lf at hc
  obtain ⟨c', _, rfl⟩ := List.mem_map.mp hc
  have hl : (nsLt ns (st + 1)).length = ns.idxOf st + 1 := by rw [nsLt_in hn h, List.length_append, nsLt_idx hn h]; rfl
  rw [← nsLt_idx hn h, List.getD_eq_getElem?_getD, List.getElem?_append_left (by rw [List.length_map, hl, nsLt_idx hn h]; omega), nsLt_in hn h, List.map_append, List.getElem?_append_right (by rw [List.length_map]; exact Nat.le_refl _), List.length_map, Nat.sub_self, List.map_singleton, up_same]
  rfl
theorem filter_const {α : Type} {P : α → Bool} {b : Bool} : ∀ l : List α, (∀ x ∈ l, P x = b) → l.filter P = if b then l else []
  | l, h => by
    cases b with
    | true => exact List.filter_eq_self.mpr h
    | false => exact List.filter_eq_nil_iff.mpr fun x hx => by rw [h x hx]; simp
/-- the ways with a lesser entry -/
theorem Lf_less {t : QT} {ns : List Nat} (hn : ns.Pairwise (· < ·)) {st a : Nat} (h : st ∈ ns) (ha : a ≤ wd ws st) (f : Nat → Nat) :
    ((Lf ws t ns r st f).filter fun c => decide (c.getD (ns.idxOf st) 0 < a)).length = smT a fun x => (Lf ws t ns r (st + 1) (up f st x)).length := by
  rw [Lf_in hn h, List.filter_flatMap]
  rw [fm_congr (G := fun x => if x < a then Lf ws t ns r (st + 1) (up f st x) else []) _ fun x hx => ?_, fm_lt _ _ _ ha, List.length_flatMap, smT_range]
  rw [filter_const (b := decide (x < a)) _ fun c hc => by rw [Lf_ent hn h hc]]
  by_cases z : x < a
  · rw [if_pos z, decide_eq_true z]; rfl
  · rw [if_neg z, decide_eq_false z]; rfl
theorem Lf_same {t : QT} {ns : List Nat} (hn : ns.Pairwise (· < ·)) {st : Nat} (h : st ∈ ns) (f : Nat → Nat) (hf : f st < wd ws st) :
    ((Lf ws t ns r st f).filter fun c => decide (c.getD (ns.idxOf st) 0 = f st)) = Lf ws t ns r (st + 1) f := by
  rw [Lf_in hn h, List.filter_flatMap]
  rw [fm_congr (G := fun x => if x = f st then Lf ws t ns r (st + 1) (up f st x) else []) _ fun x hx => ?_, fm_eq _ _ _ hf, up_self]
  rw [filter_const (b := decide (x = f st)) _ fun c hc => by rw [Lf_ent hn h hc]]
  by_cases z : x = f st
  · rw [if_pos z, decide_eq_true z]; rfl
  · rw [if_neg z, decide_eq_false z]; rfl
/-- the count, by the ways that are left -/
theorem cn_Lf {t : QT} {ns : List Nat} (hn : ns.Pairwise (· < ·)) (hp : ∀ q ∈ qPl t, q ∈ ns) {R : Nat} (hR : ∀ q ∈ ns, q < R) : ∀ (k st : Nat) (f : Nat → Nat), st + k = R → cn ws (fun f => qA f t) r k st f = (Lf ws t ns r st f).length * bh ws ns st k := fun k => by
  induction k with
  | zero =>
    intro st f e
    obtain rfl : st = R := by omega
    unfold Lf
    rw [cn, bh, Nat.mul_one, nsGe_nil hR, nsLt_all hR, hs, List.length_map, List.filter_cons, List.append_nil, tl_map hp, List.filter_nil]
    by_cases z : qA f t = r
    · rw [if_pos z.symm, if_pos (decide_eq_true z)]; rfl
    · rw [if_neg (Ne.symm z), if_neg (by simp [z])]; rfl
  | succ k ih =>
    intro st f e
    rw [cn, bh, smT_congr (h' := fun x => (Lf ws t ns r (st + 1) (up f st x)).length * bh ws ns (st + 1) k) _ fun x _ => ih (st + 1) _ (by omega), smT_mul]
    by_cases h : st ∈ ns
    · rw [if_pos h, Lf_in hn h, List.length_flatMap, smT_range, Nat.mul_one]
    · rw [if_neg h, smT_congr (h' := fun _ => (Lf ws t ns r st f).length) _ fun x _ => by rw [Lf_up h], smT_const, Nat.mul_comm (wd ws st), Nat.mul_assoc, Nat.mul_comm (wd ws st)]
/-- one place of the number: as the law counts it -/
theorem rk_step {t : QT} {ns : List Nat} (hn : ns.Pairwise (· < ·)) (hp : ∀ q ∈ qPl t, q ∈ ns) {R : Nat} (hR : ∀ q ∈ ns, q < R) {k st : Nat} {f : Nat → Nat} (hf : ∀ q, f q < wd ws q) (e : st + (k + 1) = R) :
    rk ws (fun f => qA f t) r (k + 1) st f = (if st ∈ ns then ((Lf ws t ns r st f).filter fun c => decide (c.getD (ns.idxOf st) 0 < f st)).length else f st * (Lf ws t ns r st f).length) * bh ws ns (st + 1) k + rk ws (fun f => qA f t) r k (st + 1) f := by
  rw [rk, smT_congr (h' := fun x => (Lf ws t ns r (st + 1) (up f st x)).length * bh ws ns (st + 1) k) _ fun x _ => cn_Lf hn hp hR k (st + 1) _ (by omega), smT_mul]
  congr 2
  by_cases h : st ∈ ns
  · rw [if_pos h, Lf_less hn h (by have := hf st; omega)]
  · rw [if_neg h, smT_congr (h' := fun _ => (Lf ws t ns r st f).length) _ fun x _ => by rw [Lf_up h], smT_const]
end
end LW
set_option Elab.async false
set_option linter.all false
set_option maxRecDepth 100000
namespace LW
open PySem PySem.Spec L2 DW
structure WC (ws : List Int) : Prop where
  len : ws.length ≤ 1000
  lo : ∀ w ∈ ws, (0 : Int) ≤ w
  hi : ∀ w ∈ ws, w < 2 ^ 100
  pr : ∀ j, 0 ≤ prodI (ws.take j) ∧ prodI (ws.take j) < 2 ^ 900
theorem WC.mul {ws : List Int} (h : WC ws) {i : Nat} {z : Int} (e : ws[i]? = some z) : CMulX (prodI (ws.take i)) z := by
  have h1 := h.pr i
  have h2 := h.lo z (List.mem_of_getElem? e)
  have h3 := h.hi z (List.mem_of_getElem? e)
  exact mulx 900 100 (by omega) (by omega) (by decide)
/-- the place of a flat option: the index and the rest -/
def spl : List Nat → Nat → Nat × Nat
  | [], r => (0, r)
  | s :: ss, r => if r < s then (0, r) else ((spl ss (r - s)).1 + 1, (spl ss (r - s)).2)
theorem spl_in : ∀ {ss : List Nat} {j : Nat}, j < ss.sum → ∃ s, ss[(spl ss j).1]? = some s ∧ (spl ss j).2 < s
  | [], j, h => by simp at h
  | s :: ss, j, h => by
    unfold spl
    by_cases q : j < s
    · rw [if_pos q]; exact ⟨s, rfl, q⟩
    · rw [if_neg q]
      obtain ⟨t, h1, h2⟩ := spl_in (ss := ss) (j := j - s) (by rw [List.sum_cons] at h; omega)
      exact ⟨t, by rw [List.getElem?_cons_succ]; exact h1, h2⟩
theorem spl_sum : ∀ {ss : List Nat} {j : Nat}, j < ss.sum → (ss.take (spl ss j).1).sum + (spl ss j).2 = j
  | [], j, h => by simp at h
  | s :: ss, j, h => by
    unfold spl
    by_cases q : j < s
    · rw [if_pos q]; simp
    · rw [if_neg q]
      have ih := spl_sum (ss := ss) (j := j - s) (by rw [List.sum_cons] at h; omega)
      show ((s :: ss).take ((spl ss (j - s)).1 + 1)).sum + (spl ss (j - s)).2 = j
      rw [List.take_succ_cons, List.sum_cons]
      omega
section
variable {ws : List Int} {oc r : Nat}
/-- the widths of k places from a on -/
def wls (ws : List Int) : Nat → Nat → List Int
  | _, 0 => []
  | a, k + 1 => (wd ws a : Int) :: wls ws (a + 1) k
theorem wls_len : ∀ (k a : Nat), (wls ws a k).length = k
  | 0, _ => rfl
  | k + 1, a => by rw [wls, List.length_cons, wls_len k]
theorem wls_get : ∀ (k a i : Nat), i < k → (wls ws a k)[i]? = some (wd ws (a + i) : Int)
  | 0, _, _, h => by omega
  | k + 1, a, 0, h => rfl
  | k + 1, a, i + 1, h => by rw [wls, List.getElem?_cons_succ, wls_get k (a + 1) i (by omega), show a + 1 + i = a + (i + 1) by omega]
theorem wls_rng (k a : Nat) : wls ws a k = (List.range k).map fun i => (wd ws (a + i) : Int) := by
  refine List.ext_getElem? fun i => ?_
  by_cases h : i < k
  · rw [wls_get k a i h, List.getElem?_map, List.getElem?_range h]; rfl
  · rw [List.getElem?_eq_none (by rw [wls_len]; omega), List.getElem?_eq_none (by simp; omega)]
theorem wls_take : ∀ (k a j : Nat), (wls ws a k).take j = wls ws a (min j k)
  | 0, _, _ => by rw [Nat.min_zero, wls, List.take_nil]
  | k + 1, a, 0 => by rw [Nat.zero_min]; rfl
  | k + 1, a, j + 1 => by rw [wls, List.take_succ_cons, wls_take k (a + 1) j, Nat.succ_min_succ, wls]
theorem prodI_acc : ∀ (l : List Int) (a : Int), l.foldl (· * ·) a = a * l.foldl (· * ·) 1
  | [], a => by simp
  | x :: l, a => by rw [List.foldl_cons, List.foldl_cons, prodI_acc l (a * x), prodI_acc l (1 * x), Int.one_mul, Int.mul_assoc]
theorem prodI_wls : ∀ (k a : Nat), prodI (wls ws a k) = (pwk ws a k : Int)
  | 0, _ => rfl
  | k + 1, a => by
    rw [wls, pwk, prodI, List.foldl_cons, prodI_acc, Int.one_mul, Int.natCast_mul, ← prodI_wls k (a + 1)]
    rfl
theorem pwk_le (hw : WsOk ws) : ∀ (k a : Nat), pwk ws a k ≤ 4 ^ k
  | 0, _ => Nat.le_refl _
  | k + 1, a => by
    rw [pwk, Nat.pow_succ, Nat.mul_comm (4 ^ k)]
    exact Nat.mul_le_mul (hw.wd1 a).2 (pwk_le hw k (a + 1))
theorem wls_pos (hw : WsOk ws) (k a : Nat) : Pos (wls ws a k) := fun w h => by
  rw [wls_rng] at h
  obtain ⟨i, _, rfl⟩ := List.mem_map.mp h
  have := (hw.wd1 (a + i)).1
  omega
theorem pwk_big (hw : WsOk ws) {k : Nat} (a : Nat) (hk : k ≤ 100) : pwk ws a k ≤ 2 ^ 200 := by
  refine Nat.le_trans (pwk_le hw k a) (Nat.le_trans (Nat.pow_le_pow_right (by decide) hk) (by decide))
theorem WC.wls (hw : WsOk ws) {k : Nat} (a : Nat) (hk : k ≤ 100) : WC (wls ws a k) := by
  refine ⟨by rw [wls_len]; omega, fun w h => ?_, fun w h => ?_, fun j => ?_⟩
  · have := wls_pos hw k a w h; omega
  · rw [wls_rng] at h
    obtain ⟨i, _, rfl⟩ := List.mem_map.mp h
    have := (hw.wd1 (a + i)).2
    omega
  · rw [wls_take, prodI_wls]
    have h1 := pwk_big hw (k := min j k) a (by omega)
    have h2 : (2 : Nat) ^ 200 < 2 ^ 900 := by decide
    refine ⟨Int.natCast_nonneg _, ?_⟩
    have h3 : ((pwk ws a (min j k) : Nat) : Int) < ((2 ^ 900 : Nat) : Int) := Int.ofNat_lt.mpr (by omega)
    have h5 : ((2 ^ 900 : Nat) : Int) = 2 ^ 900 := by rw [Int.natCast_pow]; rfl
    rw [h5] at h3
    exact h3
/-- the numbers of a list -/
def zI (l : List Nat) : List Int := l.map fun (n : Nat) => (n : Int)
/-- a right head from a on -/
def HdA (ws : List Int) (a : Nat) (l : List Nat) : Prop := ∀ j, j < l.length → l.getD j 0 < wd ws (a + j)
theorem idxU_wls : ∀ (l : List Nat) (a acc : Nat) (f : Nat → Nat), HdA ws a l → (∀ j, j < l.length → f (a + j) = l.getD j 0) → idxU (acc : Int) (wls ws a l.length) (zI l) = some (((acc * pwk ws a l.length + fi ws f a l.length : Nat)) : Int)
  | [], a, acc, f, h, hf => by
    show some (acc : Int) = _
    rw [List.length_nil, pwk, fi, Nat.mul_one, Nat.add_zero]
  | x :: l, a, acc, f, h, hf => by
    have h0 := h 0 (by simp)
    have f0 := hf 0 (by simp)
    have e0 : (x :: l).getD 0 0 = x := rfl
    rw [e0, Nat.add_zero] at h0 f0
    show (if 0 ≤ (x : Int) ∧ (x : Int) < (wd ws a : Int) then idxU ((acc : Int) * (wd ws a : Int) + (x : Int)) (wls ws (a + 1) l.length) (zI l) else none) = _
    rw [if_pos ⟨by omega, by omega⟩]
    have ih := idxU_wls l (a + 1) (acc * wd ws a + x) f (fun j hj => by have := h (j + 1) (by simpa using hj); rw [show a + 1 + j = a + (j + 1) by omega]; exact this) fun j hj => by have := hf (j + 1) (by simpa using hj); rw [show a + 1 + j = a + (j + 1) by omega]; exact this
    rw [Int.natCast_add, Int.natCast_mul] at ih
    rw [ih, List.length_cons, pwk, fi, f0, Nat.add_mul, Nat.mul_assoc, Nat.add_assoc]
theorem idxU_inv : ∀ (k a : Nat) (acc : Int) (cs : List Int) (v : Int), cs.length = k → idxU acc (wls ws a k) cs = some v → ∃ l : List Nat, cs = zI l ∧ HdA ws a l
  | 0, a, acc, cs, v, hl, h => ⟨[], by rw [List.eq_nil_of_length_eq_zero hl]; rfl, fun j hj => by simp at hj⟩
  | k + 1, a, acc, [], v, hl, h => by simp at hl
  | k + 1, a, acc, c :: cs, v, hl, h => by
    have h : (if 0 ≤ c ∧ c < (wd ws a : Int) then idxU (acc * (wd ws a : Int) + c) (wls ws (a + 1) k) cs else none) = some v := h
    by_cases z : 0 ≤ c ∧ c < (wd ws a : Int)
    · rw [if_pos z] at h
      obtain ⟨l, rfl, hl2⟩ := idxU_inv k (a + 1) _ cs v (by simpa using hl) h
      refine ⟨c.toNat :: l, ?_, fun j hj => ?_⟩
      · show c :: zI l = ((c.toNat : Nat) : Int) :: zI l
        rw [Int.toNat_of_nonneg z.1]
      · cases j with
        | zero => show c.toNat < _; rw [Nat.add_zero]; omega
        | succ j => have := hl2 j (by simpa using hj); rw [show a + 1 + j = a + (j + 1) by omega] at this; exact this
    · rw [if_neg z] at h; cases h
theorem idxU_none {k a : Nat} {cs : List Int} (hl : cs.length = k) {j : Nat} (hj : j < k) {c : Int} (hc : cs[j]? = some c) (h : ¬ (0 ≤ c ∧ c < (wd ws (a + j) : Int))) : idxU 0 (wls ws a k) cs = none := by
  cases e : idxU 0 (wls ws a k) cs with
  | none => rfl
  | some v =>
    obtain ⟨l, rfl, h2⟩ := idxU_inv k a 0 cs v hl e
    rw [zI, List.getElem?_map] at hc
    cases e2 : l[j]? with
    | none => rw [e2] at hc; cases hc
    | some n =>
      rw [e2] at hc
      obtain rfl : (n : Int) = c := Option.some.inj hc
      have := h2 j (List.getElem?_eq_some_iff.mp e2).1
      rw [List.getD_eq_getElem?_getD, e2] at this
      exact absurd ⟨by omega, by have : n < wd ws (a + j) := this; omega⟩ h
/-- the entries of a free number -/
def chN (ws : List Int) (a k i : Nat) : List Nat := (choA (wls ws a k) (i : Int)).map Int.toNat
theorem chN_spec (hw : WsOk ws) {a k i : Nat} (h : i < pwk ws a k) : (chN ws a k i).length = k ∧ HdA ws a (chN ws a k i) ∧ zI (chN ws a k i) = choA (wls ws a k) (i : Int) ∧ ∀ f : Nat → Nat, (∀ j, j < k → f (a + j) = (chN ws a k i).getD j 0) → fi ws f a k = i := by
  have hp := wls_pos hw k a
  have e := idxU_choA (n := (i : Int)) hp (by omega) (by rw [prodI_wls]; omega)
  have hl : (choA (wls ws a k) (i : Int)).length = k := by rw [choA_len, wls_len]
  obtain ⟨l, e2, h2⟩ := idxU_inv k a 0 _ _ hl e
  have e3 : chN ws a k i = l := by
    unfold chN
    rw [e2, zI, List.map_map]
    exact (List.map_congr_left fun x _ => rfl).trans (List.map_id l)
  have hk : l.length = k := by rw [e2, zI, List.length_map] at hl; exact hl
  rw [e3]
  refine ⟨hk, h2, e2.symm, fun f hf => ?_⟩
  have := idxU_wls l a 0 f h2 (by rw [hk]; exact hf)
  rw [hk, ← e2, Nat.zero_mul, Nat.zero_add] at this
  have e4 := e.symm.trans this
  have := Option.some.inj e4
  omega
/-- the head of a number -/
def ha (ws : List Int) (R r : Nat) : QT → Nat → Nat → List Nat
  | .tell _, st, i => chN ws st (R - st) i
  | .look p ts, st, i =>
    chN ws st (p - st) (i / (tc.tcs ws R r ts (p + 1)).sum) ++ (spl (tc.tcs ws R r ts (p + 1)) (i % (tc.tcs ws R r ts (p + 1)).sum)).1 ::
      ((has ws R r ts (p + 1)).getD (spl (tc.tcs ws R r ts (p + 1)) (i % (tc.tcs ws R r ts (p + 1)).sum)).1 fun _ => []) (spl (tc.tcs ws R r ts (p + 1)) (i % (tc.tcs ws R r ts (p + 1)).sum)).2
where has (ws : List Int) (R r : Nat) : List QT → Nat → List (Nat → List Nat)
  | [], _ => []
  | t :: ts, a => (ha ws R r t a) :: has ws R r ts a
theorem has_map {R : Nat} : ∀ (ts : List QT) (a : Nat), ha.has ws R r ts a = ts.map fun t => ha ws R r t a
  | [], _ => rfl
  | t :: ts, a => by rw [ha.has, has_map ts]; rfl
/-- a look, taken apart -/
theorem ha_look {R st i p : Nat} {ts : List QT} (h : i < tc ws R r (.look p ts) st) : ∃ (o j : Nat) (t : QT), ts[o]? = some t ∧ spl (tc.tcs ws R r ts (p + 1)) (i % (tc.tcs ws R r ts (p + 1)).sum) = (o, j) ∧ j < tc ws R r t (p + 1) ∧
    0 < (tc.tcs ws R r ts (p + 1)).sum ∧ i % (tc.tcs ws R r ts (p + 1)).sum < (tc.tcs ws R r ts (p + 1)).sum ∧ i / (tc.tcs ws R r ts (p + 1)).sum < pwk ws st (p - st) ∧
    ((tc.tcs ws R r ts (p + 1)).take o).sum + j = i % (tc.tcs ws R r ts (p + 1)).sum ∧
    ha ws R r (.look p ts) st i = chN ws st (p - st) (i / (tc.tcs ws R r ts (p + 1)).sum) ++ o :: ha ws R r t (p + 1) j := by
  rw [tc] at h
  rw [ha, has_map]
  generalize hS : tc.tcs ws R r ts (p + 1) = cs at *
  have pS : 0 < cs.sum := Nat.pos_of_ne_zero fun z => by rw [z, Nat.mul_zero] at h; omega
  have hm := Nat.mod_lt i pS
  obtain ⟨s, h1, h2⟩ := spl_in hm
  have h3 := spl_sum hm
  generalize hsp : spl cs (i % cs.sum) = pr at *
  obtain ⟨o, j⟩ := pr
  have h1 : cs[o]? = some s := h1
  have h2 : j < s := h2
  have e1 := h1
  rw [← hS, tcs_map, List.getElem?_map] at e1
  cases e2 : ts[o]? with
  | none => rw [e2] at e1; cases e1
  | some t =>
    rw [e2] at e1
    have e1 : tc ws R r t (p + 1) = s := Option.some.inj e1
    refine ⟨o, j, t, e2, rfl, by rw [e1]; exact h2, pS, hm, (Nat.div_lt_iff_lt_mul pS).mpr h, h3, ?_⟩
    show _ ++ o :: ((ts.map fun t => ha ws R r t (p + 1)).getD o _) j = _
    rw [List.getD_eq_getElem?_getD, List.getElem?_map, e2]
    rfl
theorem ha_spec (hw : WsOk ws) {R : Nat} : ∀ (t : QT) (st i : Nat), IsS ws oc st t → (∀ q ∈ qPl t, q < R) → st ≤ R → i < tc ws R r t st →
    (ha ws R r t st i).length = R - st ∧ HdA ws st (ha ws R r t st i) ∧ ∀ f : Nat → Nat, (∀ j, j < R - st → f (st + j) = (ha ws R r t st i).getD j 0) → qA f t = r ∧ ti ws R r f t st = i := fun t => by
  induction t using QT.ind with
  | h1 o =>
    intro st i h hp hR hi
    rw [tc] at hi
    have ho : r = o := Classical.byContradiction fun z => by rw [if_neg z, Nat.mul_zero] at hi; omega
    rw [if_pos ho, Nat.mul_one] at hi
    obtain ⟨a, b, _, c⟩ := chN_spec hw hi
    rw [ha]
    refine ⟨a, b, fun f hf => ⟨ho.symm, ?_⟩⟩
    rw [ti]
    exact c f hf
  | h2 p ts ih =>
    intro st i h hp hR hi
    obtain ⟨o, j, t, et, esp, hj, pS, hm, hd, hsum, eq⟩ := ha_look hi
    have hge := h.ge
    have hpR := hp p (by rw [qPl]; exact List.mem_cons_self)
    have htm := List.mem_of_getElem? et
    have ho : o < wd ws p := by rw [← h.len]; exact (List.getElem?_eq_some_iff.mp et).1
    obtain ⟨a1, b1, _, c1⟩ := chN_spec hw hd
    obtain ⟨a2, b2, c2⟩ := ih t htm (p + 1) j (h.sub htm) (fun q hq => hp q (by rw [qPl]; exact List.mem_cons_of_mem _ (qpls_mem.mpr ⟨t, htm, hq⟩))) (by omega) hj
    rw [eq]
    generalize hl1 : chN ws st (p - st) (i / (tc.tcs ws R r ts (p + 1)).sum) = l1 at *
    generalize hl2 : ha ws R r t (p + 1) j = l2 at *
    have g1 : ∀ z, z < p - st → (l1 ++ o :: l2).getD z 0 = l1.getD z 0 := fun z hz => by rw [List.getD_eq_getElem?_getD, List.getD_eq_getElem?_getD, List.getElem?_append_left (by omega)]
    have g2 : (l1 ++ o :: l2).getD (p - st) 0 = o := by rw [List.getD_eq_getElem?_getD, List.getElem?_append_right (by omega), a1, Nat.sub_self]; rfl
    have g3 : ∀ z, (l1 ++ o :: l2).getD (p - st + 1 + z) 0 = l2.getD z 0 := fun z => by
      rw [List.getD_eq_getElem?_getD, List.getD_eq_getElem?_getD, List.getElem?_append_right (by omega), a1, show p - st + 1 + z - (p - st) = z + 1 by omega]
      rfl
    refine ⟨by rw [List.length_append, List.length_cons, a1, a2]; omega, fun z hz => ?_, fun f hf => ?_⟩
    · rw [List.length_append, List.length_cons, a1, a2] at hz
      by_cases z1 : z < p - st
      · rw [g1 z z1]; exact b1 z (by omega)
      · by_cases z2 : z = p - st
        · rw [z2, g2, show st + (p - st) = p by omega]; exact ho
        · have e : z = p - st + 1 + (z - (p - st) - 1) := by omega
          rw [e, g3, show st + (p - st + 1 + (z - (p - st) - 1)) = p + 1 + (z - (p - st) - 1) by omega]
          exact b2 _ (by omega)
    · have fp : f p = o := by have := hf (p - st) (by omega); rw [g2, show st + (p - st) = p by omega] at this; exact this
      obtain ⟨r1, r2⟩ := c2 f fun z hz => by have := hf (p - st + 1 + z) (by omega); rw [g3, show st + (p - st + 1 + z) = p + 1 + z by omega] at this; exact this
      refine ⟨by rw [qA_look (t := t) (by rw [fp]; exact et)]; exact r1, ?_⟩
      rw [ti, tis_map, fp, List.getD_eq_getElem?_getD, List.getElem?_map, et, c1 f fun z hz => by have := hf z (by omega); rw [g1 z hz] at this; exact this]
      show _ * _ + (_ + ti ws R r f t (p + 1)) = i
      rw [r2, hsum, Nat.mul_comm]
      exact Nat.div_add_mod _ _
end
end LW
set_option Elab.async false
set_option linter.all false
set_option maxRecDepth 100000
set_option maxHeartbeats 4000000
namespace DW
open PySem PySem.Spec PyProof.Rows L2
section
variable {K : Fg} {B : Bx K} {ta tb tc : TE} {φ φ' φ'' : DE} {tas : TA} {ψ : DA} {W : WX} {Ψ : XP} {δ : DEnv} {μ : Sto} {Φ : DK}
def dMakeSD (C : Addr) (c : Con) (dds : List D) (ψ : DA) : DE := fun Ψ δ μ Φ => ψ Ψ δ μ fun ds μ1 => ∀ x, μ1 x = none → c (.hd (.ref x) :: (ds ++ dds)) (sset μ1 x (.ins C [] [])) (fun d μ2 => d = .non ∧ ∃ ns es, μ2 x = some (.ins C ns es) ∧ Φ (.obj C ns es) (sdel μ2 x)) (fun y μ2 => Ψ y δ μ2)
theorem u_makeSD {C : Addr} {c : Con} {dds : List D} : dMakeSD C c dds ψ Ψ δ μ Φ = ψ Ψ δ μ fun ds μ1 => ∀ x, μ1 x = none → c (.hd (.ref x) :: (ds ++ dds)) (sset μ1 x (.ins C [] [])) (fun d μ2 => d = .non ∧ ∃ ns es, μ2 x = some (.ins C ns es) ∧ Φ (.obj C ns es) (sdel μ2 x)) (fun y μ2 => Ψ y δ μ2) := rfl
def rngB (hi : Int) (n : Nat) : List D := (List.range n).map fun (i : Nat) => .int (hi - (i : Int))
theorem rngB_len {hi : Int} {n : Nat} : (rngB hi n).length = n := by unfold rngB; rw [List.length_map, List.length_range]
def iR3 (φ φ' φ'' : DE) : DI := fun Ψ δ μ Φ => φ Ψ δ μ fun x μ1 => φ' Ψ δ μ1 fun y μ2 => φ'' Ψ δ μ2 fun z μ3 => ∃ i j, x = .int i ∧ y = .int j ∧ z = .int (-1) ∧ (-4611686018427387904 ≤ i ∧ i < 4611686018427387904 ∧ -4611686018427387904 ≤ j ∧ j < 4611686018427387904) ∧ Φ (rngB i (i - j).toNat) μ3
theorem u_iR3 {Ls : List D → Sto → Prop} : iR3 φ φ' φ'' Ψ δ μ Ls = φ Ψ δ μ fun x μ1 => φ' Ψ δ μ1 fun y μ2 => φ'' Ψ δ μ2 fun z μ3 => ∃ i j, x = .int i ∧ y = .int j ∧ z = .int (-1) ∧ (-4611686018427387904 ≤ i ∧ i < 4611686018427387904 ∧ -4611686018427387904 ≤ j ∧ j < 4611686018427387904) ∧ Ls (rngB i (i - j).toNat) μ3 := rfl
end
section
variable {K : Fg} {B : Bx K} {ta tb : TE} {φ φ2 : DE} {Ψ : XP} {δ : DEnv} {μ : Sto} {Φ : DK}
def dGetXN (C : Addr) (NS : List Str) (c : Con) (φ φ2 : DE) : DE := fun Ψ δ μ Φ => φ Ψ δ μ fun x μ1 => φ2 Ψ δ μ1 fun y μ2 => ∃ es, x = .obj C NS es ∧ c [x, y] μ2 Φ fun _ _ => False
theorem u_getXN {C : Addr} {NS : List Str} {c : Con} : dGetXN C NS c φ φ2 Ψ δ μ Φ = φ Ψ δ μ fun x μ1 => φ2 Ψ δ μ1 fun y μ2 => ∃ es, x = .obj C NS es ∧ c [x, y] μ2 Φ fun _ _ => False := rfl
end
section
variable {K : Fg} {B : Bx K} {tas : TA} {ψ : DA} {Ψ : XP} {Δ : DEnds} {δ : DEnv} {μ : Sto}
def dPar (i j : Nat) (ψ : DA) : DSt := fun Ψ Δ δ μ => ψ Ψ δ μ fun xs μ1 => ∃ v w, xs = [v, w] ∧ Δ.nx ((δ.set i (some v)).set j (some w)) μ1
theorem u_par {i j : Nat} : dPar i j ψ Ψ Δ δ μ = ψ Ψ δ μ fun xs μ1 => ∃ v w, xs = [v, w] ∧ Δ.nx ((δ.set i (some v)).set j (some w)) μ1 := rfl
end
def cIsiO (C : Addr) : DC := fun xs μ Φ => ∃ ns es, xs = [.obj C ns es, .hd (.ref C)] ∧ Φ (.bl true) μ
theorem w_isiO {C : Addr} {ns : List Str} {es : List D} {μ : Sto} {Φ : DK} : cIsiO C [.obj C ns es, .hd (.ref C)] μ Φ = Φ (.bl true) μ := propext ⟨fun ⟨_, _, e, q⟩ => q, fun q => ⟨ns, es, rfl, q⟩⟩
end DW
set_option Elab.async false
set_option linter.all false
set_option maxRecDepth 100000
set_option maxHeartbeats 4000000
namespace DW
open PySem PySem.Spec PyProof.Rows L2
section
variable {K : Fg} {B : Bx K} {ta : TE} {φ : DE} {Ψ : XP} {δ : DEnv} {μ : Sto} {Φ : DK}
def dCVal (n : Int) : DE := fun _ _ μ Φ => Φ (.int n) μ
theorem sCVal {C : Addr} {mc : Value} {f : Str} {n : Int} (r : ClX.CRead K C mc) (c : ∃ t, ClX.CVal K C mc f (.int n) (.int n t)) (_a : SE B (tC (.ref C)) (dC (.hd (.ref C)))) : SE B (ClX.tCVal K (tC (.ref C)) f) (dCVal n) := fun σ H δ μ Φ Q S q k => by
  obtain ⟨t, h⟩ := c
  exact ⟨C, mc, .int n, _, rfl, r, h, sInt σ H δ μ Φ Q S q k⟩
theorem u_cval {n : Int} : dCVal n Ψ δ μ Φ = Φ (.int n) μ := rfl
end
/-- enumerate(t, start=e2), e2 a constant by name -/
theorem pi_enumTg {X : Cx} {e e2 : Expr} {ta : TA} {p kp pos tpos : Pos} {kk : Nat} {n : Int} {elts : List Expr} (hg : Gl X "enumerate") (hm : X.mg "enumerate" = none) (he : PE X e2 (tC (.int n))) (ha : PA X [e] ta) (h0 : -(2 ^ 63) ≤ n) (h1 : n < 2 ^ 63)
    (hs : starEach [e] X.env = [(false, eval e X.env)] := by rfl) :
    PI X (.Tuple elts kk tpos) (.Call (.Name "enumerate" p) [e] [⟨some "start", e2, kp⟩] pos) (iEnumT X.K n ta) := by
  refine ⟨fun pins s σ H R I h => ?_⟩
  refine wpAny_Call_Name_kw (ld_blt I hg hm boot_enumerate ?_)
  have A := ha.run pos pins s σ H _ I h
  rw [hs] at A ⊢
  refine callWith_tyKw rfl rfl rfl (thn A fun us s1 ⟨vs, H1, I1, r1, q1⟩ => kws_cons ?_)
  obtain ⟨a, xs, rfl, hq, q⟩ := q1
  rw [Vals.ref1 r1]
  obtain ⟨its, rv, p', hz⟩ := I1.tuple hq
  refine thn (he.run pins s1 σ H1 (fun v H2 => v = .int n ∧ H2 = H1) I1 ⟨rfl, rfl⟩) fun u s2 ⟨v, H2, I2, r2, ev, eh⟩ => kws_nil ?_
  subst ev
  rw [eh] at I2
  obtain ⟨t, rfl⟩ := r2
  obtain ⟨its2, rv2, p2', hz2⟩ := I2.tuple hq
  exact enum_begins_start (begins_tuple a its2.toArray) p2' h0 h1 fun h' he ho hsz hk => wpAny_pyIter_enum he (pie_enumT I2 hq he ho hk q)
end DW
set_option Elab.async false
set_option linter.all false
set_option maxRecDepth 100000
set_option maxHeartbeats 4000000
namespace DW
open PySem PySem.Spec PyProof.Rows L2
theorem cr_range1 {X : Cx} : CallR X (.type "range") (fun vs H Q => ∃ j, vs = [V.int j] ∧ ∀ p, H p = none → Q (.ref p) (upd H p (.rng 0 j))) := by
  intro pins s σ H vs us Q I r h
  obtain ⟨j, rfl, q⟩ := h
  cases r with
  | cons r rr =>
    cases rr
    obtain ⟨t, rfl⟩ := r
    refine call_range_1 ⟨.ref s.heap.objs.size, upd H s.heap.objs.size (.rng 0 j), I.laid (t' := s.toks + 1 + 1) (fun b o e => Heap.get?_push_of_some _ e) (Nat.le_refl _) ?_, rfl, q _ (I.hok.fresh (Nat.le_refl _))⟩
    exact ⟨s.toks, t, s.toks + 1, Heap.get?_push_size _ rfl⟩
def iRngV (tl : TE) : TI := fun σ H R => tl σ H fun x H1 => ∃ a lo hi, x = .ref a ∧ H1 a = some (.rng lo hi) ∧ (-(2 ^ 62) ≤ lo ∧ lo < 2 ^ 62 ∧ -(2 ^ 62) ≤ hi ∧ hi < 2 ^ 62) ∧ R (Itr lo (hi - lo).toNat) H1
theorem pi_rngV {X : Cx} {tg l : Expr} {tl : TE} (hl : PE X l tl) : PI X tg l (iRngV tl) := by
  refine ⟨fun pins s σ H R I h => ?_⟩
  refine thn (hl.run pins s σ H _ I h) fun v s1 ⟨x, H1, I1, r1, q1⟩ => ?_
  obtain ⟨a, lo, hi, e, ha, ⟨h1, h2, h3, h4⟩, q⟩ := q1
  subst e
  cases r1
  obtain ⟨t, u, w, ho⟩ := I1.hok a _ ha
  refine wpAny_pyIter_range (show IsRange s1.heap a lo hi 1 t u w from ho) (small_one h1 h2 h3 h4) ?_
  refine ⟨s1.heap.objs.size, [s1.heap.objs.size], _, _, H1, rfl, I1.kept (t' := s1.toks) fun b o e => Heap.get?_push_of_some _ e, turn_range _ lo (hi - lo).toNat, ?_, fun b hb => ?_, q⟩
  · have e1 : lo + ((0 : Nat) : Int) * 1 = lo := by simp
    have e2 : (((hi - lo).toNat : Nat) : Int) - ((0 : Nat) : Int) = Builtin.Range.rangeSize lo hi 1 := by rw [rangeSize_one]; split <;> omega
    show IsRangeIter _ _ (lo + ((0 : Nat) : Int) * 1) ((((hi - lo).toNat : Nat) : Int) - ((0 : Nat) : Int)) 1
    rw [e1, e2]
    exact Heap.get?_push_size _ rfl
  · have e : b = s1.heap.objs.size := by simpa using hb
    subst e
    exact I1.fpOk (Nat.le_refl _) (I1.hok.fresh (Nat.le_refl _))
section
variable {K : Fg} {B : Bx K} {te : TE} {φ : DE} {Ψ : XP} {δ : DEnv} {μ : Sto}
def cRng1 : DC := fun xs μ Φ => ∃ j, xs = [.int j] ∧ ∀ p, μ p = none → Φ (.hd (.ref p)) (sset μ p (.rng 0 j))
theorem sto_rng {H : Hp} {p : Addr} {lo hi : Int} (s : StoOk K μ H) (h : H p = none) : StoOk K (sset μ p (.rng lo hi)) (upd H p (.rng lo hi)) := fun a x q => by
  by_cases ha : a = p
  · subst ha
    rw [sset_same] at q
    cases q
    exact upd_same
  · rw [sset_ne ha] at q
    exact (s a x q).mono (.newC s h) fun u z => by rw [upd_ne ha]; exact z
theorem rcRng1 : RC K (fun vs H Q => ∃ j, vs = [V.int j] ∧ ∀ p, H p = none → Q (.ref p) (upd H p (.rng 0 j))) cRng1 := fun H μ vs ds Φ Q s r q k => by
  obtain ⟨j, rfl, q⟩ := q
  obtain ⟨v, rfl, r⟩ := reps1 r
  obtain rfl := Rep.int_inv r
  exact ⟨j, rfl, fun p hp => k _ _ _ _ (.newC s hp) (sto_rng s hp) (.hd _ .nil) (q p (s.fresh hp))⟩
def iRngD (φ : DE) : DI := fun Ψ δ μ Φ => φ Ψ δ μ fun x μ1 => ∃ a lo hi, x = .hd (.ref a) ∧ μ1 a = some (.rng lo hi) ∧ (-4611686018427387904 ≤ lo ∧ lo < 4611686018427387904 ∧ -4611686018427387904 ≤ hi ∧ hi < 4611686018427387904) ∧ Φ (rngD lo (hi - lo).toNat) μ1
theorem siRngV (a : SE B te φ) : SI B (iRngV te) (iRngD φ) := fun σ H δ μ Φ R S q k =>
  a σ H δ μ _ _ S q fun v H1 x μ1 S1 e1 r1 q1 => by
    obtain ⟨p, lo, hi, rfl, hp, hb, q2⟩ := q1
    obtain rfl := Rep.hd_inv r1
    exact ⟨p, lo, hi, rfl, S1.sto p _ hp, by omega, k _ _ H1 μ1 S1 e1 iter_rng q2⟩
variable {Φ : DK} {R : List D → Sto → Prop}
theorem v_rng1 {x : D} : cRng1 [x] μ Φ = ∃ j, x = .int j ∧ ∀ p, μ p = none → Φ (.hd (.ref p)) (sset μ p (.rng 0 j)) := propext ⟨fun ⟨j, e, q⟩ => by cases e; exact ⟨j, rfl, q⟩, fun ⟨j, e, q⟩ => ⟨j, by rw [e], q⟩⟩
theorem u_rngV : iRngD φ Ψ δ μ R = φ Ψ δ μ fun x μ1 => ∃ a lo hi, x = .hd (.ref a) ∧ μ1 a = some (.rng lo hi) ∧ (-4611686018427387904 ≤ lo ∧ lo < 4611686018427387904 ∧ -4611686018427387904 ≤ hi ∧ hi < 4611686018427387904) ∧ R (rngD lo (hi - lo).toNat) μ1 := rfl
theorem w_rngE {a b : Int} {c d : Int} : (some (Cell.rng a b) = some (Cell.rng c d)) = (a = c ∧ b = d) := propext ⟨fun e => by cases e; exact ⟨rfl, rfl⟩, fun ⟨h, k⟩ => by rw [h, k]⟩
end
end DW
set_option Elab.async false
set_option linter.all false
set_option maxRecDepth 100000
set_option maxHeartbeats 4000000
namespace DW
open PySem PySem.Spec PyProof.Rows L2
end DW
set_option Elab.async false
set_option linter.all false
set_option maxRecDepth 100000
set_option maxHeartbeats 4000000
namespace DW
open PySem PySem.Spec PyProof.Rows L2
section
variable {K : Fg} {B : Bx K} {te : TE} {φ : DE} {Ψ : XP} {δ : DEnv} {μ : Sto} {Φ : DK}
def dRestE (φ : DE) : DE := fun Ψ δ μ Φ => φ Ψ δ μ fun x μ1 => ∃ a ds, x = .hd (.ref a) ∧ μ1 a = some (.lst ds) ∧ Φ (.lst ds) (sset μ1 a (.frz ds))
theorem u_restE : dRestE φ Ψ δ μ Φ = φ Ψ δ μ fun x μ1 => ∃ a ds, x = .hd (.ref a) ∧ μ1 a = some (.lst ds) ∧ Φ (.lst ds) (sset μ1 a (.frz ds)) := rfl
end
end DW
set_option Elab.async false
set_option linter.all false
set_option maxRecDepth 100000
set_option maxHeartbeats 4000000
namespace DW
open PySem PySem.Spec PyProof.Rows L2
section
variable {K : Fg} {B : Bx K} {ta te : TE} {tas : TA} {Ψ : XP} {δ : DEnv} {μ : Sto} {Φ : DK}
/-- what is wanted of a list that is one's own -/
def ownK (Φ : DK) : DK := fun d μ' => ∃ acc, d = .lst acc ∧ ∀ p, μ' p = none → Φ (.hd (.ref p)) (sset μ' p (.lst acc))
def dLcO (ι : DI) (γ : DG) (θ : DT) (φ : DE) (vs : List Nat) : DE := fun Ψ δ μ Φ => dLc ι γ θ φ vs Ψ δ μ (ownK Φ)
theorem u_lcO {ι : DI} {γ : DG} {θ : DT} {φ : DE} {vs : List Nat} : dLcO ι γ θ φ vs Ψ δ μ Φ = ι Ψ δ μ fun xs μ1 => LcG γ θ φ (dwipe δ vs) Ψ xs μ1 (ownK Φ) := rfl
end
end DW
set_option Elab.async false
set_option linter.all false
set_option maxRecDepth 100000
set_option maxHeartbeats 4000000
namespace DW
open PySem PySem.Spec PyProof.Rows L2
section
variable {K : Fg} {B : Bx K} {X : Cx}
theorem reads_ints {h : Heap} : ∀ {ns : List Int} {us : List Value}, Vals (ns.map V.int) us → ReadsAll h us (ns.map PyData.int) []
  | [], [], _ => .nil
  | n :: ns, [], r => by cases r
  | [], _ :: _, r => by cases r
  | n :: ns, u :: us, r => by
    cases r with
    | cons r1 r2 =>
      obtain ⟨t, rfl⟩ := r1
      exact .cons (as := []) (bs := []) (.int n t) (reads_ints r2)
theorem alike_ints (ns : List Int) : PySem.W.AlikeAll (ns.map PyData.int) := ⟨fun x hx y hy => by
  obtain ⟨a, _, rfl⟩ := List.mem_map.mp hx
  obtain ⟨b, _, rfl⟩ := List.mem_map.mp hy
  rfl, fun x hx z => by obtain ⟨a, _, rfl⟩ := List.mem_map.mp hx; cases z⟩
theorem depth_ints : ∀ ns : List Int, PyData.depthAll (ns.map PyData.int) ≤ 1
  | [] => by simp [PyData.depthAll]
  | n :: ns => by
    have := depth_ints ns
    rw [List.map_cons, PyData.depthAll]
    have : PyData.depth (.int n) ≤ 1 := by simp [PyData.depth]
    omega
theorem maxD_is : ∀ (ns : List Int) (a : Int), ∃ m, PySem.W.maxD (.int a) (ns.map PyData.int) = .int m ∧ (m = a ∨ m ∈ ns) ∧ a ≤ m ∧ ∀ y ∈ ns, y ≤ m
  | [], a => ⟨a, rfl, .inl rfl, Int.le_refl _, by simp⟩
  | n :: ns, a => by
    have e : PySem.W.maxD (.int a) ((n :: ns).map PyData.int) = PySem.W.maxD (.int (if a < n then n else a)) (ns.map PyData.int) := by
      unfold PySem.W.maxD
      rw [List.map_cons, List.foldl_cons, PySem.W.dataLt_int]
      by_cases c : a < n
      · rw [if_pos c, if_pos (by simpa using c)]
      · rw [if_neg c, if_neg (by simpa using c)]
    obtain ⟨m, h1, h2, h3, h4⟩ := maxD_is ns (if a < n then n else a)
    refine ⟨m, e.trans h1, ?_, ?_, fun y hy => ?_⟩
    · rcases h2 with h2 | h2
      · by_cases c : a < n
        · rw [if_pos c] at h2; exact .inr (by rw [h2]; exact List.mem_cons_self)
        · rw [if_neg c] at h2; exact .inl h2
      · exact .inr (List.mem_cons_of_mem _ h2)
    · split at h3 <;> omega
    · rcases List.mem_cons.mp hy with z | z
      · subst z; split at h3 <;> omega
      · exact h4 y z
def rMaxT (K : PySem.W.Frag) : List V → Hp → VK → Prop := fun vs H Q => ∃ (a : Addr) (ns : List Int), vs = [.ref a] ∧ SqT K H a (ns.map V.int) ∧ 0 < ns.length ∧ ∀ m, m ∈ ns → (∀ y, y ∈ ns → y ≤ m) → Q (.int m) H
theorem cr_maxT {k : Nat} (hc : X.calm = true) (hr : Room k X.A) : CallR X (.builtin "max") (rMaxT X.K) := fun pins s σ H xs us Q I r q => by
  obtain ⟨a, ns, rfl, hq, hl, q⟩ := q
  rw [Vals.ref1 r]
  obtain ⟨its, rv, p', hz⟩ := I.tuple hq
  cases ns with
  | nil => simp at hl
  | cons n ns =>
    have hu := hr.un
    have hd := depth_ints (n :: ns)
    refine PySem.W.max_tuple_data (x := .int n) (xs := ns.map PyData.int) (as := []) (I.ok.hd hc) p' (reads_ints (ns := n :: ns) rv) (alike_ints (n :: ns)) (by have e : PyData.depthAll (PyData.int n :: ns.map PyData.int) = PyData.depthAll ((n :: ns).map PyData.int) := rfl; omega) fun i v h' tk bs hv hR hk => ?_
    obtain ⟨m, e, h2, h3, h4⟩ := maxD_is ns n
    rw [e] at hR
    cases hR with
    | int _ t =>
      exact ⟨.int m, H, I.kept hk, ⟨t, rfl⟩, q m (h2.elim (fun z => by rw [z]; exact List.mem_cons_self) (List.mem_cons_of_mem _)) fun y hy => by
        rcases List.mem_cons.mp hy with z | z
        · rw [z]; exact h3
        · exact h4 y z⟩
def cMaxT : DC := fun xs μ Φ => ∃ ns : List Int, xs = [.tup (ns.map .int)] ∧ ns ≠ [] ∧ ∀ m, m ∈ ns → (∀ y, y ∈ ns → y ≤ m) → Φ (.int m) μ
theorem rcMaxT : RC K (rMaxT K) cMaxT := fun H μ vs ds Φ Q s r q k => by
  obtain ⟨ns, rfl, hne, q⟩ := q
  obtain ⟨v, rfl, r1⟩ := reps1 r
  obtain ⟨a, us, rfl, h1, h2⟩ := Rep.tup_inv r1
  have e := reps_intsV h2
  subst e
  exact ⟨a, ns, rfl, h1.sq, List.length_pos_iff.2 hne, fun m hm hmax => k _ H _ μ .refl s (.int _ .nil) (q m hm hmax)⟩
theorem w_maxT {ns : List Int} {μ : Sto} {Φ : DK} (h : ns ≠ [] ∧ ∀ m, m ∈ ns → (∀ y, y ∈ ns → y ≤ m) → Φ (.int m) μ) : cMaxT [.tup (ns.map .int)] μ Φ := ⟨ns, rfl, h⟩
end
end DW
set_option Elab.async false
set_option linter.all false
set_option maxRecDepth 100000
set_option maxHeartbeats 4000000
namespace DW
open PySem PySem.Spec PyProof.Rows L2
section
variable {K : Fg} {B : Bx K} {ta : TE} {φ : DE} {Ψ : XP} {δ : DEnv} {μ : Sto} {Th : Bool → Sto → Prop}
def dTruT (φ : DE) : DT := fun Ψ δ μ Φ => φ Ψ δ μ fun x μ1 => ∃ ds, x = .tup ds ∧ Φ (!ds.isEmpty) μ1
theorem u_truT : dTruT φ Ψ δ μ Th = φ Ψ δ μ fun x μ1 => ∃ ds, x = .tup ds ∧ Th (!ds.isEmpty) μ1 := rfl
end
end DW
set_option Elab.async false
set_option linter.all false
set_option maxRecDepth 100000
set_option maxHeartbeats 4000000
namespace DW
open PySem PySem.Spec PyProof.Rows L2
def zip3D : List D → List D → List D → List D
  | x :: xs, y :: ys, z :: zs => .pr [x, y, z] :: zip3D xs ys zs
  | _, _, _ => []
def iZ3 (φ φ' φ'' : DE) : DI := fun Ψ δ μ Φ => φ Ψ δ μ fun x μ1 => φ' Ψ δ μ1 fun y μ2 => φ'' Ψ δ μ2 fun z μ3 => ∃ xs ys zs, x = .tup xs ∧ y = .tup ys ∧ z = .tup zs ∧ Φ (zip3D xs ys zs) μ3
theorem u_iZ3 {φ φ' φ'' : DE} {Ψ : XP} {δ : DEnv} {μ : Sto} {Φ : List D → Sto → Prop} : iZ3 φ φ' φ'' Ψ δ μ Φ = φ Ψ δ μ fun x μ1 => φ' Ψ δ μ1 fun y μ2 => φ'' Ψ δ μ2 fun z μ3 => ∃ xs ys zs, x = .tup xs ∧ y = .tup ys ∧ z = .tup zs ∧ Φ (zip3D xs ys zs) μ3 := rfl
theorem w_zip3E {a b c : List D} {P : List D → List D → List D → Prop} : (∃ xs ys zs, D.tup a = .tup xs ∧ D.tup b = .tup ys ∧ D.tup c = .tup zs ∧ P xs ys zs) = P a b c := propext ⟨fun ⟨_, _, _, e1, e2, e3, q⟩ => by cases e1; cases e2; cases e3; exact q, fun q => ⟨_, _, _, rfl, rfl, rfl, q⟩⟩
end DW
set_option Elab.async false
set_option linter.all false
set_option maxRecDepth 100000
set_option maxHeartbeats 4000000
namespace DW
open PySem PySem.Spec PyProof.Rows L2
section
variable {K : Fg} {B : Bx K}
/-- the classes of a display, all of them own -/
def kitA (K : Fg) : XD → List Addr → Option Bool
  | .mk C _, cs => PySem.W.kitAny K (.ref C) (cs.map Value.ref)
def dIsET (K : Fg) (a : Addr) (x : XD) (ψ : DA) : DE := fun Ψ δ μ Φ => ψ Ψ δ μ fun xs μ1 => ∃ (cs : List Addr) (b : Bool), xs = [.hd (.ref a), .tup (cs.map fun c => .hd (.ref c))] ∧ kitA K x cs = some b ∧ excE K x ∧ Φ (.bl b) μ1
end
section
variable {K : Fg} {Ψ : XP} {δ : DEnv} {μ : Sto} {Φ : DK}
theorem u_isET {a : Addr} {x : XD} {ψ : DA} : dIsET K a x ψ Ψ δ μ Φ = ψ Ψ δ μ fun xs μ1 => ∃ (cs : List Addr) (b : Bool), xs = [.hd (.ref a), .tup (cs.map fun c => .hd (.ref c))] ∧ kitA K x cs = some b ∧ excE K x ∧ Φ (.bl b) μ1 := rfl
theorem hds_inj {es cs : List Addr} (e : es.map (fun c => D.hd (.ref c)) = cs.map fun c => D.hd (.ref c)) : es = cs :=
  (List.map_inj_right (fun _ _ z => by cases z; rfl)).mp e
theorem w_isETg {a : Addr} {es : List Addr} {P : List Addr → Bool → Prop} : (∃ (cs : List Addr) (b : Bool), [D.hd (.ref a), D.tup (es.map fun c => .hd (.ref c))] = [.hd (.ref a), .tup (cs.map fun c => .hd (.ref c))] ∧ P cs b) = ∃ b, P es b := propext ⟨fun ⟨cs, b, e, q⟩ => by
  injection e with _ e
  injection e with e _
  injection e with e
  rw [hds_inj e]; exact ⟨b, q⟩, fun ⟨b, q⟩ => ⟨es, b, rfl, q⟩⟩
theorem w_isET2 {a c1 c2 : Addr} {P : List Addr → Bool → Prop} : (∃ (cs : List Addr) (b : Bool), [D.hd (.ref a), D.tup [.hd (.ref c1), .hd (.ref c2)]] = [.hd (.ref a), .tup (cs.map fun c => .hd (.ref c))] ∧ P cs b) = ∃ b, P [c1, c2] b := w_isETg (es := [c1, c2])
theorem w_isET3 {a c1 c2 c3 : Addr} {P : List Addr → Bool → Prop} : (∃ (cs : List Addr) (b : Bool), [D.hd (.ref a), D.tup [.hd (.ref c1), .hd (.ref c2), .hd (.ref c3)]] = [.hd (.ref a), .tup (cs.map fun c => .hd (.ref c))] ∧ P cs b) = ∃ b, P [c1, c2, c3] b := w_isETg (es := [c1, c2, c3])
theorem w_isET4 {a c1 c2 c3 c4 : Addr} {P : List Addr → Bool → Prop} : (∃ (cs : List Addr) (b : Bool), [D.hd (.ref a), D.tup [.hd (.ref c1), .hd (.ref c2), .hd (.ref c3), .hd (.ref c4)]] = [.hd (.ref a), .tup (cs.map fun c => .hd (.ref c))] ∧ P cs b) = ∃ b, P [c1, c2, c3, c4] b := w_isETg (es := [c1, c2, c3, c4])
end
end DW
set_option Elab.async false
set_option linter.all false
set_option maxRecDepth 100000
namespace DW
open PySem PySem.Spec PyProof.Rows L2
end DW
set_option Elab.async false
set_option linter.all false
set_option maxRecDepth 100000
set_option maxHeartbeats 2000000
namespace DW
open PySem PySem.Spec PyProof.Rows L2
end DW
set_option Elab.async false
set_option linter.all false
set_option maxRecDepth 100000
set_option maxHeartbeats 2000000
namespace DW
open PySem PySem.Spec PyProof.Rows L2
end DW
set_option Elab.async false
set_option linter.all false
set_option maxRecDepth 100000
set_option maxHeartbeats 4000000
namespace DW
open PySem PySem.Spec PyProof.Rows L2
section
variable {K : Fg} {B : Bx K} {X : Cx}
def tMaxD (K : PySem.W.Frag) (ta tb : TE) : TE := fun σ H Q => ta σ H fun x H1 => ∃ (a : Addr) (ns : List Int), x = .ref a ∧ tb σ H1 fun y H2 => ∃ d, y = .int d ∧ SqL K H2 a (ns.map V.int) ∧ (ns = [] → Q (.int d) H2) ∧ ∀ m, m ∈ ns → (∀ y, y ∈ ns → y ≤ m) → Q (.int m) H2
theorem pe_maxD {k : Nat} {a b : Expr} {ta tb : TE} {p kp pos : Pos} (hg : Gl X "max") (hm : X.mg "max" = none) (hc : X.calm = true) (hr : Room k X.A) (ha : PE X a ta) (hb : PE X b tb)
    (na : starEach [a] X.env = (false, eval a X.env) :: starEach [] X.env := by rfl)
    (he : backTo pos (starEach [a] X.env) = (false, eval a X.env) :: backTo pos (starEach [] X.env) := by rfl) (hpl : (backTo pos (starEach [a] X.env)).any (·.1) = false := by rfl)
    (hall : (backToKw pos (keywordEach [⟨some "default", b, kp⟩] X.env)).all (·.1.isSome) = true := by rfl) (hnone : (backToKw pos (keywordEach [⟨some "default", b, kp⟩] X.env)).any (·.1.isNone) = false := by rfl)
    (hks : (backToKw pos (keywordEach [⟨some "default", b, kp⟩] X.env)).filterMap (·.1) = [("default" : Str)] := by rfl) :
    PE X (.Call (.Name "max" p) [a] [⟨some "default", b, kp⟩] pos) (tMaxD X.K ta tb) := by
  refine ⟨fun pins s σ H Q I h => ?_⟩
  refine wpAny_Call_Name_kw (ld_blt I hg hm boot_max ?_)
  refine PyProof.Rows.callWith_kw (args_cons (thn (ha.run pins s σ H _ I h) fun v s1 ⟨x, H1, I1, r1, l, ns, ex, q⟩ => args_nil ?_) na) he hpl hall hnone
  refine PyProof.Rows.kws_cons (thn (hb.run pins s1 σ H1 _ I1 q) fun u s2 ⟨y, H2, I2, r2, d, ey, hq, q1, q2⟩ => PyProof.Rows.kws_nil ?_)
  rw [hks]
  subst ex ey
  cases r1
  obtain ⟨t, rfl⟩ := r2
  obtain ⟨its, rv, p', hz⟩ := I2.list hq
  have hu := hr.un
  have hd := depth_ints ns
  refine PySem.W.max_list_default (xs := ns.map PyData.int) (as := []) (I2.ok.hd hc) p'.isList (reads_ints (ns := ns) rv) (alike_ints ns) (by omega) (fun e h' tk hk => ?_) fun y ys i v h' tk bs e hi hR hk => ?_
  · exact ⟨.int d, H2, I2.kept hk, ⟨t, rfl⟩, q1 (List.map_eq_nil_iff.mp e)⟩
  · cases ns with
    | nil => cases e
    | cons n ns =>
      rw [List.map_cons, List.cons.injEq] at e
      obtain ⟨e1, e2⟩ := e
      subst e1 e2
      obtain ⟨m, e, h2, h3, h4⟩ := maxD_is ns n
      rw [e] at hR
      cases hR with
      | int _ t =>
        exact ⟨.int m, H2, I2.kept hk, ⟨t, rfl⟩, q2 m (h2.elim (fun z => by rw [z]; exact List.mem_cons_self) (List.mem_cons_of_mem _)) fun y hy => by
          rcases List.mem_cons.mp hy with z | z
          · rw [z]; exact h3
          · exact h4 y z⟩
def dMaxD (φa φb : DE) : DE := fun Ψ δ μ Φ => φa Ψ δ μ fun x μ1 => ∃ ns : List Int, x = .lst (ns.map .int) ∧ φb Ψ δ μ1 fun y μ2 => ∃ d, y = .int d ∧ (ns = [] → Φ (.int d) μ2) ∧ ∀ m, m ∈ ns → (∀ y, y ∈ ns → y ≤ m) → Φ (.int m) μ2
theorem sMaxD {ta tb : TE} {φa φb : DE} (a : SE B ta φa) (b : SE B tb φb) : SE B (tMaxD K ta tb) (dMaxD φa φb) := fun σ H δ μ Φ Q S q k =>
  a σ H δ μ _ _ S q fun v H1 x μ1 S1 e1 r1 q1 => by
    obtain ⟨ns, rfl, q1⟩ := q1
    obtain ⟨p, us, rfl, h1, h2⟩ := Rep.lst_inv r1
    have e := reps_intsV h2
    subst e
    refine ⟨p, ns, rfl, b σ H1 δ μ1 _ _ S1 q1 fun w H2 y μ2 S2 e2 r2 q2 => ?_⟩
    obtain ⟨d, rfl, qa, qb⟩ := q2
    obtain rfl := Rep.int_inv r2
    exact ⟨d, rfl, (h1.mono e2).sq, fun z => k _ _ _ μ2 S2 (e1.trans e2) (.int _ .nil) (qa z), fun m h3 h4 => k _ _ _ μ2 S2 (e1.trans e2) (.int _ .nil) (qb m h3 h4)⟩
theorem u_maxD {φa φb : DE} {Ψ : XP} {δ : DEnv} {μ : Sto} {Φ : DK} : dMaxD φa φb Ψ δ μ Φ = φa Ψ δ μ fun x μ1 => ∃ ns : List Int, x = .lst (ns.map .int) ∧ φb Ψ δ μ1 fun y μ2 => ∃ d, y = .int d ∧ (ns = [] → Φ (.int d) μ2) ∧ ∀ m, m ∈ ns → (∀ y, y ∈ ns → y ≤ m) → Φ (.int m) μ2 := rfl
def cSortL : DC := fun xs μ Φ => ∃ ns : List Int, xs = [.lst (ns.map .int)] ∧ ns.length < 64 ∧ ∀ ns' : List Int, ns'.Perm ns → ns'.Pairwise (· ≤ ·) → Φ (.lst (ns'.map .int)) μ
theorem rcSortL : RC K (rSorted K) cSortL := fun H μ vs ds Φ Q s r q k => by
  obtain ⟨ns, rfl, hl, q⟩ := q
  obtain ⟨v, rfl, r1⟩ := reps1 r
  obtain ⟨a, us, rfl, h1, h2⟩ := Rep.lst_inv r1
  have e := reps_intsV h2
  subst e
  exact ⟨a, ns, rfl, h1.sq, hl, fun ns' p hp hs hn => k _ _ _ μ (.new hn) (s.new hn) (rep_lst s hn (reps_of_ints ns')) (q ns' hp hs)⟩
theorem w_sortL {ns : List Int} {μ : Sto} {Φ : DK} (h : ns.length < 64 ∧ ∀ ns' : List Int, ns'.Perm ns → ns'.Pairwise (· ≤ ·) → Φ (.lst (ns'.map .int)) μ) : cSortL [.lst (ns.map .int)] μ Φ := ⟨ns, rfl, h⟩
def dIdxD (φa φb : DE) : DE := fun Ψ δ μ Φ => φa Ψ δ μ fun x μ1 => ∃ ds, x = .lst ds ∧ φb Ψ δ μ1 fun y μ2 => EqSide y ∧ EqSide (.lst ds) ∧ ∃ (j : Nat) (z : D), ds[j]? = some z ∧ eqD z y = true ∧ (∀ (m : Nat) (z' : D), m < j → ds[m]? = some z' → eqD z' y = false) ∧ Φ (.int j) μ2
theorem toPys_get {ds : List D} : ∀ {j : Nat}, (toPys ds)[j]? = (ds[j]?).map toPy := by
  induction ds with
  | nil => intro j; rfl
  | cons d ds ih =>
    intro j
    cases j with
    | zero => rfl
    | succ j => rw [toPys, List.getElem?_cons_succ, List.getElem?_cons_succ]; exact ih
theorem sIdxD {ta tb : TE} {φa φb : DE} (a : SE B ta φa) (b : SE B tb φb) : SE B (tBM K "list" (rIndexD K) ta (tCons tb tNil)) (dIdxD φa φb) := fun σ H δ μ Φ Q S q k =>
  a σ H δ μ _ _ S q fun v H1 x μ1 S1 e1 r1 q1 => by
    obtain ⟨ds, rfl, q1⟩ := q1
    have r1' := r1
    obtain ⟨p, us, rfl, h1, h2⟩ := Rep.lst_inv r1
    refine ⟨.inl ⟨rfl, us, h1.sq⟩, b σ H1 δ μ1 _ _ S1 q1 fun w H2 y μ2 S2 e2 r2 q2 => ?_⟩
    obtain ⟨fy, fd, j, z, hj, hz, hno, q2⟩ := q2
    have hl := dp_one (r1'.mono e2) fd.1
    refine ⟨p, w, toPy y, toPys ds, j, toPy z, rfl, rfl, hl, dp_one r2 fy.1, shaped_of fd.1 fd.2, shaped_of fy.1 fy.2, by rw [toPys_get, hj]; rfl, hz, fun m z' hm hz' => ?_, k _ _ _ μ2 S2 (e1.trans e2) (.int _ .nil) q2⟩
    rw [toPys_get] at hz'
    cases e : ds[m]? with
    | none => rw [e] at hz'; cases hz'
    | some d =>
      rw [e] at hz'
      obtain rfl := Option.some.inj hz'
      exact hno m d hm e
theorem u_idxD {φa φb : DE} {Ψ : XP} {δ : DEnv} {μ : Sto} {Φ : DK} : dIdxD φa φb Ψ δ μ Φ = φa Ψ δ μ fun x μ1 => ∃ ds, x = .lst ds ∧ φb Ψ δ μ1 fun y μ2 => EqSide y ∧ EqSide (.lst ds) ∧ ∃ (j : Nat) (z : D), ds[j]? = some z ∧ eqD z y = true ∧ (∀ (m : Nat) (z' : D), m < j → ds[m]? = some z' → eqD z' y = false) ∧ Φ (.int j) μ2 := rfl
end
end DW
set_option Elab.async false
set_option linter.all false
set_option maxRecDepth 100000
set_option maxHeartbeats 4000000
namespace LW
open PySem PySem.Spec L2 DW PyProof.Rows
def topS (i : Nat) : Stmt := PySem.Challenge.pw_choosersrow_k43_heads_counted_and_number.main.body.getD i (.Pass ⟨0, 0, 0, 0⟩)
local macro_rules | `(tactic| walk_at "wp") => `(tactic| try simp only [u_maxD, u_idxD, u_isET, w_isET2, w_isET3, w_isET4, u_truT, u_iZ3, w_zip3E, u_lcO, u_restE, v_rng1, u_rngV, w_rngE, u_cval, w_isiO, u_par, u_iR3, u_makeSD, u_getXN, rngB_len, u_star, u_rev2L, u_callR, u_binXI, u_callX, u_getX, u_restF, u_binX, u_invX, w_neB, u_methXN, u_makeSN, u_tupR1, u_lc2, u_iZM, w_zipLT, w_zipTL, u_cntL, u_lstR1O, u_fld, w_fld, w_someE, u_setF, u_methX, w_objE, u_makeS, u_sortSet, u_lstR1, u_iZipL, u_iEnL, u_idx, u_popAt, u_cntT, u_idxT, u_callF, w_maxL, w_minL, w_ixDc, w_inDc, w_repL, w_listLs, w_tplT, w_tplP, u_isE, w_isE, u_kitER, u_kitET, u_excE, u_xf, w_xf1, u_slS, u_raise1, u_iEn, w_listStr, w_lenStr, w_catStr, w_ixStr, w_inStr, w_strE, w_strI, w_strS, u_rest, cut_to, cut_from1, Int.zero_add, u_revT, w_repT, u_tupG, u_try, u_gPlain, u_gThen, u_gNil, u_yield, u_gWhile, u_while, u_isX, u_kitR, u_kitT, u_excOk, w_zipE, u_goalX, u_lc, rngD_len, Int.toNat_natCast, u_for, u_iT, u_iL, u_iR1, u_iR2, u_iZ, u_iS, w_lstE, dwipe, u_asg, u_asgS, u_ret, u_retN, u_if, u_next, u_break, u_cont, u_drop, u_raise, u_aug, u_var, u_c, u_op, u_un, u_test, u_and, u_or, u_not, u_yes, u_andV, u_orV, u_notV, u_ifE, u_chain, u_nil, u_cons, u_tup, u_lst, u_own, u_cb, u_call, u_callS, u_name, u_etup, u_enil, u_econs, u_sub, u_app, u_slT, u_slL, u_noPart, u_part, u_revL, ex_some, w_I0, w_I, w_uI, w_int, w_bl, w_isi, w_someb, w_eqI, w_neI, w_eqS, w_neS, w_lenT, w_lenL, w_lenS, w_tupL, w_tupT, w_ixT, w_ixL, w_ixS, w_catT, w_catL, w_all, w_any, w_min2, w_divmod, w_listS, w_listL, w_listT, w_isN, w_notN, w_tupE, w_intE, w_consE, w_hdE, w_cellS, w_set, at0, at1, at2, at3, i_tT, i_tI, i_tB, i_tS, i_nT, i_nI, i_nB, i_nS, i_iT, i_iI, i_iB, i_iS, i_bT, i_bI, i_bB, i_bS, i_sT, i_sI, i_sB, i_sS, v_itemsS, w_eqB, isNone, dstart, List.map, List.length, List.replicate, List.cons_append, List.nil_append, List.append_nil, List.getElem?_cons_zero, List.getElem?_cons_succ, List.set_cons_zero, List.set_cons_succ, ix40, ix42, ix43, true_implies, false_implies, and_true, true_and, Bool.not_true, Bool.not_false, decide_eq_true_eq, decide_eq_false_iff_not, List.length_map, Nat.reduceAdd, reduceCtorEq, v_ixH, v_items, v_itemsT, v_itemsL, v_len, v_tuple, v_list, v_listOwn, sset_same, sset_sset, Option.some.injEq, Cell.lst.injEq, Cell.frz.injEq, false_and, exists_false, or_false, false_or, exists_eq_left', ne_eq, not_false_eq_true, isTup, Bool.true_eq_false, Bool.false_eq_true])
local macro_rules | `(tactic| walk_at "wps") => `(tactic| try simp only [u_seq, u_maxD, u_idxD, u_isET, w_isET2, w_isET3, w_isET4, u_truT, u_iZ3, w_zip3E, u_lcO, u_restE, v_rng1, u_rngV, w_rngE, u_cval, w_isiO, u_par, u_iR3, u_makeSD, u_getXN, rngB_len, u_star, u_rev2L, u_callR, u_binXI, u_callX, u_getX, u_restF, u_binX, u_invX, w_neB, u_methXN, u_makeSN, u_tupR1, u_lc2, u_iZM, w_zipLT, w_zipTL, u_cntL, u_lstR1O, u_fld, w_fld, w_someE, u_setF, u_methX, w_objE, u_makeS, u_sortSet, u_lstR1, u_iZipL, u_iEnL, u_idx, u_popAt, u_cntT, u_idxT, u_callF, w_maxL, w_minL, w_ixDc, w_inDc, w_repL, w_listLs, w_tplT, w_tplP, u_isE, w_isE, u_kitER, u_kitET, u_excE, u_xf, w_xf1, u_slS, u_raise1, u_iEn, w_listStr, w_lenStr, w_catStr, w_ixStr, w_inStr, w_strE, w_strI, w_strS, u_rest, cut_to, cut_from1, Int.zero_add, u_revT, w_repT, u_tupG, u_try, u_gPlain, u_gThen, u_gNil, u_yield, u_gWhile, u_while, u_isX, u_kitR, u_kitT, u_excOk, w_zipE, u_goalX, u_lc, rngD_len, Int.toNat_natCast, u_for, u_iT, u_iL, u_iR1, u_iR2, u_iZ, u_iS, w_lstE, dwipe, u_asg, u_asgS, u_ret, u_retN, u_if, u_next, u_break, u_cont, u_drop, u_raise, u_aug, u_var, u_c, u_op, u_un, u_test, u_and, u_or, u_not, u_yes, u_andV, u_orV, u_notV, u_ifE, u_chain, u_nil, u_cons, u_tup, u_lst, u_own, u_cb, u_call, u_callS, u_name, u_etup, u_enil, u_econs, u_sub, u_app, u_slT, u_slL, u_noPart, u_part, u_revL, ex_some, w_I0, w_I, w_uI, w_int, w_bl, w_isi, w_someb, w_eqI, w_neI, w_eqS, w_neS, w_lenT, w_lenL, w_lenS, w_tupL, w_tupT, w_ixT, w_ixL, w_ixS, w_catT, w_catL, w_all, w_any, w_min2, w_divmod, w_listS, w_listL, w_listT, w_isN, w_notN, w_tupE, w_intE, w_consE, w_hdE, w_cellS, w_set, at0, at1, at2, at3, i_tT, i_tI, i_tB, i_tS, i_nT, i_nI, i_nB, i_nS, i_iT, i_iI, i_iB, i_iS, i_bT, i_bI, i_bB, i_bS, i_sT, i_sI, i_sB, i_sS, v_itemsS, w_eqB, isNone, dstart, List.map, List.length, List.replicate, List.cons_append, List.nil_append, List.append_nil, List.getElem?_cons_zero, List.getElem?_cons_succ, List.set_cons_zero, List.set_cons_succ, ix40, ix42, ix43, true_implies, false_implies, and_true, true_and, Bool.not_true, Bool.not_false, decide_eq_true_eq, decide_eq_false_iff_not, List.length_map, Nat.reduceAdd, reduceCtorEq, v_ixH, v_items, v_itemsT, v_itemsL, v_len, v_tuple, v_list, v_listOwn, sset_same, sset_sset, Option.some.injEq, Cell.lst.injEq, Cell.frz.injEq, false_and, exists_false, or_false, false_or, exists_eq_left', ne_eq, not_false_eq_true, isTup, Bool.true_eq_false, Bool.false_eq_true])
abbrev s_is_number : Stmt := topS 16
abbrev N_is_number : List Str := ["value"]
theorem sc_is_number : FnScope N_is_number ["value"] (defScope s_is_number) := ⟨rfl, rfl, rfl, by decide +kernel, rfl, by decide +kernel, by decide +kernel⟩
abbrev s_is_below : Stmt := topS 17
abbrev N_is_below : List Str := ["value", "limit"]
theorem sc_is_below : FnScope N_is_below ["value", "limit"] (defScope s_is_below) := ⟨rfl, rfl, rfl, by decide +kernel, rfl, by decide +kernel, by decide +kernel⟩
abbrev s_count_choices : Stmt := topS 28
abbrev N_count_choices : List Str := ["widths", "many", "width"]
theorem sc_count_choices : FnScope N_count_choices ["widths"] (defScope s_count_choices) := ⟨rfl, rfl, rfl, by decide +kernel, rfl, by decide +kernel, by decide +kernel⟩
abbrev s_has_outcomes : Stmt := topS 33
abbrev N_has_outcomes : List Str := ["outcomes"]
theorem sc_has_outcomes : FnScope N_has_outcomes ["outcomes"] (defScope s_has_outcomes) := ⟨rfl, rfl, rfl, by decide +kernel, rfl, by decide +kernel, by decide +kernel⟩
abbrev s_width_at : Stmt := topS 40
abbrev N_width_at : List Str := ["widths", "place"]
theorem sc_width_at : FnScope N_width_at ["widths", "place"] (defScope s_width_at) := ⟨rfl, rfl, rfl, by decide +kernel, rfl, by decide +kernel, by decide +kernel⟩
abbrev s_terms_behind : Stmt := topS 41
abbrev N_terms_behind : List Str := ["term"]
theorem sc_terms_behind : FnScope N_terms_behind ["term"] (defScope s_terms_behind) := ⟨rfl, rfl, rfl, by decide +kernel, rfl, by decide +kernel, by decide +kernel⟩
abbrev s_are_widths : Stmt := topS 42
abbrev N_are_widths : List Str := ["widths", "width"]
theorem sc_are_widths : FnScope N_are_widths ["widths"] (defScope s_are_widths) := ⟨rfl, rfl, rfl, by decide +kernel, rfl, by decide +kernel, by decide +kernel⟩
abbrev s_require_form : Stmt := topS 43
abbrev N_require_form : List Str := ["widths", "outcomes"]
theorem sc_require_form : FnScope N_require_form ["widths", "outcomes"] (defScope s_require_form) := ⟨rfl, rfl, rfl, by decide +kernel, rfl, by decide +kernel, by decide +kernel⟩
abbrev s_has_query_form : Stmt := topS 44
abbrev N_has_query_form : List Str := ["term", "widths", "level"]
theorem sc_has_query_form : FnScope N_has_query_form ["term", "widths", "level"] (defScope s_has_query_form) := ⟨rfl, rfl, rfl, by decide +kernel, rfl, by decide +kernel, by decide +kernel⟩
abbrev s_wrong_query : Stmt := topS 45
abbrev N_wrong_query : List Str := ["term", "widths", "outcomes", "level", "index", "below", "path"]
theorem sc_wrong_query : FnScope N_wrong_query ["term", "widths", "outcomes", "level"] (defScope s_wrong_query) := ⟨rfl, rfl, rfl, by decide +kernel, rfl, by decide +kernel, by decide +kernel⟩
abbrev s_places_of : Stmt := topS 46
abbrev N_places_of : List Str := ["term", "below", "place"]
theorem sc_places_of : FnScope N_places_of ["term"] (defScope s_places_of) := ⟨rfl, rfl, rfl, by decide +kernel, rfl, by decide +kernel, by decide +kernel⟩
abbrev s_require_few : Stmt := topS 47
abbrev N_require_few : List Str := ["places", "widths", "place"]
theorem sc_require_few : FnScope N_require_few ["places", "widths"] (defScope s_require_few) := ⟨rfl, rfl, rfl, by decide +kernel, rfl, by decide +kernel, by decide +kernel⟩
abbrev s_fixed_term : Stmt := topS 49
abbrev N_fixed_term : List Str := ["term", "place", "option", "below"]
theorem sc_fixed_term : FnScope N_fixed_term ["term", "place", "option"] (defScope s_fixed_term) := ⟨rfl, rfl, rfl, by decide +kernel, rfl, by decide +kernel, by decide +kernel⟩
abbrev s_Query___init__ : Stmt := clsS (topS 55) 3
abbrev N_Query___init__ : List Str := ["self", "term", "widths", "outcomes", "path"]
theorem sc_Query___init__ : FnScope N_Query___init__ ["self", "term", "widths", "outcomes"] (defScope s_Query___init__) := ⟨rfl, rfl, rfl, by decide +kernel, rfl, by decide +kernel, by decide +kernel⟩
abbrev s_choice_at : Stmt := topS 29
abbrev N_choice_at : List Str := ["widths", "index", "entries", "rest", "width", "entry"]
theorem sc_choice_at : FnScope N_choice_at ["widths", "index"] (defScope s_choice_at) := ⟨rfl, rfl, rfl, by decide +kernel, rfl, by decide +kernel, by decide +kernel⟩
abbrev s_choice_index : Stmt := topS 30
abbrev N_choice_index : List Str := ["widths", "choice", "index", "width", "entry"]
theorem sc_choice_index : FnScope N_choice_index ["widths", "choice"] (defScope s_choice_index) := ⟨rfl, rfl, rfl, by decide +kernel, rfl, by decide +kernel, by decide +kernel⟩
abbrev s_split_option : Stmt := topS 57
abbrev N_split_option : List Str := ["sizes", "option", "index", "rest"]
theorem sc_split_option : FnScope N_split_option ["sizes", "option"] (defScope s_split_option) := ⟨rfl, rfl, rfl, by decide +kernel, rfl, by decide +kernel, by decide +kernel⟩
abbrev s_join_option : Stmt := topS 58
abbrev N_join_option : List Str := ["sizes", "pair", "index", "rest"]
theorem sc_join_option : FnScope N_join_option ["sizes", "pair"] (defScope s_join_option) := ⟨rfl, rfl, rfl, by decide +kernel, rfl, by decide +kernel, by decide +kernel⟩
abbrev s_settled_part : Stmt := topS 61
abbrev N_settled_part : List Str := ["term", "widths", "place", "options", "parts", "option"]
theorem sc_settled_part : FnScope N_settled_part ["term", "widths"] (defScope s_settled_part) := ⟨rfl, rfl, rfl, by decide +kernel, rfl, by decide +kernel, by decide +kernel⟩
abbrev s_settled_term : Stmt := topS 60
abbrev N_settled_term : List Str := ["query"]
theorem sc_settled_term : FnScope N_settled_term ["query"] (defScope s_settled_term) := ⟨rfl, rfl, rfl, by decide +kernel, rfl, by decide +kernel, by decide +kernel⟩
abbrev s_term_reach : Stmt := topS 63
abbrev N_term_reach : List Str := ["term"]
theorem sc_term_reach : FnScope N_term_reach ["term"] (defScope s_term_reach) := ⟨rfl, rfl, rfl, by decide +kernel, rfl, by decide +kernel, by decide +kernel⟩
abbrev s_query_reach : Stmt := topS 62
abbrev N_query_reach : List Str := ["query"]
theorem sc_query_reach : FnScope N_query_reach ["query"] (defScope s_query_reach) := ⟨rfl, rfl, rfl, by decide +kernel, rfl, by decide +kernel, by decide +kernel⟩
abbrev s_require_outcome : Stmt := topS 64
abbrev N_require_outcome : List Str := ["query", "outcome"]
theorem sc_require_outcome : FnScope N_require_outcome ["query", "outcome"] (defScope s_require_outcome) := ⟨rfl, rfl, rfl, by decide +kernel, rfl, by decide +kernel, by decide +kernel⟩
abbrev s_span_widths : Stmt := topS 65
abbrev N_span_widths : List Str := ["widths", "start", "end", "place"]
theorem sc_span_widths : FnScope N_span_widths ["widths", "start", "end"] (defScope s_span_widths) := ⟨rfl, rfl, rfl, by decide +kernel, rfl, by decide +kernel, by decide +kernel⟩
abbrev s_free_widths : Stmt := topS 66
abbrev N_free_widths : List Str := ["query", "term", "start", "reach"]
theorem sc_free_widths : FnScope N_free_widths ["query", "term", "start", "reach"] (defScope s_free_widths) := ⟨rfl, rfl, rfl, by decide +kernel, rfl, by decide +kernel, by decide +kernel⟩
abbrev s_tail_counts : Stmt := topS 67
abbrev N_tail_counts : List Str := ["query", "term", "start", "reach", "free", "counts", "parts", "outcome", "below", "count", "part"]
theorem sc_tail_counts : FnScope N_tail_counts ["query", "term", "start", "reach"] (defScope s_tail_counts) := ⟨rfl, rfl, rfl, by decide +kernel, rfl, by decide +kernel, by decide +kernel⟩
abbrev s_counts_behind : Stmt := topS 68
abbrev N_counts_behind : List Str := ["query", "term", "reach", "outcome", "below"]
theorem sc_counts_behind : FnScope N_counts_behind ["query", "term", "reach", "outcome"] (defScope s_counts_behind) := ⟨rfl, rfl, rfl, by decide +kernel, rfl, by decide +kernel, by decide +kernel⟩
abbrev s_count_heads : Stmt := topS 69
abbrev N_count_heads : List Str := ["query", "term"]
theorem sc_count_heads : FnScope N_count_heads ["query"] (defScope s_count_heads) := ⟨rfl, rfl, rfl, by decide +kernel, rfl, by decide +kernel, by decide +kernel⟩
abbrev s_head_at : Stmt := topS 70
abbrev N_head_at : List Str := ["query", "outcome", "index", "term", "reach", "head", "rest", "counts", "free", "option"]
theorem sc_head_at : FnScope N_head_at ["query", "outcome", "index"] (defScope s_head_at) := ⟨rfl, rfl, rfl, by decide +kernel, rfl, by decide +kernel, by decide +kernel⟩
abbrev s_tail_index : Stmt := topS 72
abbrev N_tail_index : List Str := ["query", "term", "reach", "head", "start", "widths", "end", "free", "option", "counts", "outcome", "rest"]
theorem sc_tail_index : FnScope N_tail_index ["query", "term", "reach", "head", "start"] (defScope s_tail_index) := ⟨rfl, rfl, rfl, by decide +kernel, rfl, by decide +kernel, by decide +kernel⟩
abbrev s_head_index : Stmt := topS 71
abbrev N_head_index : List Str := ["query", "head", "term", "reach"]
theorem sc_head_index : FnScope N_head_index ["query", "head"] (defScope s_head_index) := ⟨rfl, rfl, rfl, by decide +kernel, rfl, by decide +kernel, by decide +kernel⟩
abbrev s__law_start : Stmt := topS 74
abbrev N__law_start : List Str := ["_law_script", "_law_seed", "_law_k"]
theorem sc__law_start : FnScope N__law_start ["_law_script"] (defScope s__law_start) := ⟨rfl, rfl, rfl, by decide +kernel, rfl, by decide +kernel, by decide +kernel⟩
abbrev s__law_pick : Stmt := topS 75
abbrev N__law_pick : List Str := ["_law_state", "_law_limit", "_law_cell", "_law_mixed", "_law_rest"]
theorem sc__law_pick : FnScope N__law_pick ["_law_state", "_law_limit"] (defScope s__law_pick) := ⟨rfl, rfl, rfl, by decide +kernel, rfl, by decide +kernel, by decide +kernel⟩
abbrev s__law_same : Stmt := topS 76
abbrev N__law_same : List Str := ["_law_actual", "_law_due", "_law_p"]
theorem sc__law_same : FnScope N__law_same ["_law_actual", "_law_due"] (defScope s__law_same) := ⟨rfl, rfl, rfl, by decide +kernel, rfl, by decide +kernel, by decide +kernel⟩
abbrev s__law_width : Stmt := topS 77
abbrev N__law_width : List Str := ["_law_widths_here", "_law_place"]
theorem sc__law_width : FnScope N__law_width ["_law_widths_here", "_law_place"] (defScope s__law_width) := ⟨rfl, rfl, rfl, by decide +kernel, rfl, by decide +kernel, by decide +kernel⟩
abbrev s__law_widths : Stmt := topS 78
abbrev N__law_widths : List Str := ["_law_state", "_law_top", "_law_many", "_law_k"]
theorem sc__law_widths : FnScope N__law_widths ["_law_state"] (defScope s__law_widths) := ⟨rfl, rfl, rfl, by decide +kernel, rfl, by decide +kernel, by decide +kernel⟩
abbrev s__law_look_places : Stmt := topS 79
abbrev N__law_look_places : List Str := ["_law_state", "_law_widths_here", "_law_count", "_law_most", "_law_places", "_law_many", "_law_k", "_law_place"]
theorem sc__law_look_places : FnScope N__law_look_places ["_law_state", "_law_widths_here", "_law_count", "_law_most"] (defScope s__law_look_places) := ⟨rfl, rfl, rfl, by decide +kernel, rfl, by decide +kernel, by decide +kernel⟩
abbrev s__law_query_term : Stmt := topS 80
abbrev N__law_query_term : List Str := ["_law_state", "_law_size", "_law_places", "_law_levels", "_law_place", "_law_options", "_law_x"]
theorem sc__law_query_term : FnScope N__law_query_term ["_law_state", "_law_size", "_law_places", "_law_levels"] (defScope s__law_query_term) := ⟨rfl, rfl, rfl, by decide +kernel, rfl, by decide +kernel, by decide +kernel⟩
abbrev s__law_shuffled : Stmt := topS 81
abbrev N__law_shuffled : List Str := ["_law_state", "_law_places", "_law_rest", "_law_k"]
theorem sc__law_shuffled : FnScope N__law_shuffled ["_law_state", "_law_places"] (defScope s__law_shuffled) := ⟨rfl, rfl, rfl, by decide +kernel, rfl, by decide +kernel, by decide +kernel⟩
abbrev s__law_full_query : Stmt := topS 82
abbrev N__law_full_query : List Str := ["_law_state", "_law_size", "_law_order", "_law_marked", "_law_total", "_law_place", "_law_branches", "_law_x", "_law_more"]
theorem sc__law_full_query : FnScope N__law_full_query ["_law_state", "_law_size", "_law_order", "_law_marked", "_law_total"] (defScope s__law_full_query) := ⟨rfl, rfl, rfl, by decide +kernel, rfl, by decide +kernel, by decide +kernel⟩
abbrev s__law_longer : Stmt := topS 83
abbrev N__law_longer : List Str := ["_law_heads_here", "_law_options", "_law_longer_here", "_law_head", "_law_x"]
theorem sc__law_longer : FnScope N__law_longer ["_law_heads_here", "_law_options"] (defScope s__law_longer) := ⟨rfl, rfl, rfl, by decide +kernel, rfl, by decide +kernel, by decide +kernel⟩
abbrev s__law_heads : Stmt := topS 84
abbrev N__law_heads : List Str := ["_law_widths_here", "_law_places", "_law_heads_here", "_law_place"]
theorem sc__law_heads : FnScope N__law_heads ["_law_widths_here", "_law_places"] (defScope s__law_heads) := ⟨rfl, rfl, rfl, by decide +kernel, rfl, by decide +kernel, by decide +kernel⟩
abbrev s__law_tell : Stmt := topS 85
abbrev N__law_tell : List Str := ["_law_term", "_law_places", "_law_head", "_law_k", "_law_entry"]
theorem sc__law_tell : FnScope N__law_tell ["_law_term", "_law_places", "_law_head"] (defScope s__law_tell) := ⟨rfl, rfl, rfl, by decide +kernel, rfl, by decide +kernel, by decide +kernel⟩
abbrev s__law_drawn_term : Stmt := topS 86
abbrev N__law_drawn_term : List Str := ["_law_state", "_law_size", "_law_places", "_law_marked", "_law_place"]
theorem sc__law_drawn_term : FnScope N__law_drawn_term ["_law_state", "_law_size", "_law_places"] (defScope s__law_drawn_term) := ⟨rfl, rfl, rfl, by decide +kernel, rfl, by decide +kernel, by decide +kernel⟩
abbrev s__law_needed : Stmt := topS 87
abbrev N__law_needed : List Str := ["_law_widths_here", "_law_places", "_law_told", "_law_needed_here", "_law_stride", "_law_place", "_law_width_here", "_law_p"]
theorem sc__law_needed : FnScope N__law_needed ["_law_widths_here", "_law_places", "_law_told"] (defScope s__law_needed) := ⟨rfl, rfl, rfl, by decide +kernel, rfl, by decide +kernel, by decide +kernel⟩
abbrev s__law_model : Stmt := topS 88
abbrev N__law_model : List Str := ["_law_term", "_law_widths_here", "_law_places", "_law_told", "_law_needed_here", "_law_choices", "_law_reach", "_law_behind", "_law_back", "_law_place", "_law_width_here", "_law_head", "_law_choice"]
theorem sc__law_model : FnScope N__law_model ["_law_term", "_law_widths_here", "_law_places"] (defScope s__law_model) := ⟨rfl, rfl, rfl, by decide +kernel, rfl, by decide +kernel, by decide +kernel⟩
abbrev s__law_outcome : Stmt := topS 89
abbrev N__law_outcome : List Str := ["_law_model_here", "_law_head", "_law_place"]
theorem sc__law_outcome : FnScope N__law_outcome ["_law_model_here", "_law_head"] (defScope s__law_outcome) := ⟨rfl, rfl, rfl, by decide +kernel, rfl, by decide +kernel, by decide +kernel⟩
abbrev s__law_rank : Stmt := topS 90
abbrev N__law_rank : List Str := ["_law_model_here", "_law_head", "_law_outcome_here", "_law_needed_here", "_law_behind", "_law_left", "_law_rank_here", "_law_place", "_law_p", "_law_x", "_law_choice"]
theorem sc__law_rank : FnScope N__law_rank ["_law_model_here", "_law_head", "_law_outcome_here"] (defScope s__law_rank) := ⟨rfl, rfl, rfl, by decide +kernel, rfl, by decide +kernel, by decide +kernel⟩
abbrev s__law_is_head : Stmt := topS 91
abbrev N__law_is_head : List Str := ["_law_model_here", "_law_head", "_law_entry", "_law_place"]
theorem sc__law_is_head : FnScope N__law_is_head ["_law_model_here", "_law_head"] (defScope s__law_is_head) := ⟨rfl, rfl, rfl, by decide +kernel, rfl, by decide +kernel, by decide +kernel⟩
abbrev s__law_great : Stmt := topS 92
abbrev N__law_great : List Str := ["_law_state", "_law_limit", "_law_number", "_law_k"]
theorem sc__law_great : FnScope N__law_great ["_law_state", "_law_limit"] (defScope s__law_great) := ⟨rfl, rfl, rfl, by decide +kernel, rfl, by decide +kernel, by decide +kernel⟩
abbrev s__law_ask : Stmt := topS 93
abbrev N__law_ask : List Str := ["_law_how", "_law_query", "_law_outcome_here", "_law_index", "_law_head"]
theorem sc__law_ask : FnScope N__law_ask ["_law_how", "_law_query", "_law_outcome_here", "_law_index", "_law_head"] (defScope s__law_ask) := ⟨rfl, rfl, rfl, by decide +kernel, rfl, by decide +kernel, by decide +kernel⟩
abbrev s__law_refused : Stmt := topS 94
abbrev N__law_refused : List Str := ["_law_how", "_law_query", "_law_outcome_here", "_law_index", "_law_head", "e"]
theorem sc__law_refused : FnScope N__law_refused ["_law_how", "_law_query", "_law_outcome_here", "_law_index", "_law_head"] (defScope s__law_refused) := ⟨rfl, rfl, rfl, by decide +kernel, rfl, by decide +kernel, by decide +kernel⟩
abbrev s__law_numbers : Stmt := topS 95
abbrev N__law_numbers : List Str := ["_law_state", "_law_query", "_law_model_here", "_law_outcomes", "_law_r", "_law_many", "_law_indexes_here", "_law_index", "_law_head"]
theorem sc__law_numbers : FnScope N__law_numbers ["_law_state", "_law_query", "_law_model_here", "_law_outcomes"] (defScope s__law_numbers) := ⟨rfl, rfl, rfl, by decide +kernel, rfl, by decide +kernel, by decide +kernel⟩
abbrev s__law_indexes : Stmt := topS 96
abbrev N__law_indexes : List Str := ["_law_state", "_law_query", "_law_model_here", "_law_widths_here", "_law_reach", "_law_drawn", "_law_greatest", "_law_head", "_law_wrong", "_law_outcome_here", "_law_index", "_law_at", "_law_place"]
theorem sc__law_indexes : FnScope N__law_indexes ["_law_state", "_law_query", "_law_model_here"] (defScope s__law_indexes) := ⟨rfl, rfl, rfl, by decide +kernel, rfl, by decide +kernel, by decide +kernel⟩
abbrev s_law : Stmt := topS 97
abbrev N_law : List Str := ["_law_script", "_law_state", "_law_widths_here", "_law_outcomes", "_law_size", "_law_places", "_law_terms", "_law_queries", "_law_models", "_law_turn", "_law_both", "_law_model_here", "_law_counts", "_law_term", "_law_r"]
theorem sc_law : FnScope N_law ["_law_script"] (defScope s_law) := ⟨rfl, rfl, rfl, by decide +kernel, rfl, by decide +kernel, by decide +kernel⟩
set_option genInjectivity false in
structure Txt (P : Program) (w : World) (K : Fg) (mg : Str → Option Value) where
  f_is_number : Addr
  d_is_number : FuncData
  F_is_number : Fun K "is_number" "is_number" s_is_number f_is_number d_is_number
  g_is_number : mg "is_number" = some (.ref f_is_number)
  b_is_number : Binds K d_is_number ["value"] []
  f_is_below : Addr
  d_is_below : FuncData
  F_is_below : Fun K "is_below" "is_below" s_is_below f_is_below d_is_below
  g_is_below : mg "is_below" = some (.ref f_is_below)
  b_is_below : Binds K d_is_below ["value", "limit"] []
  f_count_choices : Addr
  d_count_choices : FuncData
  F_count_choices : Fun K "count_choices" "count_choices" s_count_choices f_count_choices d_count_choices
  g_count_choices : mg "count_choices" = some (.ref f_count_choices)
  b_count_choices : Binds K d_count_choices ["widths"] []
  f_has_outcomes : Addr
  d_has_outcomes : FuncData
  F_has_outcomes : Fun K "has_outcomes" "has_outcomes" s_has_outcomes f_has_outcomes d_has_outcomes
  g_has_outcomes : mg "has_outcomes" = some (.ref f_has_outcomes)
  b_has_outcomes : Binds K d_has_outcomes ["outcomes"] []
  f_width_at : Addr
  d_width_at : FuncData
  F_width_at : Fun K "width_at" "width_at" s_width_at f_width_at d_width_at
  g_width_at : mg "width_at" = some (.ref f_width_at)
  b_width_at : Binds K d_width_at ["widths", "place"] []
  f_terms_behind : Addr
  d_terms_behind : FuncData
  F_terms_behind : Fun K "terms_behind" "terms_behind" s_terms_behind f_terms_behind d_terms_behind
  g_terms_behind : mg "terms_behind" = some (.ref f_terms_behind)
  b_terms_behind : Binds K d_terms_behind ["term"] []
  f_are_widths : Addr
  d_are_widths : FuncData
  F_are_widths : Fun K "are_widths" "are_widths" s_are_widths f_are_widths d_are_widths
  g_are_widths : mg "are_widths" = some (.ref f_are_widths)
  b_are_widths : Binds K d_are_widths ["widths"] []
  f_require_form : Addr
  d_require_form : FuncData
  F_require_form : Fun K "require_form" "require_form" s_require_form f_require_form d_require_form
  g_require_form : mg "require_form" = some (.ref f_require_form)
  b_require_form : Binds K d_require_form ["widths", "outcomes"] []
  f_has_query_form : Addr
  d_has_query_form : FuncData
  F_has_query_form : Fun K "has_query_form" "has_query_form" s_has_query_form f_has_query_form d_has_query_form
  g_has_query_form : mg "has_query_form" = some (.ref f_has_query_form)
  b_has_query_form : Binds K d_has_query_form ["term", "widths", "level"] []
  f_wrong_query : Addr
  d_wrong_query : FuncData
  F_wrong_query : Fun K "wrong_query" "wrong_query" s_wrong_query f_wrong_query d_wrong_query
  g_wrong_query : mg "wrong_query" = some (.ref f_wrong_query)
  b_wrong_query : Binds K d_wrong_query ["term", "widths", "outcomes", "level"] []
  f_places_of : Addr
  d_places_of : FuncData
  F_places_of : Fun K "places_of" "places_of" s_places_of f_places_of d_places_of
  g_places_of : mg "places_of" = some (.ref f_places_of)
  b_places_of : Binds K d_places_of ["term"] []
  f_require_few : Addr
  d_require_few : FuncData
  F_require_few : Fun K "require_few" "require_few" s_require_few f_require_few d_require_few
  g_require_few : mg "require_few" = some (.ref f_require_few)
  b_require_few : Binds K d_require_few ["places", "widths"] []
  f_fixed_term : Addr
  d_fixed_term : FuncData
  F_fixed_term : Fun K "fixed_term" "fixed_term" s_fixed_term f_fixed_term d_fixed_term
  g_fixed_term : mg "fixed_term" = some (.ref f_fixed_term)
  b_fixed_term : Binds K d_fixed_term ["term", "place", "option"] []
  f_Query___init__ : Addr
  d_Query___init__ : FuncData
  F_Query___init__ : Fun K "__init__" "Query.__init__" s_Query___init__ f_Query___init__ d_Query___init__
  b_Query___init__ : Binds K d_Query___init__ ["self", "term", "widths", "outcomes"] []
  f_choice_at : Addr
  d_choice_at : FuncData
  F_choice_at : Fun K "choice_at" "choice_at" s_choice_at f_choice_at d_choice_at
  g_choice_at : mg "choice_at" = some (.ref f_choice_at)
  b_choice_at : Binds K d_choice_at ["widths", "index"] []
  f_choice_index : Addr
  d_choice_index : FuncData
  F_choice_index : Fun K "choice_index" "choice_index" s_choice_index f_choice_index d_choice_index
  g_choice_index : mg "choice_index" = some (.ref f_choice_index)
  b_choice_index : Binds K d_choice_index ["widths", "choice"] []
  f_split_option : Addr
  d_split_option : FuncData
  F_split_option : Fun K "split_option" "split_option" s_split_option f_split_option d_split_option
  g_split_option : mg "split_option" = some (.ref f_split_option)
  b_split_option : Binds K d_split_option ["sizes", "option"] []
  f_join_option : Addr
  d_join_option : FuncData
  F_join_option : Fun K "join_option" "join_option" s_join_option f_join_option d_join_option
  g_join_option : mg "join_option" = some (.ref f_join_option)
  b_join_option : Binds K d_join_option ["sizes", "pair"] []
  f_settled_part : Addr
  d_settled_part : FuncData
  F_settled_part : Fun K "settled_part" "settled_part" s_settled_part f_settled_part d_settled_part
  g_settled_part : mg "settled_part" = some (.ref f_settled_part)
  b_settled_part : Binds K d_settled_part ["term", "widths"] []
  f_settled_term : Addr
  d_settled_term : FuncData
  F_settled_term : Fun K "settled_term" "settled_term" s_settled_term f_settled_term d_settled_term
  g_settled_term : mg "settled_term" = some (.ref f_settled_term)
  b_settled_term : Binds K d_settled_term ["query"] []
  f_term_reach : Addr
  d_term_reach : FuncData
  F_term_reach : Fun K "term_reach" "term_reach" s_term_reach f_term_reach d_term_reach
  g_term_reach : mg "term_reach" = some (.ref f_term_reach)
  b_term_reach : Binds K d_term_reach ["term"] []
  f_query_reach : Addr
  d_query_reach : FuncData
  F_query_reach : Fun K "query_reach" "query_reach" s_query_reach f_query_reach d_query_reach
  g_query_reach : mg "query_reach" = some (.ref f_query_reach)
  b_query_reach : Binds K d_query_reach ["query"] []
  f_require_outcome : Addr
  d_require_outcome : FuncData
  F_require_outcome : Fun K "require_outcome" "require_outcome" s_require_outcome f_require_outcome d_require_outcome
  g_require_outcome : mg "require_outcome" = some (.ref f_require_outcome)
  b_require_outcome : Binds K d_require_outcome ["query", "outcome"] []
  f_span_widths : Addr
  d_span_widths : FuncData
  F_span_widths : Fun K "span_widths" "span_widths" s_span_widths f_span_widths d_span_widths
  g_span_widths : mg "span_widths" = some (.ref f_span_widths)
  b_span_widths : Binds K d_span_widths ["widths", "start", "end"] []
  f_free_widths : Addr
  d_free_widths : FuncData
  F_free_widths : Fun K "free_widths" "free_widths" s_free_widths f_free_widths d_free_widths
  g_free_widths : mg "free_widths" = some (.ref f_free_widths)
  b_free_widths : Binds K d_free_widths ["query", "term", "start", "reach"] []
  f_tail_counts : Addr
  d_tail_counts : FuncData
  F_tail_counts : Fun K "tail_counts" "tail_counts" s_tail_counts f_tail_counts d_tail_counts
  g_tail_counts : mg "tail_counts" = some (.ref f_tail_counts)
  b_tail_counts : Binds K d_tail_counts ["query", "term", "start", "reach"] []
  f_counts_behind : Addr
  d_counts_behind : FuncData
  F_counts_behind : Fun K "counts_behind" "counts_behind" s_counts_behind f_counts_behind d_counts_behind
  g_counts_behind : mg "counts_behind" = some (.ref f_counts_behind)
  b_counts_behind : Binds K d_counts_behind ["query", "term", "reach", "outcome"] []
  f_count_heads : Addr
  d_count_heads : FuncData
  F_count_heads : Fun K "count_heads" "count_heads" s_count_heads f_count_heads d_count_heads
  g_count_heads : mg "count_heads" = some (.ref f_count_heads)
  b_count_heads : Binds K d_count_heads ["query"] []
  f_head_at : Addr
  d_head_at : FuncData
  F_head_at : Fun K "head_at" "head_at" s_head_at f_head_at d_head_at
  g_head_at : mg "head_at" = some (.ref f_head_at)
  b_head_at : Binds K d_head_at ["query", "outcome", "index"] []
  f_tail_index : Addr
  d_tail_index : FuncData
  F_tail_index : Fun K "tail_index" "tail_index" s_tail_index f_tail_index d_tail_index
  g_tail_index : mg "tail_index" = some (.ref f_tail_index)
  b_tail_index : Binds K d_tail_index ["query", "term", "reach", "head", "start"] []
  f_head_index : Addr
  d_head_index : FuncData
  F_head_index : Fun K "head_index" "head_index" s_head_index f_head_index d_head_index
  g_head_index : mg "head_index" = some (.ref f_head_index)
  b_head_index : Binds K d_head_index ["query", "head"] []
  f__law_start : Addr
  d__law_start : FuncData
  F__law_start : Fun K "_law_start" "_law_start" s__law_start f__law_start d__law_start
  g__law_start : mg "_law_start" = some (.ref f__law_start)
  b__law_start : Binds K d__law_start ["_law_script"] []
  f__law_pick : Addr
  d__law_pick : FuncData
  F__law_pick : Fun K "_law_pick" "_law_pick" s__law_pick f__law_pick d__law_pick
  g__law_pick : mg "_law_pick" = some (.ref f__law_pick)
  b__law_pick : Binds K d__law_pick ["_law_state", "_law_limit"] []
  f__law_same : Addr
  d__law_same : FuncData
  F__law_same : Fun K "_law_same" "_law_same" s__law_same f__law_same d__law_same
  g__law_same : mg "_law_same" = some (.ref f__law_same)
  b__law_same : Binds K d__law_same ["_law_actual", "_law_due"] []
  f__law_width : Addr
  d__law_width : FuncData
  F__law_width : Fun K "_law_width" "_law_width" s__law_width f__law_width d__law_width
  g__law_width : mg "_law_width" = some (.ref f__law_width)
  b__law_width : Binds K d__law_width ["_law_widths_here", "_law_place"] []
  f__law_widths : Addr
  d__law_widths : FuncData
  F__law_widths : Fun K "_law_widths" "_law_widths" s__law_widths f__law_widths d__law_widths
  g__law_widths : mg "_law_widths" = some (.ref f__law_widths)
  b__law_widths : Binds K d__law_widths ["_law_state"] []
  f__law_look_places : Addr
  d__law_look_places : FuncData
  F__law_look_places : Fun K "_law_look_places" "_law_look_places" s__law_look_places f__law_look_places d__law_look_places
  g__law_look_places : mg "_law_look_places" = some (.ref f__law_look_places)
  b__law_look_places : Binds K d__law_look_places ["_law_state", "_law_widths_here", "_law_count", "_law_most"] []
  f__law_query_term : Addr
  d__law_query_term : FuncData
  F__law_query_term : Fun K "_law_query_term" "_law_query_term" s__law_query_term f__law_query_term d__law_query_term
  g__law_query_term : mg "_law_query_term" = some (.ref f__law_query_term)
  b__law_query_term : Binds K d__law_query_term ["_law_state", "_law_size", "_law_places", "_law_levels"] []
  f__law_shuffled : Addr
  d__law_shuffled : FuncData
  F__law_shuffled : Fun K "_law_shuffled" "_law_shuffled" s__law_shuffled f__law_shuffled d__law_shuffled
  g__law_shuffled : mg "_law_shuffled" = some (.ref f__law_shuffled)
  b__law_shuffled : Binds K d__law_shuffled ["_law_state", "_law_places"] []
  f__law_full_query : Addr
  d__law_full_query : FuncData
  F__law_full_query : Fun K "_law_full_query" "_law_full_query" s__law_full_query f__law_full_query d__law_full_query
  g__law_full_query : mg "_law_full_query" = some (.ref f__law_full_query)
  b__law_full_query : Binds K d__law_full_query ["_law_state", "_law_size", "_law_order", "_law_marked", "_law_total"] []
  f__law_longer : Addr
  d__law_longer : FuncData
  F__law_longer : Fun K "_law_longer" "_law_longer" s__law_longer f__law_longer d__law_longer
  g__law_longer : mg "_law_longer" = some (.ref f__law_longer)
  b__law_longer : Binds K d__law_longer ["_law_heads_here", "_law_options"] []
  f__law_heads : Addr
  d__law_heads : FuncData
  F__law_heads : Fun K "_law_heads" "_law_heads" s__law_heads f__law_heads d__law_heads
  g__law_heads : mg "_law_heads" = some (.ref f__law_heads)
  b__law_heads : Binds K d__law_heads ["_law_widths_here", "_law_places"] []
  f__law_tell : Addr
  d__law_tell : FuncData
  F__law_tell : Fun K "_law_tell" "_law_tell" s__law_tell f__law_tell d__law_tell
  g__law_tell : mg "_law_tell" = some (.ref f__law_tell)
  b__law_tell : Binds K d__law_tell ["_law_term", "_law_places", "_law_head"] []
  f__law_drawn_term : Addr
  d__law_drawn_term : FuncData
  F__law_drawn_term : Fun K "_law_drawn_term" "_law_drawn_term" s__law_drawn_term f__law_drawn_term d__law_drawn_term
  g__law_drawn_term : mg "_law_drawn_term" = some (.ref f__law_drawn_term)
  b__law_drawn_term : Binds K d__law_drawn_term ["_law_state", "_law_size", "_law_places"] []
  f__law_needed : Addr
  d__law_needed : FuncData
  F__law_needed : Fun K "_law_needed" "_law_needed" s__law_needed f__law_needed d__law_needed
  g__law_needed : mg "_law_needed" = some (.ref f__law_needed)
  b__law_needed : Binds K d__law_needed ["_law_widths_here", "_law_places", "_law_told"] []
  f__law_model : Addr
  d__law_model : FuncData
  F__law_model : Fun K "_law_model" "_law_model" s__law_model f__law_model d__law_model
  g__law_model : mg "_law_model" = some (.ref f__law_model)
  b__law_model : Binds K d__law_model ["_law_term", "_law_widths_here", "_law_places"] []
  f__law_outcome : Addr
  d__law_outcome : FuncData
  F__law_outcome : Fun K "_law_outcome" "_law_outcome" s__law_outcome f__law_outcome d__law_outcome
  g__law_outcome : mg "_law_outcome" = some (.ref f__law_outcome)
  b__law_outcome : Binds K d__law_outcome ["_law_model_here", "_law_head"] []
  f__law_rank : Addr
  d__law_rank : FuncData
  F__law_rank : Fun K "_law_rank" "_law_rank" s__law_rank f__law_rank d__law_rank
  g__law_rank : mg "_law_rank" = some (.ref f__law_rank)
  b__law_rank : Binds K d__law_rank ["_law_model_here", "_law_head", "_law_outcome_here"] []
  f__law_is_head : Addr
  d__law_is_head : FuncData
  F__law_is_head : Fun K "_law_is_head" "_law_is_head" s__law_is_head f__law_is_head d__law_is_head
  g__law_is_head : mg "_law_is_head" = some (.ref f__law_is_head)
  b__law_is_head : Binds K d__law_is_head ["_law_model_here", "_law_head"] []
  f__law_great : Addr
  d__law_great : FuncData
  F__law_great : Fun K "_law_great" "_law_great" s__law_great f__law_great d__law_great
  g__law_great : mg "_law_great" = some (.ref f__law_great)
  b__law_great : Binds K d__law_great ["_law_state", "_law_limit"] []
  f__law_ask : Addr
  d__law_ask : FuncData
  F__law_ask : Fun K "_law_ask" "_law_ask" s__law_ask f__law_ask d__law_ask
  g__law_ask : mg "_law_ask" = some (.ref f__law_ask)
  b__law_ask : Binds K d__law_ask ["_law_how", "_law_query", "_law_outcome_here", "_law_index", "_law_head"] []
  f__law_refused : Addr
  d__law_refused : FuncData
  F__law_refused : Fun K "_law_refused" "_law_refused" s__law_refused f__law_refused d__law_refused
  g__law_refused : mg "_law_refused" = some (.ref f__law_refused)
  b__law_refused : Binds K d__law_refused ["_law_how", "_law_query", "_law_outcome_here", "_law_index", "_law_head"] []
  f__law_numbers : Addr
  d__law_numbers : FuncData
  F__law_numbers : Fun K "_law_numbers" "_law_numbers" s__law_numbers f__law_numbers d__law_numbers
  g__law_numbers : mg "_law_numbers" = some (.ref f__law_numbers)
  b__law_numbers : Binds K d__law_numbers ["_law_state", "_law_query", "_law_model_here", "_law_outcomes"] []
  f__law_indexes : Addr
  d__law_indexes : FuncData
  F__law_indexes : Fun K "_law_indexes" "_law_indexes" s__law_indexes f__law_indexes d__law_indexes
  g__law_indexes : mg "_law_indexes" = some (.ref f__law_indexes)
  b__law_indexes : Binds K d__law_indexes ["_law_state", "_law_query", "_law_model_here"] []
  f_law : Addr
  d_law : FuncData
  F_law : Fun K "law" "law" s_law f_law d_law
  g_law : mg "law" = some (.ref f_law)
  b_law : Binds K d_law ["_law_script"] []
  z_isinstance : mg "isinstance" = none
  z_int : mg "int" = none
  z_bool : mg "bool" = none
  z_all : mg "all" = none
  z_str : mg "str" = none
  z_len : mg "len" = none
  z_enumerate : mg "enumerate" = none
  z_tuple : mg "tuple" = none
  z_divmod : mg "divmod" = none
  z_zip : mg "zip" = none
  z_sorted : mg "sorted" = none
  z_set : mg "set" = none
  z_sum : mg "sum" = none
  z_min : mg "min" = none
  z_range : mg "range" = none
  z_max : mg "max" = none
  z_list : mg "list" = none
  z_any : mg "any" = none
  z_ValueError : mg "ValueError" = none
  g_LETTERS : ∃ t, mg "LETTERS" = some (.str "abcdefghijklmnopqrstuvwxyz" t)
  g_DIGITS : ∃ t, mg "DIGITS" = some (.str "0123456789" t)
  g_LONGEST_WORD : ∃ t, mg "LONGEST_WORD" = some (.int 12 t)
  g_LONGEST_NUMBER : ∃ t, mg "LONGEST_NUMBER" = some (.int 9 t)
  g_NUMBERS_END : ∃ t, mg "NUMBERS_END" = some (.int 1000000000 t)
  g_DEEPEST_TUPLE : ∃ t, mg "DEEPEST_TUPLE" = some (.int 30 t)
  g_MOST_OUTCOMES : ∃ t, mg "MOST_OUTCOMES" = some (.int 4 t)
  g_MOST_WIDTHS : ∃ t, mg "MOST_WIDTHS" = some (.int 6 t)
  g_WIDEST : ∃ t, mg "WIDEST" = some (.int 4 t)
  g_PLACES : ∃ t, mg "PLACES" = some (.int 100 t)
  g_ITEMS_BEFORE : ∃ t, mg "ITEMS_BEFORE" = some (.int 2 t)
  g_TWO_OUTCOMES : ∃ t, mg "TWO_OUTCOMES" = some (.int 2 t)
  c_OutOfRange : Addr
  g_OutOfRange : mg "OutOfRange" = some (.ref c_OutOfRange)
  c_TooLarge : Addr
  g_TooLarge : mg "TooLarge" = some (.ref c_TooLarge)
  c_InvalidQuery : Addr
  g_InvalidQuery : mg "InvalidQuery" = some (.ref c_InvalidQuery)
  c_SizeMismatch : Addr
  g_SizeMismatch : mg "SizeMismatch" = some (.ref c_SizeMismatch)
  c_InvalidPlan : Addr
  g_InvalidPlan : mg "InvalidPlan" = some (.ref c_InvalidPlan)
  c_InvalidTerm : Addr
  g_InvalidTerm : mg "InvalidTerm" = some (.ref c_InvalidTerm)
  c_ChoosersError : Addr
  g_ChoosersError : mg "ChoosersError" = some (.ref c_ChoosersError)
  fi_InvalidQuery : Addr
  di_InvalidQuery : FuncData
  ox_InvalidQuery : OexC K c_InvalidQuery
  ic_InvalidQuery : PySem.W.findIn K (.ref c_InvalidQuery) "__init__" = some (some (.ref fi_InvalidQuery))
  ti_InvalidQuery : PySem.W.typeIn K (.ref fi_InvalidQuery) = some (.type "function")
  no_InvalidQuery : PySem.W.findIn K (.ref c_InvalidQuery) "path" = some none
  xf_InvalidQuery : XfC K c_InvalidQuery
  ec_InvalidQuery : L2.ExcC K c_InvalidQuery
  in_InvalidQuery : ∀ {w : World} {base : Heap} {cx : CXT}, FnOk P w K mg base cx 1 fi_InvalidQuery di_InvalidQuery ["self", "path"] (spInit K c_InvalidQuery "path" (okPath K))
  bi_InvalidQuery : Binds K di_InvalidQuery ["self", "path"] []
  i_InvalidQuery_SizeMismatch : PySem.W.kitOne K (.ref c_InvalidQuery) (.ref c_SizeMismatch) = some false
  i_InvalidQuery_TooLarge : PySem.W.kitOne K (.ref c_InvalidQuery) (.ref c_TooLarge) = some false
  i_InvalidQuery_InvalidPlan : PySem.W.kitOne K (.ref c_InvalidQuery) (.ref c_InvalidPlan) = some false
  i_InvalidQuery_InvalidTerm : PySem.W.kitOne K (.ref c_InvalidQuery) (.ref c_InvalidTerm) = some true
  i_InvalidQuery_ValueError : PySem.W.kitOne K (.ref c_InvalidQuery) (.type "ValueError") = some true
  i_InvalidQuery_OutOfRange : PySem.W.kitOne K (.ref c_InvalidQuery) (.ref c_OutOfRange) = some false
  m_InvalidQuery_ChoosersError : PySem.W.exmOne K (.ref c_InvalidQuery) (.ref c_ChoosersError) = some true
  x_OutOfRange : PySem.W.excIn K c_OutOfRange [.type "ValueError", .type "Exception", .type "BaseException", .type "object"] "ValueError.__new__" = true
  k_OutOfRange : PySem.W.keepIn K (.ref c_OutOfRange) = true
  e_OutOfRange : PySem.W.subIn K (.ref c_OutOfRange) (.type "BaseException") = some true
  t_OutOfRange : PySem.W.typeIn K (.ref c_OutOfRange) = some (.type "type")
  ec_OutOfRange : L2.ExcC K c_OutOfRange
  i_OutOfRange_SizeMismatch : PySem.W.kitOne K (.ref c_OutOfRange) (.ref c_SizeMismatch) = some false
  i_OutOfRange_TooLarge : PySem.W.kitOne K (.ref c_OutOfRange) (.ref c_TooLarge) = some false
  i_OutOfRange_InvalidPlan : PySem.W.kitOne K (.ref c_OutOfRange) (.ref c_InvalidPlan) = some false
  i_OutOfRange_InvalidTerm : PySem.W.kitOne K (.ref c_OutOfRange) (.ref c_InvalidTerm) = some false
  i_OutOfRange_ValueError : PySem.W.kitOne K (.ref c_OutOfRange) (.type "ValueError") = some true
  i_OutOfRange_OutOfRange : PySem.W.kitOne K (.ref c_OutOfRange) (.ref c_OutOfRange) = some true
  m_OutOfRange_ChoosersError : PySem.W.exmOne K (.ref c_OutOfRange) (.ref c_ChoosersError) = some true
  x_TooLarge : PySem.W.excIn K c_TooLarge [.type "ValueError", .type "Exception", .type "BaseException", .type "object"] "ValueError.__new__" = true
  k_TooLarge : PySem.W.keepIn K (.ref c_TooLarge) = true
  e_TooLarge : PySem.W.subIn K (.ref c_TooLarge) (.type "BaseException") = some true
  t_TooLarge : PySem.W.typeIn K (.ref c_TooLarge) = some (.type "type")
  ec_TooLarge : L2.ExcC K c_TooLarge
  i_TooLarge_SizeMismatch : PySem.W.kitOne K (.ref c_TooLarge) (.ref c_SizeMismatch) = some false
  i_TooLarge_TooLarge : PySem.W.kitOne K (.ref c_TooLarge) (.ref c_TooLarge) = some true
  i_TooLarge_InvalidPlan : PySem.W.kitOne K (.ref c_TooLarge) (.ref c_InvalidPlan) = some false
  i_TooLarge_InvalidTerm : PySem.W.kitOne K (.ref c_TooLarge) (.ref c_InvalidTerm) = some false
  i_TooLarge_ValueError : PySem.W.kitOne K (.ref c_TooLarge) (.type "ValueError") = some true
  i_TooLarge_OutOfRange : PySem.W.kitOne K (.ref c_TooLarge) (.ref c_OutOfRange) = some false
  m_TooLarge_ChoosersError : PySem.W.exmOne K (.ref c_TooLarge) (.ref c_ChoosersError) = some true
  c_Query : Addr
  g_Query : mg "Query" = some (.ref c_Query)
  mk_Query : Mk K c_Query f_Query___init__
  cls_Query : Cls K c_Query
  na_Query_term : NoAttr K c_Query "term"
  na_Query_widths : NoAttr K c_Query "widths"
  na_Query_outcomes : NoAttr K c_Query "outcomes"
  mc_Query : Value
  rd_Query : ClX.CRead K c_Query mc_Query
  cv_Query_MOST_LEVELS : ∃ t, ClX.CVal K c_Query mc_Query "MOST_LEVELS" (.int 20) (.int 20 t)
  cv_Query_MOST_LOOKS : ∃ t, ClX.CVal K c_Query mc_Query "MOST_LOOKS" (.int 300) (.int 300 t)
  cv_Query_MOST_CHOICES : ∃ t, ClX.CVal K c_Query mc_Query "MOST_CHOICES" (.int 256) (.int 256 t)
end LW
set_option Elab.async false
set_option linter.all false
set_option maxRecDepth 100000
namespace HX
open PySem PySem.Spec PyProof.Rows L2 DW
abbrev FnI := Option (Str × Str × Arguments × FuncBody × Scope × Addr × List Str × Addr)
def fnI (K : PySem.W.Frag) (a : Addr) : FnI :=
  match List.lookup a K with
  | some ⟨_, _, .func fd, _⟩ => some (fd.name, fd.qualname, fd.params, fd.body, fd.scope, fd.globals, fd.closure.map (·.1), fd.builtins)
  | _ => none
def vI (x q : Str) (st : Stmt) (cl : List Str) : FnI := some (x, q, defArgs st, .stmts (defBody st), defScope st, mainGlobals, cl, builtinsNs)
theorem fn_at {K : PySem.W.Frag} {ats : List (PySem.W.Frag → Addr)} {vals : List FnI} (h : (ats.map fun f => fnI K (f K)) = vals) (i : Nat) {f : PySem.W.Frag → Addr} {v : FnI} (h1 : ats[i]? = some f := by rfl) (h2 : vals[i]? = some v := by rfl) : fnI K (f K) = v := by
  have : (ats.map fun f => fnI K (f K))[i]? = some (fnI K (f K)) := by rw [List.getElem?_map, h1]; rfl
  rw [h, h2] at this
  exact (Option.some.inj this).symm
/-- a def without a cell -/
def fnB (K : PySem.W.Frag) (a : Addr) (q : Str) (dvs : List V) : Bool :=
  PySem.W.keepIn K (.ref a) &&
    match List.lookup a K with
    | some ⟨_, _, .func fd, _⟩ => PySem.W.codeIn K fd.code q && He.dflB K fd.defaults dvs
    | _ => false
theorem fun_of {K : PySem.W.Frag} {a : Addr} {x q : Str} {st : Stmt} (h : fnI K a = vI x q st []) (c : fnB K a q [] = true) : ∃ fd, Fun K x q st a fd := by
  unfold fnI at h
  unfold fnB at c
  obtain ⟨kp, c⟩ := He.ba c
  split at h
  · rename_i oc od fd osl e
    rw [e] at c
    obtain ⟨c1, c2⟩ := He.ba c
    obtain ⟨n1, n2, n3, n4, n5, n6, n7, n8, n9, n10, n11, n12, n13, n14, n15⟩ := fd
    unfold vI at h
    simp only [Option.some.injEq, Prod.mk.injEq, List.map_eq_nil_iff] at h
    obtain ⟨rfl, rfl, rfl, rfl, rfl, rfl, rfl, rfl⟩ := h
    have e2 : n8 = Value.none := by
      rcases He.dflB_ok c2 with ⟨_, z⟩ | ⟨z, _⟩
      · exact z
      · exact absurd rfl z
    subst e2
    exact ⟨_, ⟨_, _, _, _, _, _, _, _, _, rfl, e, c1⟩, kp⟩
  · unfold vI at h; cases h
def intB (K : PySem.W.Frag) (x : Str) (i : Int) : Bool := match PySem.W.nsIn K mainGlobals x with
  | some (some (.int j _)) => decide (j = i)
  | _ => false
theorem intB_ok {K : PySem.W.Frag} {x : Str} {i : Int} (h : intB K x i = true) : ∃ t, PySem.W.nsIn K mainGlobals x = some (some (.int i t)) := by
  unfold intB at h
  split at h
  · rename_i j t e; exact ⟨t, by rw [e, of_decide_eq_true h]⟩
  · cases h
def strB (K : PySem.W.Frag) (x z : Str) : Bool := match PySem.W.nsIn K mainGlobals x with
  | some (some (.str y _)) => decide (y = z)
  | _ => false
theorem strB_ok {K : PySem.W.Frag} {x z : Str} (h : strB K x z = true) : ∃ t, PySem.W.nsIn K mainGlobals x = some (some (.str z t)) := by
  unfold strB at h
  split at h
  · rename_i j t e; exact ⟨t, by rw [e, of_decide_eq_true h]⟩
  · cases h
/-- a constant of a class -/
def cvB (K : PySem.W.Frag) (C : Addr) (y : Str) (i : Int) : Bool := match PySem.W.findCls K (.ref C) (.type "type") y with
  | some (.val (.int j _)) => decide (j = i)
  | _ => false
theorem cvB_ok {K : PySem.W.Frag} {C : Addr} {y : Str} {i : Int} (h : cvB K C y i = true) : ∃ t, PySem.W.findCls K (.ref C) (.type "type") y = some (.val (.int i t)) := by
  unfold cvB at h
  split at h
  · rename_i j t e; exact ⟨t, by rw [e, of_decide_eq_true h]⟩
  · cases h
/-- the class of an error of one's own -/
def excB (K : PySem.W.Frag) (C : Addr) : Bool := match List.lookup C K with
  | some ⟨t, _, .cls cd, sl⟩ => decide (t = .type "type") && (cd.hasDict && (!cd.hasDel && (match cd.mro, sl.toList with
    | .ref D :: bm, [_, _, _, _, some v, _] => decide (D = C) && (decide (v = .builtin "ValueError.__new__") && PySem.HandSPX.refsVE bm)
    | _, _ => false)))
  | _ => false
theorem excB_ok {K : PySem.W.Frag} {C : Addr} (h : excB K C = true) : ∃ nm q N bs bm sn sub ab col dd k0 k1 k2 k3 k5,
    List.lookup C K = some (excClassObj nm q C N bs bm true sn sub ab col dd k0 k1 k2 k3 k5 "ValueError.__new__") ∧ PySem.HandSPX.refsVE bm = true := by
  unfold excB at h
  split at h
  · rename_i t dd cd sl e
    obtain ⟨n1, n2, n3, n4, n5, n6, n7, n8, n9, n10, n11⟩ := cd
    rw [Bool.and_eq_true, Bool.and_eq_true, Bool.and_eq_true] at h
    obtain ⟨h1, h2, h3, h4⟩ := h
    have g1 := of_decide_eq_true h1
    have g2 : n6 = true := h2
    have g3 : n11 = false := by simpa using h3
    clear h1 h2 h3
    subst g1
    subst g2
    subst g3
    split at h4
    · rename_i D bm k0 k1 k2 k3 v k5 em es
      rw [Bool.and_eq_true, Bool.and_eq_true] at h4
      obtain ⟨h5, h6, h7⟩ := h4
      have g4 := of_decide_eq_true h5
      have g5 := of_decide_eq_true h6
      subst g4
      subst g5
      have em : n3 = _ := em
      subst em
      have es : sl = #[k0, k1, k2, k3, some (.builtin "ValueError.__new__"), k5] := by
        have := congrArg List.toArray es
        simpa using this
      subst es
      exact ⟨_, _, _, _, _, _, _, _, _, _, _, _, _, _, _, e, h7⟩
    · cases h4
  · cases h
/-- an own __init__ that calls super().__init__ -/
def initB (K : PySem.W.Frag) (f D : Addr) (q file : Str) : Bool := match List.lookup f K with
  | some ⟨_, _, .func fd, _⟩ => (match fd.defaults, fd.code, fd.closure with
    | .none, .ref cda, [(_, cc)] => PySem.W.codeIn K (.ref cda) q && ((match List.lookup cc K with
        | some ⟨_, _, .cell (some v), _⟩ => decide (v = .ref D)
        | _ => false) && (match List.lookup cda K with
        | some ⟨_, _, .fields vs, _⟩ => (match (vs[2]? : Option Value) with
          | some (Value.str y _) => decide (y = file)
          | _ => false)
        | _ => false))
    | _, _, _ => false)
  | _ => false
theorem init_of {K : PySem.W.Frag} {f D : Addr} {q file : Str} {st : Stmt} (h : fnI K f = vI "__init__" q st ["__class__"]) (c : initB K f D q file = true) :
    ∃ oc od osl kV doc pm an cda ct cc, List.lookup f K = some ⟨oc, od, .func (PySem.W.ksFn "__init__" q (defArgs st) (defBody st) (defScope st) .none kV doc pm an (.ref cda) ct cc), osl⟩ ∧ PySem.W.codeIn K (.ref cda) q = true ∧
      (∃ cl cld csl, List.lookup cc K = some ⟨cl, cld, .cell (some (.ref D)), csl⟩) ∧ ∃ ccl cdd vs ccs tf, List.lookup cda K = some ⟨ccl, cdd, .fields vs, ccs⟩ ∧ vs[2]? = some (.str file tf) := by
  unfold fnI at h
  unfold initB at c
  split at h
  · rename_i oc od fd osl e
    rw [e] at c
    obtain ⟨n1, n2, n3, n4, n5, n6, n7, n8, n9, n10, n11, n12, n13, n14, n15⟩ := fd
    simp only at c
    unfold vI at h
    simp only [Option.some.injEq, Prod.mk.injEq] at h
    obtain ⟨rfl, rfl, rfl, rfl, rfl, rfl, h, rfl⟩ := h
    split at c
    · rename_i cda nm cc
      have hn : nm = "__class__" := by simpa using h
      subst hn
      obtain ⟨c1, c⟩ := He.ba c
      obtain ⟨c2, c3⟩ := He.ba c
      refine ⟨_, _, _, _, _, _, _, _, _, _, e, c1, ?_, ?_⟩
      · split at c2
        · rename_i cl cld v csl e4
          exact ⟨_, _, _, by rw [e4, of_decide_eq_true c2]⟩
        · cases c2
      · split at c3
        · rename_i ccl cdd vs ccs e5
          split at c3
          · rename_i y tf e6
            exact ⟨_, _, _, _, tf, e5, by rw [e6, of_decide_eq_true c3]⟩
          · cases c3
        · cases c3
    · cases c
  · unfold vI at h; cases h
theorem walk_of {l : PySem.W.OpenLaw} {n k : Nat} {q : Program} {loose : List Str} {XP : (Str → Option Value) → Heap → Prop} {YP : World → Heap → Prop} {d : DefRec} {CX : World → CXT} {x : Str}
    (hn : l.most = some n) (h1 : n ≤ sizeLine) (h2 : d.params.defaults = []) (h3 : Room k callerA)
    (F : ∀ (w : World) (mg : Str → Option Value) (fa : Addr) (h : Heap), YP w h → h.Ns mainGlobals mg → mg d.name = some (.ref fa) →
      ∃ (K : PySem.W.Frag) (fd : FuncData) (sp : Sp), K.In h ∧ (∀ (s : Shared) (u : Value), BindsTo s fd ⟨[u], []⟩ [(x, u)]) ∧
        (∀ (H : Hp) (a : Addr) (ns : List Int), ns.length ≤ n → Only H → SqL K H a (ns.map V.int) → sp [V.ref a] H (fun v _ => v = .bl true) fun _ _ _ => False) ∧
        ∀ base : Heap, K.In base → base.Ns mainGlobals mg → FnOk l.prog w K mg base (CX w) k fa fd [x] sp)
    (hcx : ∀ (w : World) (H : Hp) (s : Shared) (e : Value) (s' : Shared), CX w [] H s (fun _ _ _ => False) e s' → False) :
    PySem.W.WalkO q loose XP YP l.row.toRowW d [] (fun f vs => PySem.call f vs) := fun w s₀ s₁ mg mb g y =>
  (walk_ofE (l := l) (q := q) (loose := loose) (XP := XP) (YP := fun w' h => w' = w ∧ YP w' h) (CX := CX w) hn h1 h2 h3 (fun w' mg fa h Y G hm => by
    obtain ⟨rfl, Y⟩ := Y
    exact F w' mg fa h Y G hm) (hcx w) : PySem.W.WalkO q loose XP (fun w' h => w' = w ∧ YP w' h) l.row.toRowW d [] (fun f vs => PySem.call f vs)) w s₀ s₁ mg mb g ⟨rfl, y⟩
end HX
set_option Elab.async false
set_option linter.all false
set_option maxRecDepth 100000
namespace HX
open PySem PySem.Spec PyProof.Rows L2 DW
abbrev KyI := Option (List (Option (Str × Int)))
end HX
set_option Elab.async false
set_option linter.all false
set_option maxRecDepth 100000
namespace HX
open PySem PySem.Spec PyProof.Rows L2 DW
end HX
set_option Elab.async false
set_option linter.all false
set_option maxRecDepth 100000
namespace HX
open PySem PySem.Spec PyProof.Rows L2 DW
def obsW (as : List Addr) (ck : PySem.W.Frag → Bool) (ats ds : List (PySem.W.Frag → Addr)) (g : Addr → Option Obj) : Bool × List FnI × List KyI :=
  (fun K => (ck K, ats.map (fun f => fnI K (f K)), ds.map fun f => He.dicW K (f K))) (He.frG g as)
theorem obsW_eq {as : List Addr} {ck : PySem.W.Frag → Bool} {ats ds : List (PySem.W.Frag → Addr)} {g g' : Addr → Option Obj} (h : ∀ a, g a = g' a) : obsW as ck ats ds g = obsW as ck ats ds g' := by rw [funext h]
def hookW (as : List Addr) (ck : PySem.W.Frag → Bool) (ats : List (PySem.W.Frag → Addr)) (vals : List FnI) (ds : List (PySem.W.Frag → Addr)) (kys : List (List Str)) : PySem.W.Hook where
  α := Bool × List FnI × List KyI
  obs := fun s => obsW as ck ats ds s.heap.get?
  val := fun w => (true, vals, kys.map fun k => some (He.keysIn w.params k))
  says := fun w h => ∃ K : PySem.W.Frag, K.In h ∧ ck K = true ∧ (ats.map fun f => fnI K (f K)) = vals ∧ (ds.map fun f => He.dicW K (f K)) = kys.map fun k => some (He.keysIn w.params k)
  of := fun _ s e => ⟨He.frG s.heap.get? as, He.frG_in, congrArg Prod.fst e, congrArg (fun z => z.2.1) e, congrArg (fun z => z.2.2) e⟩
  keeps := fun _ h h' ⟨K, k, r⟩ hm => ⟨K, fun a o e => hm a o (k a o e), r⟩
end HX
set_option Elab.async false
set_option linter.all false
set_option maxRecDepth 100000
namespace HX
open PySem PySem.Spec PyProof.Rows L2 DW
theorem runEq_and {r : PySem.W.OpenRow} {q : Program} {as : List Addr} {c1 c2 : PySem.W.Frag → Bool} {ats : List (PySem.W.Frag → Addr)} {vals : List FnI} {ds : List (PySem.W.Frag → Addr)} {kys : List (List Str)} {M : Nat} {names : List PySem.Str} {w : World}
    (h1 : HandSHeadRun.RunEq r q (hookW as c1 ats vals ds kys) (fun s => obsW as c1 ats ds (HandSHeadRun.getT s)) M names w)
    (h2 : HandSHeadRun.RunEq r q (hookW as c2 [] [] [] []) (fun s => obsW as c2 [] [] (HandSHeadRun.getT s)) M names w) :
    HandSHeadRun.RunEq r q (hookW as (fun K => c1 K && c2 K) ats vals ds kys) (fun s => obsW as (fun K => c1 K && c2 K) ats ds (HandSHeadRun.getT s)) M names w := by
  intro os
  have e1 := h1 os
  have e2 := h2 os
  clear h1 h2
  revert e1 e2
  cases HandSHeadRun.endF (HandSHeadRun.stepQ (HandSHeadRun.denQ HandSHeadRun.tabQ) r.prog w) M r.prog w os with
  | none => intro e1; cases e1
  | some s =>
    intro e1 e2
    have e1 := Option.some.inj e1
    have e2 := Option.some.inj e2
    have a1 := congrArg (fun z => z.1) e1
    have a2 := congrArg (fun z => z.2.1) e1
    have a3 : obsW as c1 ats ds (HandSHeadRun.getT s) = (true, vals, kys.map fun k => some (He.keysIn w.params k)) := congrArg (fun z => z.2.2) e1
    have a4 : obsW as c2 [] [] (HandSHeadRun.getT s) = (true, [], []) := congrArg (fun z => z.2.2) e2
    refine congrArg some (Prod.ext a1 (Prod.ext a2 ?_))
    have b1 : c1 (He.frG (HandSHeadRun.getT s) as) = true := congrArg (fun z => z.1) a3
    have b2 : c2 (He.frG (HandSHeadRun.getT s) as) = true := congrArg (fun z => z.1) a4
    have b3 := congrArg (fun z => z.2) a3
    refine Prod.ext ?_ b3
    show (c1 _ && c2 _) = true
    rw [b1, b2]; rfl
end HX
set_option Elab.async false
set_option linter.all false
set_option maxRecDepth 100000
set_option maxHeartbeats 4000000
namespace LW
open PySem PySem.Spec L2 DW PyProof.Rows NdefX HX
abbrev si_InvalidTerm : Stmt := (C8.clsBody (topS 3)).getD 0 (.Pass ⟨0, 0, 0, 0⟩)
def ad_c_OutOfRange (_ : PySem.W.Frag) : Addr := 91
def ad_c_TooLarge (_ : PySem.W.Frag) : Addr := 115
def ad_c_InvalidQuery (_ : PySem.W.Frag) : Addr := 79
def ad_c_SizeMismatch (_ : PySem.W.Frag) : Addr := 103
def ad_c_InvalidPlan (_ : PySem.W.Frag) : Addr := 136
def ad_c_InvalidTerm (_ : PySem.W.Frag) : Addr := 67
def ad_c_ChoosersError (_ : PySem.W.Frag) : Addr := 24
def ad_c_Query (_ : PySem.W.Frag) : Addr := 401
def ad_fi_InvalidQuery (_ : PySem.W.Frag) : Addr := 64
def ad_f0 (_ : PySem.W.Frag) : Addr := 145
def ad_f1 (_ : PySem.W.Frag) : Addr := 152
def ad_f2 (_ : PySem.W.Frag) : Addr := 218
def ad_f3 (_ : PySem.W.Frag) : Addr := 239
def ad_f4 (_ : PySem.W.Frag) : Addr := 246
def ad_f5 (_ : PySem.W.Frag) : Addr := 253
def ad_f6 (_ : PySem.W.Frag) : Addr := 258
def ad_f7 (_ : PySem.W.Frag) : Addr := 265
def ad_f8 (_ : PySem.W.Frag) : Addr := 272
def ad_f9 (_ : PySem.W.Frag) : Addr := 279
def ad_f10 (_ : PySem.W.Frag) : Addr := 284
def ad_f11 (_ : PySem.W.Frag) : Addr := 289
def ad_f12 (_ : PySem.W.Frag) : Addr := 301
def ad_f13 (_ : PySem.W.Frag) : Addr := 346
def ad_f14 (_ : PySem.W.Frag) : Addr := 225
def ad_f15 (_ : PySem.W.Frag) : Addr := 232
def ad_f16 (_ : PySem.W.Frag) : Addr := 412
def ad_f17 (_ : PySem.W.Frag) : Addr := 419
def ad_f18 (_ : PySem.W.Frag) : Addr := 431
def ad_f19 (_ : PySem.W.Frag) : Addr := 426
def ad_f20 (_ : PySem.W.Frag) : Addr := 445
def ad_f21 (_ : PySem.W.Frag) : Addr := 438
def ad_f22 (_ : PySem.W.Frag) : Addr := 452
def ad_f23 (_ : PySem.W.Frag) : Addr := 457
def ad_f24 (_ : PySem.W.Frag) : Addr := 464
def ad_f25 (_ : PySem.W.Frag) : Addr := 469
def ad_f26 (_ : PySem.W.Frag) : Addr := 474
def ad_f27 (_ : PySem.W.Frag) : Addr := 481
def ad_f28 (_ : PySem.W.Frag) : Addr := 488
def ad_f29 (_ : PySem.W.Frag) : Addr := 502
def ad_f30 (_ : PySem.W.Frag) : Addr := 495
def ad_f31 (_ : PySem.W.Frag) : Addr := 509
def ad_f32 (_ : PySem.W.Frag) : Addr := 516
def ad_f33 (_ : PySem.W.Frag) : Addr := 521
def ad_f34 (_ : PySem.W.Frag) : Addr := 528
def ad_f35 (_ : PySem.W.Frag) : Addr := 533
def ad_f36 (_ : PySem.W.Frag) : Addr := 540
def ad_f37 (_ : PySem.W.Frag) : Addr := 545
def ad_f38 (_ : PySem.W.Frag) : Addr := 550
def ad_f39 (_ : PySem.W.Frag) : Addr := 557
def ad_f40 (_ : PySem.W.Frag) : Addr := 564
def ad_f41 (_ : PySem.W.Frag) : Addr := 571
def ad_f42 (_ : PySem.W.Frag) : Addr := 578
def ad_f43 (_ : PySem.W.Frag) : Addr := 583
def ad_f44 (_ : PySem.W.Frag) : Addr := 588
def ad_f45 (_ : PySem.W.Frag) : Addr := 593
def ad_f46 (_ : PySem.W.Frag) : Addr := 598
def ad_f47 (_ : PySem.W.Frag) : Addr := 603
def ad_f48 (_ : PySem.W.Frag) : Addr := 608
def ad_f49 (_ : PySem.W.Frag) : Addr := 615
def ad_f50 (_ : PySem.W.Frag) : Addr := 622
def ad_f51 (_ : PySem.W.Frag) : Addr := 629
def ad_f52 (_ : PySem.W.Frag) : Addr := 636
def ad_f53 (_ : PySem.W.Frag) : Addr := 641
def ad_f54 (_ : PySem.W.Frag) : Addr := 646
def fileP : Str := PySem.Challenge.pw_choosersrow_k43_heads_counted_and_number.main.file
def ck0 (K : PySem.W.Frag) (c_Query f0 f1 f2 f3 f4 f5 f6 f7 : Addr) : Bool :=
  (He.eqO (PySem.W.nsIn K mainGlobals "Query") (some (some (.ref c_Query)))) && ((He.eqO (PySem.W.nsIn K mainGlobals "is_number") (some (some (.ref f0)))) && ((fnB K f0 "is_number" []) && ((PySem.W.keepIn K (.ref f0)) && ((He.eqO (PySem.W.nsIn K mainGlobals "is_below") (some (some (.ref f1)))) && ((fnB K f1 "is_below" []) && ((PySem.W.keepIn K (.ref f1)) && ((He.eqO (PySem.W.nsIn K mainGlobals "count_choices") (some (some (.ref f2)))) && ((fnB K f2 "count_choices" []) && ((PySem.W.keepIn K (.ref f2)) && ((He.eqO (PySem.W.nsIn K mainGlobals "has_outcomes") (some (some (.ref f3)))) && ((fnB K f3 "has_outcomes" []) && ((PySem.W.keepIn K (.ref f3)) && ((He.eqO (PySem.W.nsIn K mainGlobals "width_at") (some (some (.ref f4)))) && ((fnB K f4 "width_at" []) && ((PySem.W.keepIn K (.ref f4)) && ((He.eqO (PySem.W.nsIn K mainGlobals "terms_behind") (some (some (.ref f5)))) && ((fnB K f5 "terms_behind" []) && ((PySem.W.keepIn K (.ref f5)) && ((He.eqO (PySem.W.nsIn K mainGlobals "are_widths") (some (some (.ref f6)))) && ((fnB K f6 "are_widths" []) && ((PySem.W.keepIn K (.ref f6)) && ((He.eqO (PySem.W.nsIn K mainGlobals "require_form") (some (some (.ref f7)))) && ((fnB K f7 "require_form" []) && ((PySem.W.keepIn K (.ref f7))))))))))))))))))))))))))
def ck1 (K : PySem.W.Frag) (c_Query f8 f9 f10 f11 f12 f13 f14 f15 : Addr) : Bool :=
  (He.eqO (PySem.W.nsIn K mainGlobals "has_query_form") (some (some (.ref f8)))) && ((fnB K f8 "has_query_form" []) && ((PySem.W.keepIn K (.ref f8)) && ((He.eqO (PySem.W.nsIn K mainGlobals "wrong_query") (some (some (.ref f9)))) && ((fnB K f9 "wrong_query" []) && ((PySem.W.keepIn K (.ref f9)) && ((He.eqO (PySem.W.nsIn K mainGlobals "places_of") (some (some (.ref f10)))) && ((fnB K f10 "places_of" []) && ((PySem.W.keepIn K (.ref f10)) && ((He.eqO (PySem.W.nsIn K mainGlobals "require_few") (some (some (.ref f11)))) && ((fnB K f11 "require_few" []) && ((PySem.W.keepIn K (.ref f11)) && ((He.eqO (PySem.W.nsIn K mainGlobals "fixed_term") (some (some (.ref f12)))) && ((fnB K f12 "fixed_term" []) && ((PySem.W.keepIn K (.ref f12)) && ((He.eqO (PySem.W.findIn K (.ref c_Query) "__init__") (some (some (.ref f13)))) && ((PySem.W.isFn K (.ref f13)) && ((fnB K f13 "Query.__init__" []) && ((PySem.W.keepIn K (.ref f13)) && ((He.eqO (PySem.W.nsIn K mainGlobals "choice_at") (some (some (.ref f14)))) && ((fnB K f14 "choice_at" []) && ((PySem.W.keepIn K (.ref f14)) && ((He.eqO (PySem.W.nsIn K mainGlobals "choice_index") (some (some (.ref f15)))) && ((fnB K f15 "choice_index" []) && ((PySem.W.keepIn K (.ref f15))))))))))))))))))))))))))
def ck2 (K : PySem.W.Frag) (f16 f17 f18 f19 f20 f21 f22 f23 f24 : Addr) : Bool :=
  (He.eqO (PySem.W.nsIn K mainGlobals "split_option") (some (some (.ref f16)))) && ((fnB K f16 "split_option" []) && ((PySem.W.keepIn K (.ref f16)) && ((He.eqO (PySem.W.nsIn K mainGlobals "join_option") (some (some (.ref f17)))) && ((fnB K f17 "join_option" []) && ((PySem.W.keepIn K (.ref f17)) && ((He.eqO (PySem.W.nsIn K mainGlobals "settled_part") (some (some (.ref f18)))) && ((fnB K f18 "settled_part" []) && ((PySem.W.keepIn K (.ref f18)) && ((He.eqO (PySem.W.nsIn K mainGlobals "settled_term") (some (some (.ref f19)))) && ((fnB K f19 "settled_term" []) && ((PySem.W.keepIn K (.ref f19)) && ((He.eqO (PySem.W.nsIn K mainGlobals "term_reach") (some (some (.ref f20)))) && ((fnB K f20 "term_reach" []) && ((PySem.W.keepIn K (.ref f20)) && ((He.eqO (PySem.W.nsIn K mainGlobals "query_reach") (some (some (.ref f21)))) && ((fnB K f21 "query_reach" []) && ((PySem.W.keepIn K (.ref f21)) && ((He.eqO (PySem.W.nsIn K mainGlobals "require_outcome") (some (some (.ref f22)))) && ((fnB K f22 "require_outcome" []) && ((PySem.W.keepIn K (.ref f22)) && ((He.eqO (PySem.W.nsIn K mainGlobals "span_widths") (some (some (.ref f23)))) && ((fnB K f23 "span_widths" []) && ((PySem.W.keepIn K (.ref f23)) && ((He.eqO (PySem.W.nsIn K mainGlobals "free_widths") (some (some (.ref f24))))))))))))))))))))))))))))
def ck3 (K : PySem.W.Frag) (f24 f25 f26 f27 f28 f29 f30 f31 f32 : Addr) : Bool :=
  (fnB K f24 "free_widths" []) && ((PySem.W.keepIn K (.ref f24)) && ((He.eqO (PySem.W.nsIn K mainGlobals "tail_counts") (some (some (.ref f25)))) && ((fnB K f25 "tail_counts" []) && ((PySem.W.keepIn K (.ref f25)) && ((He.eqO (PySem.W.nsIn K mainGlobals "counts_behind") (some (some (.ref f26)))) && ((fnB K f26 "counts_behind" []) && ((PySem.W.keepIn K (.ref f26)) && ((He.eqO (PySem.W.nsIn K mainGlobals "count_heads") (some (some (.ref f27)))) && ((fnB K f27 "count_heads" []) && ((PySem.W.keepIn K (.ref f27)) && ((He.eqO (PySem.W.nsIn K mainGlobals "head_at") (some (some (.ref f28)))) && ((fnB K f28 "head_at" []) && ((PySem.W.keepIn K (.ref f28)) && ((He.eqO (PySem.W.nsIn K mainGlobals "tail_index") (some (some (.ref f29)))) && ((fnB K f29 "tail_index" []) && ((PySem.W.keepIn K (.ref f29)) && ((He.eqO (PySem.W.nsIn K mainGlobals "head_index") (some (some (.ref f30)))) && ((fnB K f30 "head_index" []) && ((PySem.W.keepIn K (.ref f30)) && ((He.eqO (PySem.W.nsIn K mainGlobals "_law_start") (some (some (.ref f31)))) && ((fnB K f31 "_law_start" []) && ((PySem.W.keepIn K (.ref f31)) && ((He.eqO (PySem.W.nsIn K mainGlobals "_law_pick") (some (some (.ref f32)))) && ((fnB K f32 "_law_pick" [])))))))))))))))))))))))))
def ck4 (K : PySem.W.Frag) (f32 f33 f34 f35 f36 f37 f38 f39 f40 : Addr) : Bool :=
  (PySem.W.keepIn K (.ref f32)) && ((He.eqO (PySem.W.nsIn K mainGlobals "_law_same") (some (some (.ref f33)))) && ((fnB K f33 "_law_same" []) && ((PySem.W.keepIn K (.ref f33)) && ((He.eqO (PySem.W.nsIn K mainGlobals "_law_width") (some (some (.ref f34)))) && ((fnB K f34 "_law_width" []) && ((PySem.W.keepIn K (.ref f34)) && ((He.eqO (PySem.W.nsIn K mainGlobals "_law_widths") (some (some (.ref f35)))) && ((fnB K f35 "_law_widths" []) && ((PySem.W.keepIn K (.ref f35)) && ((He.eqO (PySem.W.nsIn K mainGlobals "_law_look_places") (some (some (.ref f36)))) && ((fnB K f36 "_law_look_places" []) && ((PySem.W.keepIn K (.ref f36)) && ((He.eqO (PySem.W.nsIn K mainGlobals "_law_query_term") (some (some (.ref f37)))) && ((fnB K f37 "_law_query_term" []) && ((PySem.W.keepIn K (.ref f37)) && ((He.eqO (PySem.W.nsIn K mainGlobals "_law_shuffled") (some (some (.ref f38)))) && ((fnB K f38 "_law_shuffled" []) && ((PySem.W.keepIn K (.ref f38)) && ((He.eqO (PySem.W.nsIn K mainGlobals "_law_full_query") (some (some (.ref f39)))) && ((fnB K f39 "_law_full_query" []) && ((PySem.W.keepIn K (.ref f39)) && ((He.eqO (PySem.W.nsIn K mainGlobals "_law_longer") (some (some (.ref f40)))) && ((fnB K f40 "_law_longer" []) && ((PySem.W.keepIn K (.ref f40))))))))))))))))))))))))))
def ck5 (K : PySem.W.Frag) (f41 f42 f43 f44 f45 f46 f47 f48 f49 : Addr) : Bool :=
  (He.eqO (PySem.W.nsIn K mainGlobals "_law_heads") (some (some (.ref f41)))) && ((fnB K f41 "_law_heads" []) && ((PySem.W.keepIn K (.ref f41)) && ((He.eqO (PySem.W.nsIn K mainGlobals "_law_tell") (some (some (.ref f42)))) && ((fnB K f42 "_law_tell" []) && ((PySem.W.keepIn K (.ref f42)) && ((He.eqO (PySem.W.nsIn K mainGlobals "_law_drawn_term") (some (some (.ref f43)))) && ((fnB K f43 "_law_drawn_term" []) && ((PySem.W.keepIn K (.ref f43)) && ((He.eqO (PySem.W.nsIn K mainGlobals "_law_needed") (some (some (.ref f44)))) && ((fnB K f44 "_law_needed" []) && ((PySem.W.keepIn K (.ref f44)) && ((He.eqO (PySem.W.nsIn K mainGlobals "_law_model") (some (some (.ref f45)))) && ((fnB K f45 "_law_model" []) && ((PySem.W.keepIn K (.ref f45)) && ((He.eqO (PySem.W.nsIn K mainGlobals "_law_outcome") (some (some (.ref f46)))) && ((fnB K f46 "_law_outcome" []) && ((PySem.W.keepIn K (.ref f46)) && ((He.eqO (PySem.W.nsIn K mainGlobals "_law_rank") (some (some (.ref f47)))) && ((fnB K f47 "_law_rank" []) && ((PySem.W.keepIn K (.ref f47)) && ((He.eqO (PySem.W.nsIn K mainGlobals "_law_is_head") (some (some (.ref f48)))) && ((fnB K f48 "_law_is_head" []) && ((PySem.W.keepIn K (.ref f48)) && ((He.eqO (PySem.W.nsIn K mainGlobals "_law_great") (some (some (.ref f49))))))))))))))))))))))))))))
def ck6 (K : PySem.W.Frag) (f49 f50 f51 f52 f53 f54 : Addr) : Bool :=
  (fnB K f49 "_law_great" []) && ((PySem.W.keepIn K (.ref f49)) && ((He.eqO (PySem.W.nsIn K mainGlobals "_law_ask") (some (some (.ref f50)))) && ((fnB K f50 "_law_ask" []) && ((PySem.W.keepIn K (.ref f50)) && ((He.eqO (PySem.W.nsIn K mainGlobals "_law_refused") (some (some (.ref f51)))) && ((fnB K f51 "_law_refused" []) && ((PySem.W.keepIn K (.ref f51)) && ((He.eqO (PySem.W.nsIn K mainGlobals "_law_numbers") (some (some (.ref f52)))) && ((fnB K f52 "_law_numbers" []) && ((PySem.W.keepIn K (.ref f52)) && ((He.eqO (PySem.W.nsIn K mainGlobals "_law_indexes") (some (some (.ref f53)))) && ((fnB K f53 "_law_indexes" []) && ((PySem.W.keepIn K (.ref f53)) && ((He.eqO (PySem.W.nsIn K mainGlobals "law") (some (some (.ref f54)))) && ((fnB K f54 "law" []) && ((PySem.W.keepIn K (.ref f54)) && ((He.eqO (PySem.W.nsIn K mainGlobals "isinstance") (some none)) && ((He.eqO (PySem.W.nsIn K mainGlobals "int") (some none)) && ((He.eqO (PySem.W.nsIn K mainGlobals "bool") (some none)) && ((He.eqO (PySem.W.nsIn K mainGlobals "all") (some none)) && ((He.eqO (PySem.W.nsIn K mainGlobals "str") (some none)) && ((He.eqO (PySem.W.nsIn K mainGlobals "len") (some none)) && ((He.eqO (PySem.W.nsIn K mainGlobals "enumerate") (some none)) && ((He.eqO (PySem.W.nsIn K mainGlobals "tuple") (some none))))))))))))))))))))))))))
def ck7 (K : PySem.W.Frag) (c_OutOfRange c_TooLarge : Addr) : Bool :=
  (He.eqO (PySem.W.nsIn K mainGlobals "divmod") (some none)) && ((He.eqO (PySem.W.nsIn K mainGlobals "zip") (some none)) && ((He.eqO (PySem.W.nsIn K mainGlobals "sorted") (some none)) && ((He.eqO (PySem.W.nsIn K mainGlobals "set") (some none)) && ((He.eqO (PySem.W.nsIn K mainGlobals "sum") (some none)) && ((He.eqO (PySem.W.nsIn K mainGlobals "min") (some none)) && ((He.eqO (PySem.W.nsIn K mainGlobals "range") (some none)) && ((He.eqO (PySem.W.nsIn K mainGlobals "max") (some none)) && ((He.eqO (PySem.W.nsIn K mainGlobals "list") (some none)) && ((He.eqO (PySem.W.nsIn K mainGlobals "any") (some none)) && ((He.eqO (PySem.W.nsIn K mainGlobals "ValueError") (some none)) && ((strB K "LETTERS" "abcdefghijklmnopqrstuvwxyz") && ((strB K "DIGITS" "0123456789") && ((intB K "LONGEST_WORD" 12) && ((intB K "LONGEST_NUMBER" 9) && ((intB K "NUMBERS_END" 1000000000) && ((intB K "DEEPEST_TUPLE" 30) && ((intB K "MOST_OUTCOMES" 4) && ((intB K "MOST_WIDTHS" 6) && ((intB K "WIDEST" 4) && ((intB K "PLACES" 100) && ((intB K "ITEMS_BEFORE" 2) && ((intB K "TWO_OUTCOMES" 2) && ((He.eqO (PySem.W.nsIn K mainGlobals "OutOfRange") (some (some (.ref c_OutOfRange)))) && ((He.eqO (PySem.W.nsIn K mainGlobals "TooLarge") (some (some (.ref c_TooLarge))))))))))))))))))))))))))))
def ck8 (K : PySem.W.Frag) (c_OutOfRange c_TooLarge c_InvalidQuery c_SizeMismatch c_InvalidPlan c_InvalidTerm c_ChoosersError : Addr) : Bool :=
  (He.eqO (PySem.W.nsIn K mainGlobals "InvalidQuery") (some (some (.ref c_InvalidQuery)))) && ((He.eqO (PySem.W.nsIn K mainGlobals "SizeMismatch") (some (some (.ref c_SizeMismatch)))) && ((He.eqO (PySem.W.nsIn K mainGlobals "InvalidPlan") (some (some (.ref c_InvalidPlan)))) && ((He.eqO (PySem.W.nsIn K mainGlobals "InvalidTerm") (some (some (.ref c_InvalidTerm)))) && ((He.eqO (PySem.W.nsIn K mainGlobals "ChoosersError") (some (some (.ref c_ChoosersError)))) && ((PySem.W.excIn K c_OutOfRange [.type "ValueError", .type "Exception", .type "BaseException", .type "object"] "ValueError.__new__") && ((PySem.W.excIn K c_TooLarge [.type "ValueError", .type "Exception", .type "BaseException", .type "object"] "ValueError.__new__") && ((He.eqO (PySem.W.nsIn K mainGlobals "super") (some none)) && ((He.eqO (PySem.W.nsIn K cStatics "thirdparty.any") (some none)) && ((PySem.W.keepIn K (.ref c_OutOfRange)) && ((decide (PySem.W.subIn K (.ref c_OutOfRange) (.type "BaseException") = some true)) && ((decide (PySem.W.typeIn K (.ref c_OutOfRange) = some (.type "type"))) && ((He.eqO (PySem.W.findIn K (.ref c_OutOfRange) "__getattribute__") (some (some (.builtin "BaseException.__getattribute__")))) && ((He.eqO (PySem.W.findIn K (.ref c_OutOfRange) "__getattr__") (some none)) && ((PySem.W.hasDictIn K c_OutOfRange) && ((He.eqO (PySem.W.findIn K (.ref c_OutOfRange) "__class__") (some (some (.builtin "object.__class__")))) && ((decide (PySem.W.mroIn K c_OutOfRange (.type "object") = some true)) && ((decide (PySem.W.subIn K (.ref c_OutOfRange) (.ref c_OutOfRange) = some true)) && ((decide (PySem.W.subIn K (.ref c_OutOfRange) (.ref c_SizeMismatch) = some false)) && ((decide (PySem.W.subIn K (.ref c_OutOfRange) (.ref c_TooLarge) = some false)) && ((decide (PySem.W.subIn K (.ref c_OutOfRange) (.ref c_InvalidPlan) = some false)) && ((decide (PySem.W.subIn K (.ref c_OutOfRange) (.ref c_InvalidTerm) = some false)) && ((decide (PySem.W.subIn K (.ref c_OutOfRange) (.type "ValueError") = some true)) && ((decide (PySem.W.subIn K (.ref c_OutOfRange) (.ref c_ChoosersError) = some true)) && ((PySem.W.keepIn K (.ref c_TooLarge))))))))))))))))))))))))))
def ck9 (K : PySem.W.Frag) (c_OutOfRange c_TooLarge c_InvalidQuery c_SizeMismatch c_InvalidPlan c_InvalidTerm c_ChoosersError : Addr) : Bool :=
  (decide (PySem.W.subIn K (.ref c_TooLarge) (.type "BaseException") = some true)) && ((decide (PySem.W.typeIn K (.ref c_TooLarge) = some (.type "type"))) && ((He.eqO (PySem.W.findIn K (.ref c_TooLarge) "__getattribute__") (some (some (.builtin "BaseException.__getattribute__")))) && ((He.eqO (PySem.W.findIn K (.ref c_TooLarge) "__getattr__") (some none)) && ((PySem.W.hasDictIn K c_TooLarge) && ((He.eqO (PySem.W.findIn K (.ref c_TooLarge) "__class__") (some (some (.builtin "object.__class__")))) && ((decide (PySem.W.mroIn K c_TooLarge (.type "object") = some true)) && ((decide (PySem.W.subIn K (.ref c_TooLarge) (.ref c_TooLarge) = some true)) && ((decide (PySem.W.subIn K (.ref c_TooLarge) (.ref c_SizeMismatch) = some false)) && ((decide (PySem.W.subIn K (.ref c_TooLarge) (.ref c_InvalidPlan) = some false)) && ((decide (PySem.W.subIn K (.ref c_TooLarge) (.ref c_InvalidTerm) = some false)) && ((decide (PySem.W.subIn K (.ref c_TooLarge) (.type "ValueError") = some true)) && ((decide (PySem.W.subIn K (.ref c_TooLarge) (.ref c_OutOfRange) = some false)) && ((decide (PySem.W.subIn K (.ref c_TooLarge) (.ref c_ChoosersError) = some true)) && ((PySem.W.keepIn K (.ref c_InvalidQuery)) && ((decide (PySem.W.subIn K (.ref c_InvalidQuery) (.type "BaseException") = some true)) && ((decide (PySem.W.typeIn K (.ref c_InvalidQuery) = some (.type "type"))) && ((He.eqO (PySem.W.findIn K (.ref c_InvalidQuery) "__getattribute__") (some (some (.builtin "BaseException.__getattribute__")))) && ((He.eqO (PySem.W.findIn K (.ref c_InvalidQuery) "__getattr__") (some none)) && ((PySem.W.hasDictIn K c_InvalidQuery) && ((He.eqO (PySem.W.findIn K (.ref c_InvalidQuery) "__class__") (some (some (.builtin "object.__class__")))) && ((decide (PySem.W.mroIn K c_InvalidQuery (.type "object") = some true)) && ((decide (PySem.W.subIn K (.ref c_InvalidQuery) (.ref c_InvalidQuery) = some true)) && ((decide (PySem.W.subIn K (.ref c_InvalidQuery) (.ref c_SizeMismatch) = some false)) && ((decide (PySem.W.subIn K (.ref c_InvalidQuery) (.ref c_TooLarge) = some false))))))))))))))))))))))))))
def ck10 (K : PySem.W.Frag) (c_OutOfRange c_TooLarge c_InvalidQuery c_SizeMismatch c_InvalidPlan c_InvalidTerm c_ChoosersError fi_InvalidQuery : Addr) : Bool :=
  (decide (PySem.W.subIn K (.ref c_InvalidQuery) (.ref c_InvalidPlan) = some false)) && ((decide (PySem.W.subIn K (.ref c_InvalidQuery) (.ref c_InvalidTerm) = some true)) && ((decide (PySem.W.subIn K (.ref c_InvalidQuery) (.type "ValueError") = some true)) && ((decide (PySem.W.subIn K (.ref c_InvalidQuery) (.ref c_OutOfRange) = some false)) && ((decide (PySem.W.subIn K (.ref c_InvalidQuery) (.ref c_ChoosersError) = some true)) && ((He.eqO (PySem.W.findIn K (.ref c_InvalidQuery) "__init__") (some (some (.ref fi_InvalidQuery)))) && ((initB K fi_InvalidQuery c_InvalidTerm "InvalidTerm.__init__" fileP) && ((decide (PySem.W.typeIn K (.ref fi_InvalidQuery) = some (.type "function"))) && ((He.eqO (PySem.W.findIn K (.ref c_InvalidQuery) "path") (some none)) && ((PySem.W.isClsIn K c_InvalidTerm) && ((decide (PySem.W.mroIn K c_InvalidQuery (.ref c_InvalidTerm) = some true)) && ((decide (PySem.W.subIn K (.ref c_InvalidQuery) (.type "ValueError") = some true)) && ((He.eqO (PySem.W.ks_superIn K c_InvalidQuery c_InvalidTerm "__init__") (some (some (.builtin "ValueError.__init__")))) && ((excB K c_InvalidQuery) && ((He.eqO (PySem.W.findIn K (.ref c_InvalidQuery) "__setattr__") (some (some (.builtin "object.__setattr__")))) && ((PySem.W.isClsIn K c_OutOfRange) && ((PySem.W.isClsIn K c_TooLarge) && ((PySem.W.isClsIn K c_InvalidQuery) && ((PySem.W.isClsIn K c_SizeMismatch) && ((decide (PySem.W.typeIn K (.ref c_SizeMismatch) = some (.type "type"))) && ((PySem.W.isClsIn K c_InvalidPlan) && ((decide (PySem.W.typeIn K (.ref c_InvalidPlan) = some (.type "type"))) && ((PySem.W.isClsIn K c_InvalidTerm) && ((decide (PySem.W.typeIn K (.ref c_InvalidTerm) = some (.type "type"))) && ((PySem.W.isClsIn K c_ChoosersError)))))))))))))))))))))))))
def ck11 (K : PySem.W.Frag) (c_ChoosersError c_Query : Addr) : Bool :=
  (decide (PySem.W.typeIn K (.ref c_ChoosersError) = some (.type "type"))) && ((decide (PySem.W.subIn K (.ref c_ChoosersError) (.type "BaseException") = some true)) && ((PySem.W.hasDictIn K c_ChoosersError) && ((He.eqO (PySem.W.specialIn K (.builtin "object.__class__") "__get__") (some (some (.builtin "getset_descriptor.__get__")))) && ((decide (PySem.W.takesIn K (.builtin "object.__class__") = some true)) && ((PySem.W.plainGet K c_Query Str.empty) && ((PySem.W.hasDictIn K c_Query) && ((PySem.W.plainOver K c_Query) && ((He.eqO (PySem.W.findIn K (.ref c_Query) "__setattr__") (some (some (.builtin "object.__setattr__")))) && ((PySem.W.makesIn K c_Query) && ((PySem.W.keepIn K (.ref c_Query)) && ((He.eqO (PySem.W.findIn K (.ref c_Query) "term") (some none)) && ((He.eqO (PySem.W.findIn K (.ref c_Query) "widths") (some none)) && ((He.eqO (PySem.W.findIn K (.ref c_Query) "outcomes") (some none)) && ((PySem.W.readsIn K c_Query (.type "type")) && ((He.eqO (PySem.W.specialIn K (.ref c_Query) "__getattribute__") (some (some (.builtin "type.__getattribute__")))) && ((cvB K c_Query "MOST_LEVELS" 20) && ((cvB K c_Query "MOST_LOOKS" 300) && ((cvB K c_Query "MOST_CHOICES" 256)))))))))))))))))))
def atsA : List (PySem.W.Frag → Addr) := [ad_f0, ad_f1, ad_f2, ad_f3, ad_f4, ad_f5, ad_f6, ad_f7, ad_f8, ad_f9, ad_f10, ad_f11, ad_f12, ad_f13, ad_f14, ad_f15, ad_f16, ad_f17, ad_f18, ad_f19, ad_f20, ad_f21, ad_f22, ad_f23, ad_f24, ad_f25, ad_f26, ad_f27, ad_f28, ad_f29, ad_f30, ad_f31, ad_f32, ad_f33, ad_f34, ad_f35, ad_f36, ad_f37, ad_f38, ad_f39, ad_f40, ad_f41, ad_f42, ad_f43, ad_f44, ad_f45, ad_f46, ad_f47, ad_f48, ad_f49, ad_f50, ad_f51, ad_f52, ad_f53, ad_f54, ad_fi_InvalidQuery]
def valsA : List FnI := [vI "is_number" "is_number" s_is_number [],
  vI "is_below" "is_below" s_is_below [],
  vI "count_choices" "count_choices" s_count_choices [],
  vI "has_outcomes" "has_outcomes" s_has_outcomes [],
  vI "width_at" "width_at" s_width_at [],
  vI "terms_behind" "terms_behind" s_terms_behind [],
  vI "are_widths" "are_widths" s_are_widths [],
  vI "require_form" "require_form" s_require_form [],
  vI "has_query_form" "has_query_form" s_has_query_form [],
  vI "wrong_query" "wrong_query" s_wrong_query [],
  vI "places_of" "places_of" s_places_of [],
  vI "require_few" "require_few" s_require_few [],
  vI "fixed_term" "fixed_term" s_fixed_term [],
  vI "__init__" "Query.__init__" s_Query___init__ [],
  vI "choice_at" "choice_at" s_choice_at [],
  vI "choice_index" "choice_index" s_choice_index [],
  vI "split_option" "split_option" s_split_option [],
  vI "join_option" "join_option" s_join_option [],
  vI "settled_part" "settled_part" s_settled_part [],
  vI "settled_term" "settled_term" s_settled_term [],
  vI "term_reach" "term_reach" s_term_reach [],
  vI "query_reach" "query_reach" s_query_reach [],
  vI "require_outcome" "require_outcome" s_require_outcome [],
  vI "span_widths" "span_widths" s_span_widths [],
  vI "free_widths" "free_widths" s_free_widths [],
  vI "tail_counts" "tail_counts" s_tail_counts [],
  vI "counts_behind" "counts_behind" s_counts_behind [],
  vI "count_heads" "count_heads" s_count_heads [],
  vI "head_at" "head_at" s_head_at [],
  vI "tail_index" "tail_index" s_tail_index [],
  vI "head_index" "head_index" s_head_index [],
  vI "_law_start" "_law_start" s__law_start [],
  vI "_law_pick" "_law_pick" s__law_pick [],
  vI "_law_same" "_law_same" s__law_same [],
  vI "_law_width" "_law_width" s__law_width [],
  vI "_law_widths" "_law_widths" s__law_widths [],
  vI "_law_look_places" "_law_look_places" s__law_look_places [],
  vI "_law_query_term" "_law_query_term" s__law_query_term [],
  vI "_law_shuffled" "_law_shuffled" s__law_shuffled [],
  vI "_law_full_query" "_law_full_query" s__law_full_query [],
  vI "_law_longer" "_law_longer" s__law_longer [],
  vI "_law_heads" "_law_heads" s__law_heads [],
  vI "_law_tell" "_law_tell" s__law_tell [],
  vI "_law_drawn_term" "_law_drawn_term" s__law_drawn_term [],
  vI "_law_needed" "_law_needed" s__law_needed [],
  vI "_law_model" "_law_model" s__law_model [],
  vI "_law_outcome" "_law_outcome" s__law_outcome [],
  vI "_law_rank" "_law_rank" s__law_rank [],
  vI "_law_is_head" "_law_is_head" s__law_is_head [],
  vI "_law_great" "_law_great" s__law_great [],
  vI "_law_ask" "_law_ask" s__law_ask [],
  vI "_law_refused" "_law_refused" s__law_refused [],
  vI "_law_numbers" "_law_numbers" s__law_numbers [],
  vI "_law_indexes" "_law_indexes" s__law_indexes [],
  vI "law" "law" s_law [],
  vI "__init__" "InvalidTerm.__init__" si_InvalidTerm ["__class__"]]
def ckA (K : PySem.W.Frag) : Bool := ck0 K (ad_c_Query K) (ad_f0 K) (ad_f1 K) (ad_f2 K) (ad_f3 K) (ad_f4 K) (ad_f5 K) (ad_f6 K) (ad_f7 K) && (ck1 K (ad_c_Query K) (ad_f8 K) (ad_f9 K) (ad_f10 K) (ad_f11 K) (ad_f12 K) (ad_f13 K) (ad_f14 K) (ad_f15 K) && (ck2 K (ad_f16 K) (ad_f17 K) (ad_f18 K) (ad_f19 K) (ad_f20 K) (ad_f21 K) (ad_f22 K) (ad_f23 K) (ad_f24 K) && (ck3 K (ad_f24 K) (ad_f25 K) (ad_f26 K) (ad_f27 K) (ad_f28 K) (ad_f29 K) (ad_f30 K) (ad_f31 K) (ad_f32 K) && (ck4 K (ad_f32 K) (ad_f33 K) (ad_f34 K) (ad_f35 K) (ad_f36 K) (ad_f37 K) (ad_f38 K) (ad_f39 K) (ad_f40 K) && (ck5 K (ad_f41 K) (ad_f42 K) (ad_f43 K) (ad_f44 K) (ad_f45 K) (ad_f46 K) (ad_f47 K) (ad_f48 K) (ad_f49 K) && (ck6 K (ad_f49 K) (ad_f50 K) (ad_f51 K) (ad_f52 K) (ad_f53 K) (ad_f54 K) && (ck7 K (ad_c_OutOfRange K) (ad_c_TooLarge K) && (ck8 K (ad_c_OutOfRange K) (ad_c_TooLarge K) (ad_c_InvalidQuery K) (ad_c_SizeMismatch K) (ad_c_InvalidPlan K) (ad_c_InvalidTerm K) (ad_c_ChoosersError K) && (ck9 K (ad_c_OutOfRange K) (ad_c_TooLarge K) (ad_c_InvalidQuery K) (ad_c_SizeMismatch K) (ad_c_InvalidPlan K) (ad_c_InvalidTerm K) (ad_c_ChoosersError K) && (ck10 K (ad_c_OutOfRange K) (ad_c_TooLarge K) (ad_c_InvalidQuery K) (ad_c_SizeMismatch K) (ad_c_InvalidPlan K) (ad_c_InvalidTerm K) (ad_c_ChoosersError K) (ad_fi_InvalidQuery K) && (ck11 K (ad_c_ChoosersError K) (ad_c_Query K))))))))))))
def names0 : List PySem.Str := ["__name__", "ChoosersError", "InvalidText", "InvalidTerm", "InvalidQuery", "OutOfRange", "SizeMismatch", "TooLarge", "InvalidPlan", "LETTERS", "DIGITS", "LONGEST_WORD", "LONGEST_NUMBER", "NUMBERS_END", "DEEPEST_TUPLE"]
def names1 : List PySem.Str := ["is_number", "is_below", "is_word", "write_term", "wrong_part", "text_of", "read_term", "read_part", "run_end", "read_tuple", "read_headed", "count_choices", "choice_at", "choice_index", "MOST_OUTCOMES"]
def names2 : List PySem.Str := ["has_outcomes", "MOST_WIDTHS", "WIDEST", "PLACES", "ITEMS_BEFORE", "TWO_OUTCOMES", "width_at", "terms_behind", "are_widths", "require_form", "has_query_form", "wrong_query", "places_of", "require_few", "followed"]
def names3 : List PySem.Str := ["fixed_term", "term_with_tells", "term_with_outcomes", "require_same_widths", "require_two_outcomes", "require_combined", "Query", "split_option", "join_option", "settled_term", "settled_part", "query_reach", "term_reach", "require_outcome", "span_widths"]
def names4 : List PySem.Str := ["free_widths", "tail_counts", "counts_behind", "count_heads", "head_at", "head_index", "tail_index", "_law_start", "_law_pick", "_law_same", "_law_width", "_law_widths", "_law_look_places", "_law_query_term", "_law_shuffled"]
def names5 : List PySem.Str := ["_law_full_query", "_law_longer", "_law_heads", "_law_tell", "_law_drawn_term", "_law_needed", "_law_model", "_law_outcome", "_law_rank", "_law_is_head", "_law_great", "_law_ask", "_law_refused", "_law_numbers", "_law_indexes"]
def namesA : List PySem.Str := names0 ++ names1 ++ names2 ++ names3 ++ names4 ++ names5
abbrev RR : PySem.W.OpenRow := PySem.W.OpenLaw.row PySem.Challenge.rw_choosersrow_k43_heads_counted_and_number
def dsA : List (PySem.W.Frag → Addr) := []
def kysA : List (List Str) := []
def asA : List Addr := [3, 2, 91, 90, 24, 115, 114, 79, 78, 67, 103, 102, 136, 135, 66, 23, 401, 400, 64, 63, 52, 145, 144, 152, 151, 218, 217, 239, 238, 246, 245, 253, 252, 258, 257, 265, 264, 272, 271, 279, 278, 284, 283, 289, 288, 301, 300, 346, 345, 225, 224, 232, 231, 412, 411, 419, 418, 431, 430, 426, 425, 445, 444, 438, 437, 452, 451, 457, 456, 464, 463, 469, 468, 474, 473, 481, 480, 488, 487, 502, 501, 495, 494, 509, 508, 516, 515, 521, 520, 528, 527, 533, 532, 540, 539, 545, 544, 550, 549, 557, 556, 564, 563, 571, 570, 578, 577, 583, 582, 588, 587, 593, 592, 598, 597, 603, 602, 608, 607, 615, 614, 622, 621, 629, 628, 636, 635, 641, 640, 646, 645]
abbrev hkA : PySem.W.Hook := HX.hookW asA ckA atsA valsA dsA kysA
def obA (s : PySem.W.SharedT) : Bool × List FnI × List KyI := obsW asA ckA atsA dsA (HandSHeadRun.getT s)
theorem obA_eq (s : PySem.W.SharedT) : obA s = hkA.obs s.abs := obsW_eq (HandSHeadRun.getT_eq s)
def ckP (K : PySem.W.Frag) : Bool := ck8 K (ad_c_OutOfRange K) (ad_c_TooLarge K) (ad_c_InvalidQuery K) (ad_c_SizeMismatch K) (ad_c_InvalidPlan K) (ad_c_InvalidTerm K) (ad_c_ChoosersError K) && (ck9 K (ad_c_OutOfRange K) (ad_c_TooLarge K) (ad_c_InvalidQuery K) (ad_c_SizeMismatch K) (ad_c_InvalidPlan K) (ad_c_InvalidTerm K) (ad_c_ChoosersError K))
def ckQ (K : PySem.W.Frag) : Bool := ck10 K (ad_c_OutOfRange K) (ad_c_TooLarge K) (ad_c_InvalidQuery K) (ad_c_SizeMismatch K) (ad_c_InvalidPlan K) (ad_c_InvalidTerm K) (ad_c_ChoosersError K) (ad_fi_InvalidQuery K) && (ck11 K (ad_c_ChoosersError K) (ad_c_Query K) && (ck0 K (ad_c_Query K) (ad_f0 K) (ad_f1 K) (ad_f2 K) (ad_f3 K) (ad_f4 K) (ad_f5 K) (ad_f6 K) (ad_f7 K) && (ck1 K (ad_c_Query K) (ad_f8 K) (ad_f9 K) (ad_f10 K) (ad_f11 K) (ad_f12 K) (ad_f13 K) (ad_f14 K) (ad_f15 K) && (ck2 K (ad_f16 K) (ad_f17 K) (ad_f18 K) (ad_f19 K) (ad_f20 K) (ad_f21 K) (ad_f22 K) (ad_f23 K) (ad_f24 K)))))
def ckR (K : PySem.W.Frag) : Bool := ck3 K (ad_f24 K) (ad_f25 K) (ad_f26 K) (ad_f27 K) (ad_f28 K) (ad_f29 K) (ad_f30 K) (ad_f31 K) (ad_f32 K) && (ck4 K (ad_f32 K) (ad_f33 K) (ad_f34 K) (ad_f35 K) (ad_f36 K) (ad_f37 K) (ad_f38 K) (ad_f39 K) (ad_f40 K))
def ckS (K : PySem.W.Frag) : Bool := ck5 K (ad_f41 K) (ad_f42 K) (ad_f43 K) (ad_f44 K) (ad_f45 K) (ad_f46 K) (ad_f47 K) (ad_f48 K) (ad_f49 K) && (ck6 K (ad_f49 K) (ad_f50 K) (ad_f51 K) (ad_f52 K) (ad_f53 K) (ad_f54 K) && (ck7 K (ad_c_OutOfRange K) (ad_c_TooLarge K)))
theorem ckE : (fun K => (fun K => (fun K => ckP K && ckQ K) K && ckR K) K && ckS K) = ckA := by
  funext K
  unfold ckP ckQ ckR ckS ckA
  simp only [Bool.and_assoc]
  ac_rfl
set_option maxHeartbeats 0 in
theorem run0P (w : World) : HandSHeadRun.RunEq RR (PySem.W.view RR.prog [97]) (HX.hookW asA ckP atsA valsA dsA kysA) (fun s => obsW asA ckP atsA dsA (HandSHeadRun.getT s)) 20000 namesA (w.withFollow "special-get-raises" false) := by
  intro os
  kernel_rfl
set_option maxHeartbeats 0 in
theorem run0Q (w : World) : HandSHeadRun.RunEq RR (PySem.W.view RR.prog [97]) (HX.hookW asA ckQ [] [] [] []) (fun s => obsW asA ckQ [] [] (HandSHeadRun.getT s)) 20000 namesA (w.withFollow "special-get-raises" false) := by
  intro os
  kernel_rfl
set_option maxHeartbeats 0 in
theorem run0R (w : World) : HandSHeadRun.RunEq RR (PySem.W.view RR.prog [97]) (HX.hookW asA ckR [] [] [] []) (fun s => obsW asA ckR [] [] (HandSHeadRun.getT s)) 20000 namesA (w.withFollow "special-get-raises" false) := by
  intro os
  kernel_rfl
set_option maxHeartbeats 0 in
theorem run0S (w : World) : HandSHeadRun.RunEq RR (PySem.W.view RR.prog [97]) (HX.hookW asA ckS [] [] [] []) (fun s => obsW asA ckS [] [] (HandSHeadRun.getT s)) 20000 namesA (w.withFollow "special-get-raises" false) := by
  intro os
  kernel_rfl
theorem run0 (w : World) : HandSHeadRun.RunEq RR (PySem.W.view RR.prog [97]) hkA obA 20000 namesA (w.withFollow "special-get-raises" false) := by
  have h := HX.runEq_and (HX.runEq_and (HX.runEq_and (run0P w) (run0Q w)) (run0R w)) (run0S w)
  rw [ckE] at h
  exact h
set_option maxHeartbeats 0 in
theorem run1P (w : World) : HandSHeadRun.RunEq RR (PySem.W.view RR.prog [97]) (HX.hookW asA ckP atsA valsA dsA kysA) (fun s => obsW asA ckP atsA dsA (HandSHeadRun.getT s)) 20000 namesA (w.withFollow "special-get-raises" true) := by
  intro os
  kernel_rfl
set_option maxHeartbeats 0 in
theorem run1Q (w : World) : HandSHeadRun.RunEq RR (PySem.W.view RR.prog [97]) (HX.hookW asA ckQ [] [] [] []) (fun s => obsW asA ckQ [] [] (HandSHeadRun.getT s)) 20000 namesA (w.withFollow "special-get-raises" true) := by
  intro os
  kernel_rfl
set_option maxHeartbeats 0 in
theorem run1R (w : World) : HandSHeadRun.RunEq RR (PySem.W.view RR.prog [97]) (HX.hookW asA ckR [] [] [] []) (fun s => obsW asA ckR [] [] (HandSHeadRun.getT s)) 20000 namesA (w.withFollow "special-get-raises" true) := by
  intro os
  kernel_rfl
set_option maxHeartbeats 0 in
theorem run1S (w : World) : HandSHeadRun.RunEq RR (PySem.W.view RR.prog [97]) (HX.hookW asA ckS [] [] [] []) (fun s => obsW asA ckS [] [] (HandSHeadRun.getT s)) 20000 namesA (w.withFollow "special-get-raises" true) := by
  intro os
  kernel_rfl
theorem run1 (w : World) : HandSHeadRun.RunEq RR (PySem.W.view RR.prog [97]) hkA obA 20000 namesA (w.withFollow "special-get-raises" true) := by
  have h := HX.runEq_and (HX.runEq_and (HX.runEq_and (run1P w) (run1Q w)) (run1R w)) (run1S w)
  rw [ckE] at h
  exact h
theorem runA (w : World) : HandSHeadRun.RunEq RR (PySem.W.view RR.prog [97]) hkA obA 20000 namesA w := by
  have hs := PySem.World.withFollow_self w "special-get-raises"
  rw [← hs]
  cases w.params.followText "special-get-raises"
  · exact run0 w
  · exact run1 w
end LW
set_option Elab.async false
set_option linter.all false
set_option maxRecDepth 100000
set_option maxHeartbeats 4000000
namespace LW
open PySem PySem.Spec L2 DW PyProof.Rows
local macro_rules | `(tactic| walk_at "wp") => `(tactic| try simp only [u_maxD, u_idxD, u_isET, w_isET2, w_isET3, w_isET4, u_truT, u_iZ3, w_zip3E, u_lcO, u_restE, v_rng1, u_rngV, w_rngE, u_cval, w_isiO, u_par, u_iR3, u_makeSD, u_getXN, rngB_len, u_star, u_rev2L, u_callR, u_binXI, u_callX, u_getX, u_restF, u_binX, u_invX, w_neB, u_methXN, u_makeSN, u_tupR1, u_lc2, u_iZM, w_zipLT, w_zipTL, u_cntL, u_lstR1O, u_fld, w_fld, w_someE, u_setF, u_methX, w_objE, u_makeS, u_sortSet, u_lstR1, u_iZipL, u_iEnL, u_idx, u_popAt, u_cntT, u_idxT, u_callF, w_maxL, w_minL, w_ixDc, w_inDc, w_repL, w_listLs, w_tplT, w_tplP, u_isE, w_isE, u_kitER, u_kitET, u_excE, u_xf, w_xf1, u_slS, u_raise1, u_iEn, w_listStr, w_lenStr, w_catStr, w_ixStr, w_inStr, w_strE, w_strI, w_strS, u_rest, cut_to, cut_from1, Int.zero_add, u_revT, w_repT, u_tupG, u_try, u_gPlain, u_gThen, u_gNil, u_yield, u_gWhile, u_while, u_isX, u_kitR, u_kitT, u_excOk, w_zipE, u_goalX, u_lc, rngD_len, Int.toNat_natCast, u_for, u_iT, u_iL, u_iR1, u_iR2, u_iZ, u_iS, w_lstE, dwipe, u_asg, u_asgS, u_ret, u_retN, u_if, u_next, u_break, u_cont, u_drop, u_raise, u_aug, u_var, u_c, u_op, u_un, u_test, u_and, u_or, u_not, u_yes, u_andV, u_orV, u_notV, u_ifE, u_chain, u_nil, u_cons, u_tup, u_lst, u_own, u_cb, u_call, u_callS, u_name, u_etup, u_enil, u_econs, u_sub, u_app, u_slT, u_slL, u_noPart, u_part, u_revL, ex_some, w_I0, w_I, w_uI, w_int, w_bl, w_isi, w_someb, w_eqI, w_neI, w_eqS, w_neS, w_lenT, w_lenL, w_lenS, w_tupL, w_tupT, w_ixT, w_ixL, w_ixS, w_catT, w_catL, w_all, w_any, w_min2, w_divmod, w_listS, w_listL, w_listT, w_isN, w_notN, w_tupE, w_intE, w_consE, w_hdE, w_cellS, w_set, at0, at1, at2, at3, i_tT, i_tI, i_tB, i_tS, i_nT, i_nI, i_nB, i_nS, i_iT, i_iI, i_iB, i_iS, i_bT, i_bI, i_bB, i_bS, i_sT, i_sI, i_sB, i_sS, v_itemsS, w_eqB, isNone, dstart, List.map, List.length, List.replicate, List.cons_append, List.nil_append, List.append_nil, List.getElem?_cons_zero, List.getElem?_cons_succ, List.set_cons_zero, List.set_cons_succ, ix40, ix42, ix43, true_implies, false_implies, and_true, true_and, Bool.not_true, Bool.not_false, decide_eq_true_eq, decide_eq_false_iff_not, List.length_map, Nat.reduceAdd, reduceCtorEq, v_ixH, v_items, v_itemsT, v_itemsL, v_len, v_tuple, v_list, v_listOwn, sset_same, sset_sset, Option.some.injEq, Cell.lst.injEq, Cell.frz.injEq, false_and, exists_false, or_false, false_or, exists_eq_left', ne_eq, not_false_eq_true, isTup, Bool.true_eq_false, Bool.false_eq_true])
local macro_rules | `(tactic| walk_at "wps") => `(tactic| try simp only [u_seq, u_maxD, u_idxD, u_isET, w_isET2, w_isET3, w_isET4, u_truT, u_iZ3, w_zip3E, u_lcO, u_restE, v_rng1, u_rngV, w_rngE, u_cval, w_isiO, u_par, u_iR3, u_makeSD, u_getXN, rngB_len, u_star, u_rev2L, u_callR, u_binXI, u_callX, u_getX, u_restF, u_binX, u_invX, w_neB, u_methXN, u_makeSN, u_tupR1, u_lc2, u_iZM, w_zipLT, w_zipTL, u_cntL, u_lstR1O, u_fld, w_fld, w_someE, u_setF, u_methX, w_objE, u_makeS, u_sortSet, u_lstR1, u_iZipL, u_iEnL, u_idx, u_popAt, u_cntT, u_idxT, u_callF, w_maxL, w_minL, w_ixDc, w_inDc, w_repL, w_listLs, w_tplT, w_tplP, u_isE, w_isE, u_kitER, u_kitET, u_excE, u_xf, w_xf1, u_slS, u_raise1, u_iEn, w_listStr, w_lenStr, w_catStr, w_ixStr, w_inStr, w_strE, w_strI, w_strS, u_rest, cut_to, cut_from1, Int.zero_add, u_revT, w_repT, u_tupG, u_try, u_gPlain, u_gThen, u_gNil, u_yield, u_gWhile, u_while, u_isX, u_kitR, u_kitT, u_excOk, w_zipE, u_goalX, u_lc, rngD_len, Int.toNat_natCast, u_for, u_iT, u_iL, u_iR1, u_iR2, u_iZ, u_iS, w_lstE, dwipe, u_asg, u_asgS, u_ret, u_retN, u_if, u_next, u_break, u_cont, u_drop, u_raise, u_aug, u_var, u_c, u_op, u_un, u_test, u_and, u_or, u_not, u_yes, u_andV, u_orV, u_notV, u_ifE, u_chain, u_nil, u_cons, u_tup, u_lst, u_own, u_cb, u_call, u_callS, u_name, u_etup, u_enil, u_econs, u_sub, u_app, u_slT, u_slL, u_noPart, u_part, u_revL, ex_some, w_I0, w_I, w_uI, w_int, w_bl, w_isi, w_someb, w_eqI, w_neI, w_eqS, w_neS, w_lenT, w_lenL, w_lenS, w_tupL, w_tupT, w_ixT, w_ixL, w_ixS, w_catT, w_catL, w_all, w_any, w_min2, w_divmod, w_listS, w_listL, w_listT, w_isN, w_notN, w_tupE, w_intE, w_consE, w_hdE, w_cellS, w_set, at0, at1, at2, at3, i_tT, i_tI, i_tB, i_tS, i_nT, i_nI, i_nB, i_nS, i_iT, i_iI, i_iB, i_iS, i_bT, i_bI, i_bB, i_bS, i_sT, i_sI, i_sB, i_sS, v_itemsS, w_eqB, isNone, dstart, List.map, List.length, List.replicate, List.cons_append, List.nil_append, List.append_nil, List.getElem?_cons_zero, List.getElem?_cons_succ, List.set_cons_zero, List.set_cons_succ, ix40, ix42, ix43, true_implies, false_implies, and_true, true_and, Bool.not_true, Bool.not_false, decide_eq_true_eq, decide_eq_false_iff_not, List.length_map, Nat.reduceAdd, reduceCtorEq, v_ixH, v_items, v_itemsT, v_itemsL, v_len, v_tuple, v_list, v_listOwn, sset_same, sset_sset, Option.some.injEq, Cell.lst.injEq, Cell.frz.injEq, false_and, exists_false, or_false, false_or, exists_eq_left', ne_eq, not_false_eq_true, isTup, Bool.true_eq_false, Bool.false_eq_true])
section
variable {P : Program} {w : World} {K : Fg} {mg : Str → Option Value} {base : Heap}
def c_is_number : Con := fun ds μ Φ _ => ∃ i, ds = [.int i] ∧ Φ (.bl true) μ
theorem len_is_number {ds μ Φ Ψ} (h : c_is_number ds μ Φ Ψ) : ds.length = 1 := by obtain ⟨i, rfl, _⟩ := h; rfl
theorem w_is_number {i μ Φ Ψ} : c_is_number [.int i] μ Φ Ψ = Φ (.bl true) μ := propext ⟨fun ⟨j, e, q⟩ => q, fun q => ⟨i, rfl, q⟩⟩
theorem ok_is_number {cx : CXT} (T : Txt P w K mg) : FnOk P w K mg base cx 1 T.f_is_number T.d_is_number ["value"] (spOf K c_is_number) := by
  refine def_okC T.F_is_number sc_is_number _ (fun ds μ Φ Ψ h => len_is_number h) (fun cdv A outer s H E B hW hr =>
    ⟨_, (pss_one (ps_ret (pe_and (pe_callB call_isi (by rfl) T.z_isinstance (by decide +kernel) (pa_cons (pv 0) (pa_cons (pe_bltn (v := .ty "int") rfl T.z_int (by decide +kernel) rfl) pa_nil))) (pe_one (pe_not (pe_callB call_isi (by rfl) T.z_isinstance (by decide +kernel) (pa_cons (pv 0) (pa_cons (pe_bltn (v := .ty "bool") rfl T.z_bool (by decide +kernel) rfl) pa_nil)))))))),
      (sRet (sAndV (sCB (rcIsi (T := "int")) (sCons sVar (sCons sHd sNil))) (sNotV (sCB (rcIsi (T := "bool")) (sCons sVar (sCons sHd sNil))))))⟩) (fun ds μ Φ Ψ h => ?hv)
  case hv =>
    obtain ⟨i, rfl, h⟩ := h
    walk_at "wps"
    exact ret_same h
def c_is_below : Con := fun ds μ Φ _ => ∃ i m, ds = [.int i, .int m] ∧ Φ (.bl (decide (0 ≤ i ∧ i < m))) μ
theorem len_is_below {ds μ Φ Ψ} (h : c_is_below ds μ Φ Ψ) : ds.length = 2 := by obtain ⟨i, m, rfl, _⟩ := h; rfl
theorem w_is_below {i m μ Φ Ψ} : c_is_below [.int i, .int m] μ Φ Ψ = Φ (.bl (decide (0 ≤ i ∧ i < m))) μ := propext ⟨fun ⟨a, b, e, q⟩ => by cases e; exact q, fun q => ⟨i, m, rfl, q⟩⟩
theorem ok_is_below (T : Txt P w K mg) : FnOk P w K mg base (L2N.CX P w) 2 T.f_is_below T.d_is_below ["value", "limit"] (spOf K c_is_below) := by
  refine def_okC T.F_is_below sc_is_below _ (fun ds μ Φ Ψ h => len_is_below h) (fun cdv A outer s H E B hW hr =>
    have tk : L2N.Takes (cxOf (L2N.CX P w) P w K mg base N_is_below "is_below" (defScope s_is_below) T.f_is_below cdv A outer s H E) (fun cls d _ H => E cls d H) := L2N.takes_of rfl rfl rfl rfl
    ⟨_, (pss_one (ps_ret (pe_and (pe_call (ok_is_number T) hr rfl T.g_is_number T.F_is_number.kp T.b_is_number .nil passN (pa_cons (pv 0) pa_nil)) (pe_one (pe_chain op_le op_lt pe_int (pv 0) (pv 1)))))),
      (sRet (sAndV (sCall (sCons sVar sNil)) (sChain roBl0 roBl0 sInt sVar sVar)))⟩) (fun ds μ Φ Ψ h => ?hv)
  case hv =>
    obtain ⟨i, m, rfl, h⟩ := h
    walk_at "wps"
    simp only [w_is_number]
    walk_at "wps"
    refine ⟨fun h1 => ret_same ?_, fun h1 => ret_same ?_⟩
    · simpa [h1] using h
    · simpa [h1] using h
def c_count_choices_L : Con := fun ds μ Φ _ => ∃ ws : List Int, ds = [.lst (ws.map .int)] ∧ (∀ i z, ws[i]? = some z → CMulX (prodI (ws.take i)) z) ∧ Φ (.int (prodI ws)) μ
theorem len_count_choices_L {ds μ Φ Ψ} (h : c_count_choices_L ds μ Φ Ψ) : ds.length = 1 := by obtain ⟨i, rfl, _⟩ := h; rfl
theorem ok_count_choices_L {cx : CXT} (T : Txt P w K mg) : FnOk P w K mg base cx 1 T.f_count_choices T.d_count_choices ["widths"] (spOf K c_count_choices_L) := by
  refine def_okC T.F_count_choices sc_count_choices _ (fun ds μ Φ Ψ h => len_count_choices_L h) (fun cdv A outer s H E B hW hr =>
    ⟨_, (pss_cons (ps_set (i := 1) sc_count_choices.nd rfl (Or.inl rfl) pe_int)
      (pss_cons (ps_for (passes_of rfl) rfl (pi_list (pv 0)) (pg_name (i := 2) sc_count_choices.nd rfl (Or.inl rfl)) (pss_one (ps_set (i := 1) sc_count_choices.nd rfl (Or.inl rfl) (pe_op op_mulX (pv 1) (pv 2)))))
      (pss_one (ps_ret (pv 1))))),
      (sSeq (sAsg sInt sName)
      (sSeq (sFor (siL sVar) (fun _ _ _ => sName) (fun _ _ _ => (sAsg (sOp roInt sVar sVar) sName)))
      (sRet sVar)))⟩) (fun ds μ Φ Ψ h => ?hv)
  case hv =>
    obtain ⟨ws, rfl, hc, h⟩ := h
    walk_at "wps"
    refine ⟨fun i δ' μ' => μ' = μ ∧ ∃ x, δ' = [some (.lst (ws.map .int)), some (.int (prodI (ws.take i))), x], ⟨rfl, none, rfl⟩, ?_, ?_⟩
    · rintro i d δ' μ' hi ⟨rfl, x, rfl⟩
      obtain ⟨z, hz, rfl⟩ := mapI_get hi
      walk_at "wps"
      exact ⟨hc i z hz, _, by rw [prod_snoc hz]⟩
    · rintro δ' μ' ⟨rfl, x, rfl⟩
      rw [List.take_length]
      walk_at "wps"
      exact ret_same h
def c_count_choices_T : Con := fun ds μ Φ _ => ∃ ws : List Int, ds = [.tup (ws.map .int)] ∧ (∀ i z, ws[i]? = some z → CMulX (prodI (ws.take i)) z) ∧ Φ (.int (prodI ws)) μ
theorem len_count_choices_T {ds μ Φ Ψ} (h : c_count_choices_T ds μ Φ Ψ) : ds.length = 1 := by obtain ⟨i, rfl, _⟩ := h; rfl
theorem ok_count_choices_T {cx : CXT} (T : Txt P w K mg) : FnOk P w K mg base cx 1 T.f_count_choices T.d_count_choices ["widths"] (spOf K c_count_choices_T) := by
  refine def_okC T.F_count_choices sc_count_choices _ (fun ds μ Φ Ψ h => len_count_choices_T h) (fun cdv A outer s H E B hW hr =>
    ⟨_, (pss_cons (ps_set (i := 1) sc_count_choices.nd rfl (Or.inl rfl) pe_int)
      (pss_cons (ps_for (passes_of rfl) rfl (pi_tup (pv 0)) (pg_name (i := 2) sc_count_choices.nd rfl (Or.inl rfl)) (pss_one (ps_set (i := 1) sc_count_choices.nd rfl (Or.inl rfl) (pe_op op_mulX (pv 1) (pv 2)))))
      (pss_one (ps_ret (pv 1))))),
      (sSeq (sAsg sInt sName)
      (sSeq (sFor (siT sVar) (fun _ _ _ => sName) (fun _ _ _ => (sAsg (sOp roInt sVar sVar) sName)))
      (sRet sVar)))⟩) (fun ds μ Φ Ψ h => ?hv)
  case hv =>
    obtain ⟨ws, rfl, hc, h⟩ := h
    walk_at "wps"
    refine ⟨fun i δ' μ' => μ' = μ ∧ ∃ x, δ' = [some (.tup (ws.map .int)), some (.int (prodI (ws.take i))), x], ⟨rfl, none, rfl⟩, ?_, ?_⟩
    · rintro i d δ' μ' hi ⟨rfl, x, rfl⟩
      obtain ⟨z, hz, rfl⟩ := mapI_get hi
      walk_at "wps"
      exact ⟨hc i z hz, _, by rw [prod_snoc hz]⟩
    · rintro δ' μ' ⟨rfl, x, rfl⟩
      rw [List.take_length]
      walk_at "wps"
      exact ret_same h
def c_has_outcomes : Con := fun ds μ Φ _ => ∃ i : Int, ds = [.int i] ∧ Φ (.bl (decide (1 ≤ i ∧ i ≤ 4))) μ
theorem len_has_outcomes {ds μ Φ Ψ} (h : c_has_outcomes ds μ Φ Ψ) : ds.length = 1 := by obtain ⟨i, rfl, _⟩ := h; rfl
theorem w_has_outcomes {i μ Φ Ψ} : c_has_outcomes [.int i] μ Φ Ψ = Φ (.bl (decide (1 ≤ i ∧ i ≤ 4))) μ := propext ⟨fun ⟨a, e, q⟩ => by cases e; exact q, fun q => ⟨i, rfl, q⟩⟩
theorem ok_has_outcomes {cx : CXT} (T : Txt P w K mg) : FnOk P w K mg base cx 1 T.f_has_outcomes T.d_has_outcomes ["outcomes"] (spOf K c_has_outcomes) := by
  refine def_okC T.F_has_outcomes sc_has_outcomes _ (fun ds μ Φ Ψ h => len_has_outcomes h) (fun cdv A outer s H E B hW hr =>
    ⟨_, (pss_one (ps_ret (pe_chain op_le op_le pe_int (pv 0) (pe_glob (v := .int 4) rfl T.g_MOST_OUTCOMES.choose_spec ⟨_, rfl⟩)))),
      (sRet (sChain roBl0 roBl0 sInt sVar sInt))⟩) (fun ds μ Φ Ψ h => ?hv)
  case hv =>
    obtain ⟨i, rfl, h⟩ := h
    walk_at "wps"
    refine ⟨fun h1 => ret_same ?_, fun h1 => ret_same ?_⟩
    · simpa [h1] using h
    · simpa [h1] using h
def c_width_at : Con := fun ds μ Φ _ => ∃ (ws : List Int) (p : Nat), ds = [.tup (ws.map .int), .int (p : Int)] ∧ WsOk ws ∧ Φ (.int (wd ws p : Int)) μ
theorem len_width_at {ds μ Φ Ψ} (h : c_width_at ds μ Φ Ψ) : ds.length = 2 := by obtain ⟨i, _, rfl, _⟩ := h; rfl
theorem ok_width_at {cx : CXT} (T : Txt P w K mg) : FnOk P w K mg base cx 1 T.f_width_at T.d_width_at ["widths", "place"] (spOf K c_width_at) := by
  refine def_okC T.F_width_at sc_width_at _ (fun ds μ Φ Ψ h => len_width_at h) (fun cdv A outer s H E B hW hr =>
    ⟨_, (pss_one (ps_ret (pe_ix ix_tup (pv 0) (pe_op op_mod (pv 1) (pe_callB call_len_seq (by rfl) T.z_len PySem.boot_len (pa_cons (pv 0) pa_nil))) (fun _ _ => rfl)))),
      (sRet (sOp roIxT sVar (sOp roInt sVar (sCB rcLen (sCons sVar sNil)))))⟩) (fun ds μ Φ Ψ h => ?hv)
  case hv =>
    obtain ⟨ws, p, rfl, hw, h⟩ := h
    have h0 := hw.l0
    obtain ⟨x, hx, e, x1, x2⟩ := hw.at_ p
    walk_at "wps"
    have em : (p : Int) % (ws.length : Int) = ((p % ws.length : Nat) : Int) := rfl
    rw [em]
    refine ⟨by omega, _, atI_nat (v := .int x) (by rw [List.getElem?_map, hx]; rfl), ret_same ?_⟩
    rw [e]; exact h
def c_terms_behind : Con := fun ds μ Φ _ => ∃ xs : List D, ds = [.tup xs] ∧ Φ (.tup (xs.drop 2)) μ
theorem len_terms_behind {ds μ Φ Ψ} (h : c_terms_behind ds μ Φ Ψ) : ds.length = 1 := by obtain ⟨i, rfl, _⟩ := h; rfl
theorem ok_terms_behind {cx : CXT} (T : Txt P w K mg) : FnOk P w K mg base cx 1 T.f_terms_behind T.d_terms_behind ["term"] (spOf K c_terms_behind) := by
  refine def_okC T.F_terms_behind sc_terms_behind _ (fun ds μ Φ Ψ h => len_terms_behind h) (fun cdv A outer s H E B hW hr =>
    ⟨_, (pss_one (ps_ret (pe_slice sl_tupN (pv 0) (po_some (pe_glob (v := .int 2) rfl T.g_ITEMS_BEFORE.choose_spec ⟨_, rfl⟩)) po_none))),
      (sRet (sSlT sVar (sPart sInt) sNoPart))⟩) (fun ds μ Φ Ψ h => ?hv)
  case hv =>
    obtain ⟨xs, rfl, h⟩ := h
    walk_at "wps"
    rw [show (2 : Int) = ((2 : Nat) : Int) from rfl, cut_from]
    exact ret_same h
def c_are_widths : Con := fun ds μ Φ _ => ∃ ws : List Int, ds = [.tup (ws.map .int)] ∧ WsOk ws ∧ Φ (.bl true) μ
theorem len_are_widths {ds μ Φ Ψ} (h : c_are_widths ds μ Φ Ψ) : ds.length = 1 := by obtain ⟨i, rfl, _⟩ := h; rfl
theorem ok_are_widths (T : Txt P w K mg) : FnOk P w K mg base (L2N.CX P w) 2 T.f_are_widths T.d_are_widths ["widths"] (spOf K c_are_widths) := by
  refine def_okC T.F_are_widths sc_are_widths _ (fun ds μ Φ Ψ h => len_are_widths h) (fun cdv A outer s H E B hW hr =>
    have tk : L2N.Takes (cxOf (L2N.CX P w) P w K mg base N_are_widths "are_widths" (defScope s_are_widths) T.f_are_widths cdv A outer s H E) (fun cls d _ H => E cls d H) := L2N.takes_of rfl rfl rfl rfl
    ⟨_, (pss_cons (ps_if (PW.pt (pw_or (pt_not (pt_val (pe_callB call_isi (by rfl) T.z_isinstance (by decide +kernel) (pa_cons (pv 0) (pa_cons (pe_bltn (v := .ty "tuple") rfl T.z_tuple (by decide +kernel) rfl) pa_nil))))) (pw_or1 (pt_not (pt_chain op_le op_le pe_int (pe_callB call_len_seq (by rfl) T.z_len PySem.boot_len (pa_cons (pv 0) pa_nil)) (pe_glob (v := .int 6) rfl T.g_MOST_WIDTHS.choose_spec ⟨_, rfl⟩)))))) (pss_one (ps_ret pe_bl)) pss_nil)
      (pss_one (ps_ret (pe_callB (cr_all rfl) (by rfl) T.z_all (by decide +kernel) (pa_cons (pe_lc (own := [("width", 1)]) rfl sc_are_widths.nd (pi_tup (pv 0)) (blkOk_by (N := N_are_widths) (sc := defScope s_are_widths) (by decide +kernel)) (fun _ _ _ _ _ => (pg_name (i := 1) sc_are_widths.nd rfl (Or.inl rfl))) (fun _ _ _ _ _ => pts_nil) (fun _ _ _ _ _ => (pe_and (pe_call (ok_is_number T) hr rfl T.g_is_number T.F_is_number.kp T.b_is_number .nil passN (pa_cons (pv 1) pa_nil)) (pe_one (pe_chain op_le op_le pe_int (pv 1) (pe_glob (v := .int 4) rfl T.g_WIDEST.choose_spec ⟨_, rfl⟩)))))) pa_nil))))),
      (sSeq (sIfS (sOr (sNot (sB (sCB (rcIsi (T := "tuple")) (sCons sVar (sCons sHd sNil))))) (sNot (sTest (sChain roBl0 roBl0 sInt (sCB rcLen (sCons sVar sNil)) sInt)))) (sRet sBl) sNext)
      (sRet (sCB rcAll (sCons (sLc (siT sVar) (gwName List.mem_cons_self) (fun _ _ _ => sName) (fun _ _ _ => sYes) (fun _ _ _ => (sAndV (sCall (sCons sVar sNil)) (sChain roBl0 roBl0 sInt sVar sInt)))) sNil))))⟩) (fun ds μ Φ Ψ h => ?hv)
  case hv =>
    obtain ⟨ws, rfl, hw, h⟩ := h
    have h0 := hw.l0
    have h1 := hw.l1
    walk_at "wps"
    refine ⟨fun _ => ⟨fun q => ?_, fun _ => ?_⟩, fun q => absurd q (by omega)⟩
    · rw [decide_eq_true (by omega)] at q; cases q
    · refine lcZ (fun x => .bl (decide (1 ≤ x ∧ x ≤ 4))) (by omega) (fun x μ2 X hx hsub hk => ?_) ?_
      · have := hw.w x hx
        walk_at "wps"
        simp only [w_is_number]
        walk_at "wps"
        refine ⟨fun c1 => ?_, fun c1 => absurd this.1 c1⟩
        simpa [c1] using hk
      · have e : ws.map (fun x => D.bl (decide (1 ≤ x ∧ x ≤ 4))) = (ws.map fun x => decide (1 ≤ x ∧ x ≤ 4)).map D.bl := by rw [List.map_map]; rfl
        rw [e, w_all]
        refine ret_same ?_
        have e2 : (ws.map fun x => decide (1 ≤ x ∧ x ≤ 4)).all id = true := by
          rw [List.all_map, List.all_eq_true]
          exact fun x hx => decide_eq_true (hw.w x hx)
        rw [e2]; exact h
def c_require_form : Con := fun ds μ Φ _ => ∃ (ws : List Int) (oc : Nat), ds = [.tup (ws.map .int), .int (oc : Int)] ∧ WsOk ws ∧ 1 ≤ oc ∧ oc ≤ 4 ∧ Φ .non μ
theorem len_require_form {ds μ Φ Ψ} (h : c_require_form ds μ Φ Ψ) : ds.length = 2 := by obtain ⟨i, _, rfl, _⟩ := h; rfl
theorem ok_require_form (T : Txt P w K mg) : FnOk P w K mg base (L2N.CX P w) 3 T.f_require_form T.d_require_form ["widths", "outcomes"] (spOf K c_require_form) := by
  refine def_okC T.F_require_form sc_require_form _ (fun ds μ Φ Ψ h => len_require_form h) (fun cdv A outer s H E B hW hr =>
    have tk : L2N.Takes (cxOf (L2N.CX P w) P w K mg base N_require_form "require_form" (defScope s_require_form) T.f_require_form cdv A outer s H E) (fun cls d _ H => E cls d H) := L2N.takes_of rfl rfl rfl rfl
    ⟨_, (pss_one (ps_if (PW.pt (pw_or (pt_not (pt_val (pe_call (ok_has_outcomes T) (hr.mono (by decide)) rfl T.g_has_outcomes T.F_has_outcomes.kp T.b_has_outcomes .nil passN (pa_cons (pv 1) pa_nil)))) (pw_or1 (pt_not (pt_val (pe_call (ok_are_widths T) hr rfl T.g_are_widths T.F_are_widths.kp T.b_are_widths .nil passN (pa_cons (pv 0) pa_nil))))))) (pss_one (L2N.ps_raise rfl tk (L2N.pmk_own PySem.F.excBase_ValueError T.x_OutOfRange T.g_OutOfRange T.k_OutOfRange (raises_own T.e_OutOfRange T.t_OutOfRange) rfl))) pss_nil)),
      (sIfS (sOr (sNot (sB (sCall (sCons sVar sNil)))) (sNot (sB (sCall (sCons sVar sNil))))) (sRaise0W (W := fun cls d _ H => E cls d H) (C := T.c_OutOfRange) (by exact hW)) sNext)⟩) (fun ds μ Φ Ψ h => ?hv)
  case hv =>
    obtain ⟨ws, oc, rfl, hw, o1, o2, h⟩ := h
    walk_at "wps"
    simp only [w_has_outcomes]
    walk_at "wps"
    rw [decide_eq_true (show 1 ≤ (oc : Int) ∧ (oc : Int) ≤ 4 by omega)]
    walk_at "wps"
    refine ⟨ws, rfl, hw, ?_⟩
    walk_at "wps"
    exact ret_same h
def c_has_query_form : Con := fun ds μ Φ _ => ∃ (ws : List Int) (oc lv : Nat) (t : QT), ds = [qD t, .tup (ws.map .int), .int (lv : Int)] ∧ WsOk ws ∧ QOk ws oc t ∧ lv + qDep t ≤ 20 ∧ Φ (.bl true) μ
theorem len_has_query_form {ds μ Φ Ψ} (h : c_has_query_form ds μ Φ Ψ) : ds.length = 3 := by obtain ⟨i, _, _, _, rfl, _⟩ := h; rfl
theorem ok_has_query_form (T : Txt P w K mg) : FnOk P w K mg base (L2N.CX P w) 3 T.f_has_query_form T.d_has_query_form ["term", "widths", "level"] (spOf K c_has_query_form) := by
  refine def_okC T.F_has_query_form sc_has_query_form _ (fun ds μ Φ Ψ h => len_has_query_form h) (fun cdv A outer s H E B hW hr =>
    have tk : L2N.Takes (cxOf (L2N.CX P w) P w K mg base N_has_query_form "has_query_form" (defScope s_has_query_form) T.f_has_query_form cdv A outer s H E) (fun cls d _ H => E cls d H) := L2N.takes_of rfl rfl rfl rfl
    ⟨_, (pss_cons (ps_if (PW.pt (pw_or (pt_not (pt_val (pe_callB call_isi (by rfl) T.z_isinstance (by decide +kernel) (pa_cons (pv 0) (pa_cons (pe_bltn (v := .ty "tuple") rfl T.z_tuple (by decide +kernel) rfl) pa_nil))))) (pw_or1 (pt_cmpR op_eq (pe_callB call_len_seq (by rfl) T.z_len PySem.boot_len (pa_cons (pv 0) pa_nil)) pe_int (nomark _))))) (pss_one (ps_ret pe_bl)) pss_nil)
      (pss_cons (ps_if (pt_cmpR op_eq (pe_ix ix_tup (pv 0) pe_int (fun _ _ => rfl)) pe_str (nomark _)) (pss_one (ps_ret (pe_cmpR op_eq (pe_callB call_len_seq (by rfl) T.z_len PySem.boot_len (pa_cons (pv 0) pa_nil)) pe_int (nomark _)))) pss_nil)
      (pss_cons (ps_if (PW.pt (pw_or (pt_cmpR op_ne (pe_ix ix_tup (pv 0) pe_int (fun _ _ => rfl)) pe_str (nomark _)) (pw_or (pt_cmpR op_le (pe_callB call_len_seq (by rfl) T.z_len PySem.boot_len (pa_cons (pv 0) pa_nil)) (pe_glob (v := .int 2) rfl T.g_ITEMS_BEFORE.choose_spec ⟨_, rfl⟩) (nomark _)) (pw_or1 (pt_cmpR op_ge (pv 2) (ClX.pe_cval (pe_glob (v := .ref T.c_Query) rfl T.g_Query rfl)) (nomark _)))))) (pss_one (ps_ret pe_bl)) pss_nil)
      (pss_one (ps_ret (pe_or (pe_not (pe_call (ok_is_below T) hr rfl T.g_is_below T.F_is_below.kp T.b_is_below .nil passN (pa_cons (pe_ix ix_tup (pv 0) pe_int (fun _ _ => rfl)) (pa_cons (pe_glob (v := .int 100) rfl T.g_PLACES.choose_spec ⟨_, rfl⟩) pa_nil)))) (pe_one (pe_cmpR op_eq (pe_callB call_len_seq (by rfl) T.z_len PySem.boot_len (pa_cons (pe_call (ok_terms_behind T) (hr.mono (by decide)) rfl T.g_terms_behind T.F_terms_behind.kp T.b_terms_behind .nil passN (pa_cons (pv 0) pa_nil)) pa_nil)) (pe_call (ok_width_at T) (hr.mono (by decide)) rfl T.g_width_at T.F_width_at.kp T.b_width_at .nil passN (pa_cons (pv 1) (pa_cons (pe_ix ix_tup (pv 0) pe_int (fun _ _ => rfl)) pa_nil))) (nomark _))))))))),
      (sSeq (sIfS (sOr (sNot (sB (sCB (rcIsi (T := "tuple")) (sCons sVar (sCons sHd sNil))))) (sTest (sOp roEq (sCB rcLen (sCons sVar sNil)) sInt))) (sRet sBl) sNext)
      (sSeq (sIfS (sTest (sOp roEq (sOp roIxT sVar sInt) sStr)) (sRet (sOp roEq (sCB rcLen (sCons sVar sNil)) sInt)) sNext)
      (sSeq (sIfS (sOr (sTest (sOp roNe (sOp roIxT sVar sInt) sStr)) (sOr (sTest (sOp roBl0 (sCB rcLen (sCons sVar sNil)) sInt)) (sTest (sOp roBl0 sVar (sCVal (n := 20) T.rd_Query T.cv_Query_MOST_LEVELS sHd))))) (sRet sBl) sNext)
      (sRet (sOrV (sNotV (sCall (sCons (sOp roIxT sVar sInt) (sCons sInt sNil)))) (sOp roEq (sCB rcLen (sCons (sCall (sCons sVar sNil)) sNil)) (sCall (sCons sVar (sCons (sOp roIxT sVar sInt) sNil)))))))))⟩) (fun ds μ Φ Ψ h => ?hv)
  case hv =>
    obtain ⟨ws, oc, lv, t, rfl, hw, ht, hl, h⟩ := h
    cases t with
    | tell o =>
      rw [qD]
      refine seq_cut fun M hM => ?_
      walk_at "wp"
      refine ⟨fun q => absurd q (by omega), fun _ => ?_⟩
      rw [hM]; clear hM M
      refine seq_cut fun M hM => ?_
      walk_at "wp"
      exact ⟨ret_same h, fun z => absurd trivial z⟩
    | look p ts =>
      obtain ⟨hp, hlen, hts⟩ := ht
      have hw1 := hw.wd1 p
      have e1 : (qDs ts).length = ts.length := qDs_len ts
      rw [qDep] at hl
      rw [qD]
      refine seq_cut fun M hM => ?_
      walk_at "wp"
      refine ⟨fun q => absurd q (by omega), fun _ => ?_⟩
      rw [hM]; clear hM M
      refine seq_cut fun M hM => ?_
      walk_at "wp"
      refine ⟨fun q => absurd q (by decide), fun _ => ?_⟩
      rw [hM]; clear hM M
      refine seq_cut fun M hM => ?_
      walk_at "wp"
      refine ⟨fun q => ?_, fun _ => ⟨fun q => absurd q (by omega), fun _ => ⟨fun q => absurd q (by omega), fun _ => ?_⟩⟩⟩
      · exact absurd q (by decide)
      rw [hM]; clear hM M
      walk_at "wps"
      simp only [w_is_below]
      walk_at "wps"
      rw [decide_eq_true (show 0 ≤ (p : Int) ∧ (p : Int) < 100 by omega)]
      walk_at "wps"
      refine ⟨_, rfl, _, .tup _, ws, p, rfl, hw, ?_⟩
      walk_at "wps"
      rw [List.drop_succ_cons, List.drop_succ_cons, List.drop_zero, e1, hlen, decide_eq_true rfl]
      exact ret_same h
end
section
variable {P : Program} {w : World} {K : Fg} {mg : Str → Option Value} {base : Heap}
def c_wrong_query (n : Nat) : Con := fun ds μ Φ _ => ∃ (ws : List Int) (oc lv : Nat) (t : QT), ds = [qD t, .tup (ws.map .int), .int (oc : Int), .int (lv : Int)] ∧ WsOk ws ∧ QOk ws oc t ∧ lv + qDep t ≤ 20 ∧ qDep t < n ∧ Φ .non μ
theorem len_wrong_query {n ds μ Φ Ψ} (h : c_wrong_query n ds μ Φ Ψ) : ds.length = 4 := by obtain ⟨i, _, _, _, rfl, _⟩ := h; rfl
theorem step_wrong_query (T : Txt P w K mg) {k : Nat} (hk : 4 ≤ k) (n : Nat) (ih_wrong_query : FnOk P w K mg base (L2N.CX P w) k T.f_wrong_query T.d_wrong_query ["term", "widths", "outcomes", "level"] (spOf K (c_wrong_query n))) : FnOk P w K mg base (L2N.CX P w) (k + 1) T.f_wrong_query T.d_wrong_query ["term", "widths", "outcomes", "level"] (spOf K (c_wrong_query (n + 1))) := by
  refine def_okC T.F_wrong_query sc_wrong_query _ (fun ds μ Φ Ψ h => len_wrong_query h) (fun cdv A outer s H E B hW hr =>
    have tk : L2N.Takes (cxOf (L2N.CX P w) P w K mg base N_wrong_query "wrong_query" (defScope s_wrong_query) T.f_wrong_query cdv A outer s H E) (fun cls d _ H => E cls d H) := L2N.takes_of rfl rfl rfl rfl
    ⟨_, (pss_cons (ps_if (pt_not (pt_val (pe_call (ok_has_query_form T) (hr.mono (by omega)) rfl T.g_has_query_form T.F_has_query_form.kp T.b_has_query_form .nil passN (pa_cons (pv 0) (pa_cons (pv 1) (pa_cons (pv 3) pa_nil)))))) (pss_one (ps_ret (pe_tupN pa_nil))) pss_nil)
      (pss_cons (ps_if (pt_cmpR op_eq (pe_ix ix_tup (pv 0) pe_int (fun _ _ => rfl)) pe_str (nomark _)) (pss_one (ps_ret (pe_ifExp (pt_val (pe_call (ok_is_below T) (hr.mono (by omega)) rfl T.g_is_below T.F_is_below.kp T.b_is_below .nil passN (pa_cons (pe_ix ix_tup (pv 0) pe_int (fun _ _ => rfl)) (pa_cons (pv 2) pa_nil)))) pe_non (pe_tupN (pa_cons pe_int pa_nil))))) pss_nil)
      (pss_cons (ps_if (pt_not (pt_val (pe_call (ok_is_below T) (hr.mono (by omega)) rfl T.g_is_below T.F_is_below.kp T.b_is_below .nil passN (pa_cons (pe_ix ix_tup (pv 0) pe_int (fun _ _ => rfl)) (pa_cons (pe_glob (v := .int 100) rfl T.g_PLACES.choose_spec ⟨_, rfl⟩) pa_nil))))) (pss_one (ps_ret (pe_tupN (pa_cons pe_int pa_nil)))) pss_nil)
      (pss_cons (ps_for (passes_of rfl) rfl (pi_enumTg (n := 2) (by rfl) T.z_enumerate (pe_glob (v := .int 2) rfl T.g_ITEMS_BEFORE.choose_spec ⟨_, rfl⟩) (pa_cons (pe_call (ok_terms_behind T) (hr.mono (by omega)) rfl T.g_terms_behind T.F_terms_behind.kp T.b_terms_behind .nil passN (pa_cons (pv 0) pa_nil)) pa_nil) (by decide) (by decide)) (pg_tup (n := 2) rfl (pgs_cons (pg_name (i := 4) sc_wrong_query.nd rfl (Or.inl rfl)) (pgs_cons (pg_name (i := 5) sc_wrong_query.nd rfl (Or.inl rfl)) pgs_nil))) (pss_cons (ps_set (i := 6) sc_wrong_query.nd rfl (Or.inl rfl) (pe_call ih_wrong_query hr rfl T.g_wrong_query T.F_wrong_query.kp T.b_wrong_query .nil passN (pa_cons (pv 5) (pa_cons (pv 1) (pa_cons (pv 2) (pa_cons (pe_op op_add (pv 3) pe_int) pa_nil))))))
      (pss_one (ps_if (pt_cmpR op_notN (pv 6) pe_non (nomark _)) (pss_one (ps_ret (pe_op op_catN (pe_tupN (pa_cons (pv 4) pa_nil)) (pv 6)))) pss_nil))))
      (pss_one (ps_ret pe_non)))))),
      (sSeq (sIfS (sNot (sB (sCall (sCons sVar (sCons sVar (sCons sVar sNil)))))) (sRet (sTup sNil)) sNext)
      (sSeq (sIfS (sTest (sOp roEq (sOp roIxT sVar sInt) sStr)) (sRet (sIf (sB (sCall (sCons (sOp roIxT sVar sInt) (sCons sVar sNil)))) sNon (sTup (sCons sInt sNil)))) sNext)
      (sSeq (sIfS (sNot (sB (sCall (sCons (sOp roIxT sVar sInt) (sCons sInt sNil))))) (sRet (sTup (sCons sInt sNil))) sNext)
      (sSeq (sFor (siEnumT (sCall (sCons sVar sNil))) (fun _ _ _ => (sgTup (sgCons sName (sgCons sName sgNil)))) (fun _ _ _ => (sSeq (sAsg (sCall (sCons sVar (sCons sVar (sCons sVar (sCons (sOp roInt0 sVar sInt) sNil))))) sName)
      (sIfS (sTest (sOp roNotN sVar sNon)) (sRet (sOp roCatT (sTup (sCons sVar sNil)) sVar)) sNext))))
      (sRet sNon)))))⟩) (fun ds μ Φ Ψ h => ?hv)
  case hv =>
    obtain ⟨ws, oc, lv, t, rfl, hw, ht, hl, hn, h⟩ := h
    refine seq_cut fun M hM => ?_
    walk_at "wp"
    refine ⟨ws, oc, lv, t, rfl, hw, ht, hl, ?_⟩
    walk_at "wp"
    rw [hM]; clear hM M
    cases t with
    | tell o =>
      rw [qD]
      refine seq_cut fun M hM => ?_
      walk_at "wp"
      have ho : o < oc := ht
      refine ⟨?_, fun z => absurd trivial z⟩
      simp only [w_is_below]
      walk_at "wp"
      refine ⟨fun _ => ret_same h, fun z => absurd (show 0 ≤ (o : Int) ∧ (o : Int) < (oc : Int) by omega) z⟩
    | look p ts =>
      obtain ⟨hp, hlen, hts⟩ := ht
      rw [qoks_iff] at hts
      rw [qDep] at hl hn
      rw [qD]
      refine seq_cut fun M hM => ?_
      walk_at "wp"
      refine ⟨fun q => absurd q (by decide), fun _ => ?_⟩
      rw [hM]; clear hM M
      refine seq_cut fun M hM => ?_
      walk_at "wp"
      simp only [w_is_below]
      walk_at "wp"
      rw [decide_eq_true (show 0 ≤ (p : Int) ∧ (p : Int) < 100 by omega)]
      walk_at "wp"
      rw [hM]; clear hM M
      refine seq_cut fun M hM => ?_
      walk_at "wp"
      refine ⟨_, rfl, _, rfl, ?_⟩
      rw [List.drop_succ_cons, List.drop_succ_cons, List.drop_zero]
      have e1 : (qDs ts).length = ts.length := qDs_len ts
      refine ⟨fun _ δ' μ' => μ' = μ ∧ ∃ x y z, δ' = [some (.tup (.str "look" :: .int (p : Int) :: qDs ts)), some (.tup (ws.map .int)), some (.int (oc : Int)), some (.int (lv : Int)), x, y, z], ⟨rfl, none, none, none, rfl⟩, ?_, ?_⟩
      · rintro i d δ' μ' hi ⟨rfl, x, y, z, rfl⟩
        have hil : i < ts.length := by have := (List.getElem?_eq_some_iff.mp hi).1; rw [List.length_map, List.length_range, e1] at this; exact this
        rw [List.getElem?_map, List.getElem?_range (by rw [e1]; exact hil)] at hi
        cases hi
        have hd := qdeps_le (List.getElem_mem hil)
        refine ⟨_, rfl, rfl, _, _, rfl, _, _, rfl, rfl, ?_⟩
        rw [qDs_at hil]
        walk_at "wps"
        refine ⟨ws, oc, lv + 1, ts[i], rfl, hw, hts _ (List.getElem_mem hil), by omega, by omega, ?_⟩
        walk_at "wps"
        exact ⟨_, _, _, rfl⟩
      · rintro δ' μ' ⟨rfl, x, y, z, rfl⟩
        rw [hM]
        walk_at "wp"
        exact ret_same h
def c_places_of (n : Nat) : Con := fun ds μ Φ _ => ∃ (ws : List Int) (oc : Nat) (t : QT), ds = [qD t] ∧ QOk ws oc t ∧ qDep t < n ∧ (qPl t).length ≤ 1000 ∧ Φ (.lst (nI (qPl t))) μ
theorem len_places_of {n ds μ Φ Ψ} (h : c_places_of n ds μ Φ Ψ) : ds.length = 1 := by obtain ⟨i, _, _, rfl, _⟩ := h; rfl
theorem step_places_of (T : Txt P w K mg) {k : Nat} (hk : 4 ≤ k) (n : Nat) (ih_places_of : FnOk P w K mg base (L2N.CX P w) k T.f_places_of T.d_places_of ["term"] (spOf K (c_places_of n))) : FnOk P w K mg base (L2N.CX P w) (k + 1) T.f_places_of T.d_places_of ["term"] (spOf K (c_places_of (n + 1))) := by
  refine def_okC T.F_places_of sc_places_of _ (fun ds μ Φ Ψ h => len_places_of h) (fun cdv A outer s H E B hW hr =>
    have tk : L2N.Takes (cxOf (L2N.CX P w) P w K mg base N_places_of "places_of" (defScope s_places_of) T.f_places_of cdv A outer s H E) (fun cls d _ H => E cls d H) := L2N.takes_of rfl rfl rfl rfl
    ⟨_, (pss_cons (ps_if (pt_cmpR op_eq (pe_ix ix_tup (pv 0) pe_int (fun _ _ => rfl)) pe_str (nomark _)) (pss_one (ps_ret (pe_lst pa_nil))) pss_nil)
      (pss_one (ps_ret (pe_op op_cat (pe_lst (pa_cons (pe_ix ix_tup (pv 0) pe_int (fun _ _ => rfl)) pa_nil)) (pe_lc2 (own := [("below", 1), ("place", 2)]) (vs1 := [2]) rfl sc_places_of.nd (pi_tup (pe_call (ok_terms_behind T) (hr.mono (by omega)) rfl T.g_terms_behind T.F_terms_behind.kp T.b_terms_behind .nil passN (pa_cons (pv 0) pa_nil))) (blkOk_by (N := N_places_of) (sc := defScope s_places_of) (by decide +kernel)) (by decide) (fun _ _ _ _ _ => (pg_name (i := 1) sc_places_of.nd rfl (Or.inl rfl))) (fun _ _ _ _ _ => pts_nil) (fun _ _ _ _ _ => (pi_list (pe_call ih_places_of hr (by rfl) T.g_places_of T.F_places_of.kp T.b_places_of .nil passN (pa_cons (pv 1) pa_nil)))) (fun _ _ _ _ _ => (pg_name (i := 2) sc_places_of.nd rfl (Or.inl rfl))) (fun _ _ _ _ _ => pts_nil) (fun _ _ _ _ _ => (pv 2))))))),
      (sSeq (sIfS (sTest (sOp roEq (sOp roIxT sVar sInt) sStr)) (sRet (sLst sNil)) sNext)
      (sRet (sOp roCatL (sLst (sCons (sOp roIxT sVar sInt) sNil)) (sLc2 (siT (sCall (sCons sVar sNil))) (gwName List.mem_cons_self) (gwName List.mem_cons_self) (fun _ _ _ => sName) (fun _ _ _ => sYes) (fun _ _ _ => (siL (sCall (sCons sVar sNil)))) (fun _ _ _ => sName) (fun _ _ _ => sYes) (fun _ _ _ => sVar)))))⟩) (fun ds μ Φ Ψ h => ?hv)
  case hv =>
    obtain ⟨ws, oc, t, rfl, ht, hn, hb, h⟩ := h
    cases t with
    | tell o =>
      rw [qD]
      walk_at "wps"
      exact ⟨⟨by omega, ret_same h⟩, fun z => absurd trivial z⟩
    | look p ts =>
      obtain ⟨hp, hlen, hts⟩ := ht
      rw [qoks_iff] at hts
      rw [qDep] at hn
      rw [qPl, List.length_cons] at hb
      rw [qD]
      walk_at "wps"
      refine ⟨fun q => absurd q (by decide), fun _ => ⟨by omega, _, rfl, _, rfl, ?_⟩⟩
      rw [List.drop_succ_cons, List.drop_succ_cons, List.drop_zero]
      have hcol : ∀ i, i < ts.length → (qPl (ts.getD i (.tell 0))).length ≤ (qPl.qPls ts).length := fun i hi => by
        rw [List.getD_eq_getElem?_getD, List.getElem?_eq_getElem hi]
        exact qpls_len (List.getElem_mem hi)
      have e1 : (qDs ts).length = ts.length := qDs_len ts
      refine lcG2_pure (fun i => nI (qPl (ts.getD i (.tell 0)))) (fun i j => .int (((qPl (ts.getD i (.tell 0))).getD j 0 : Nat) : Int)) (fun i hi => ?_) (fun i => ?_) (fun i d μ2 X hi hsub hx => ?_) (fun i d j d1 μ2 X hi hj hsub hx => ?_) ?_
      · rw [e1] at hi
        rw [nI_flat ts i hi, nI_len]
        have := qpls_take ts i
        omega
      · rw [nI_len]
        by_cases hi : i < ts.length
        · have := hcol i hi
          omega
        · rw [List.getD_eq_getElem?_getD, List.getElem?_eq_none (by omega)]
          show ([] : List Nat).length ≤ 50000
          decide
      · obtain ⟨hil, rfl⟩ := qDs_get hi
        have hd := qdeps_le (List.getElem_mem hil)
        have hl := qpls_len (List.getElem_mem hil)
        walk_at "wps"
        refine ⟨ws, oc, ts[i], rfl, hts _ (List.getElem_mem hil), by omega, by omega, ?_⟩
        rw [List.getD_eq_getElem?_getD, List.getElem?_eq_getElem hil] at hx
        exact ⟨_, rfl, hx⟩
      · obtain ⟨hjl, rfl⟩ := nI_get hj
        walk_at "wps"
        rw [List.getD_eq_getElem?_getD, List.getElem?_eq_getElem hjl] at hx
        exact hx
      · rw [e1, nI_flat ts _ (Nat.le_refl _), List.take_length]
        walk_at "wps"
        rw [nI_len]
        exact ⟨by omega, ret_same (by rw [qPl] at h; exact h)⟩
end
section
variable {P : Program} {w : World} {K : Fg} {mg : Str → Option Value} {base : Heap}
theorem fn_never {P : Program} {w : World} {K : Fg} {mg : Str → Option Value} {base : Heap} {CX : CXT} {k : Nat} {f : Addr} {fd : FuncData} {ps : List Str} {c : Con} (h : ∀ ds μ Φ Ψ, ¬ c ds μ Φ Ψ) : FnOk P w K mg base CX k f fd ps (spOf K c) :=
  ⟨fun vs H Q E q => by obtain ⟨μ, ds, Φ, Ψ, _, _, hc, _⟩ := q; exact absurd hc (h _ _ _ _), fun A outer s H args us vs Q E _ _ _ _ q => by obtain ⟨μ, ds, Φ, Ψ, _, _, hc, _⟩ := q; exact absurd hc (h _ _ _ _)⟩
section
variable {P : Program} {w : World} {K : Fg} {mg : Str → Option Value} {base : Heap}
theorem okN_wrong_query (T : Txt P w K mg) : ∀ n, FnOk P w K mg base (L2N.CX P w) (4 + n) T.f_wrong_query T.d_wrong_query ["term", "widths", "outcomes", "level"] (spOf K (c_wrong_query n))
  | 0 => fn_never fun ds μ Φ Ψ h => by obtain ⟨_, _, _, _, _, _, _, _, h, _⟩ := h; omega
  | n + 1 => step_wrong_query T (k := 4 + n) (by omega) n (okN_wrong_query T n)
theorem ok_wrong_query (T : Txt P w K mg) : FnOk P w K mg base (L2N.CX P w) 30 T.f_wrong_query T.d_wrong_query ["term", "widths", "outcomes", "level"] (spOf K (c_wrong_query 21)) := (okN_wrong_query T 21).mono (by decide)
theorem okN_places_of (T : Txt P w K mg) : ∀ n, FnOk P w K mg base (L2N.CX P w) (4 + n) T.f_places_of T.d_places_of ["term"] (spOf K (c_places_of n))
  | 0 => fn_never fun ds μ Φ Ψ h => by obtain ⟨_, _, _, _, _, h, _⟩ := h; omega
  | n + 1 => step_places_of T (k := 4 + n) (by omega) n (okN_places_of T n)
theorem ok_places_of (T : Txt P w K mg) : FnOk P w K mg base (L2N.CX P w) 30 T.f_places_of T.d_places_of ["term"] (spOf K (c_places_of 21)) := (okN_places_of T 21).mono (by decide)
end
def c_require_few : Con := fun ds μ Φ _ => ∃ (ws : List Int) (l ps : List Nat), ds = [.lst (nI l), .tup (ws.map .int)] ∧ WsOk ws ∧ l.length ≤ 300 ∧ ps.Pairwise (· < ·) ∧ ps.length ≤ 8 ∧ wpr ws ps ≤ 256 ∧ (∀ q ∈ l, q ∈ ps) ∧ Φ .non μ
theorem len_require_few {ds μ Φ Ψ} (h : c_require_few ds μ Φ Ψ) : ds.length = 2 := by obtain ⟨i, _, _, rfl, _⟩ := h; rfl
theorem ok_require_few (T : Txt P w K mg) : FnOk P w K mg base (L2N.CX P w) 3 T.f_require_few T.d_require_few ["places", "widths"] (spOf K c_require_few) := by
  refine def_okC T.F_require_few sc_require_few _ (fun ds μ Φ Ψ h => len_require_few h) (fun cdv A outer s H E B hW hr =>
    have tk : L2N.Takes (cxOf (L2N.CX P w) P w K mg base N_require_few "require_few" (defScope s_require_few) T.f_require_few cdv A outer s H E) (fun cls d _ H => E cls d H) := L2N.takes_of rfl rfl rfl rfl
    ⟨_, (pss_cons (ps_if (pt_cmpR op_gt (pe_callB call_len_seq (by rfl) T.z_len PySem.boot_len (pa_cons (pv 0) pa_nil)) (ClX.pe_cval (pe_glob (v := .ref T.c_Query) rfl T.g_Query rfl)) (nomark _)) (pss_one (L2N.ps_raise rfl tk (L2N.pmk_own PySem.F.excBase_ValueError T.x_TooLarge T.g_TooLarge T.k_TooLarge (raises_own T.e_TooLarge T.t_TooLarge) rfl))) pss_nil)
      (pss_one (ps_if (pt_cmpR op_gt (pe_call (ok_count_choices_L T) (hr.mono (by decide)) rfl T.g_count_choices T.F_count_choices.kp T.b_count_choices .nil passN (pa_cons (pe_lc (own := [("place", 2)]) rfl sc_require_few.nd (pi_list (pe_sortSet rfl T.z_sorted rfl T.z_set (pv 0))) (blkOk_by (N := N_require_few) (sc := defScope s_require_few) (by decide +kernel)) (fun _ _ _ _ _ => (pg_name (i := 2) sc_require_few.nd rfl (Or.inl rfl))) (fun _ _ _ _ _ => pts_nil) (fun _ _ _ _ _ => (pe_call (ok_width_at T) (hr.mono (by decide)) rfl T.g_width_at T.F_width_at.kp T.b_width_at .nil passN (pa_cons (pv 1) (pa_cons (pv 2) pa_nil))))) pa_nil)) (ClX.pe_cval (pe_glob (v := .ref T.c_Query) rfl T.g_Query rfl)) (nomark _)) (pss_one (L2N.ps_raise rfl tk (L2N.pmk_own PySem.F.excBase_ValueError T.x_TooLarge T.g_TooLarge T.k_TooLarge (raises_own T.e_TooLarge T.t_TooLarge) rfl))) pss_nil))),
      (sSeq (sIfS (sTest (sOp roBl0 (sCB rcLen (sCons sVar sNil)) (sCVal (n := 300) T.rd_Query T.cv_Query_MOST_LOOKS sHd))) (sRaise0W (W := fun cls d _ H => E cls d H) (C := T.c_TooLarge) (by exact hW)) sNext)
      (sIfS (sTest (sOp roBl0 (sCall (sCons (sLc (siL (sSortSet sVar)) (gwName List.mem_cons_self) (fun _ _ _ => sName) (fun _ _ _ => sYes) (fun _ _ _ => (sCall (sCons sVar (sCons sVar sNil))))) sNil)) (sCVal (n := 256) T.rd_Query T.cv_Query_MOST_CHOICES sHd))) (sRaise0W (W := fun cls d _ H => E cls d H) (C := T.c_TooLarge) (by exact hW)) sNext))⟩) (fun ds μ Φ Ψ h => ?hv)
  case hv =>
    obtain ⟨ws, l, ps, rfl, hw, hl, hp, hp8, hp2, hm, h⟩ := h
    refine seq_cut fun M hM => ?_
    walk_at "wp"
    rw [nI_len]
    refine ⟨fun z => absurd z (by omega), fun _ => ?_⟩
    rw [hM]; clear hM M
    walk_at "wp"
    refine ⟨l.map fun (n : Nat) => (n : Int), by rw [nI_ints]; exact .lst _, ⟨by rw [List.length_map]; omega, ps.map fun (n : Nat) => (n : Int), by rw [List.length_map]; omega, fun z hz => ?_⟩, fun ns hs hn => ?_⟩
    · obtain ⟨q, hq, rfl⟩ := List.mem_map.mp hz
      exact List.mem_map.mpr ⟨q, hm q hq, rfl⟩
    obtain ⟨ms, rfl⟩ : ∃ ms : List Nat, ns = ms.map fun (n : Nat) => (n : Int) := ⟨ns.map Int.toNat, by
      rw [List.map_map]
      refine (List.map_id _).symm.trans (List.map_congr_left fun k hk => ?_)
      obtain ⟨q, _, rfl⟩ := List.mem_map.mp ((hn k).mp hk)
      rfl⟩
    have hms : ms.Pairwise (· < ·) := (List.pairwise_map.mp hs).imp fun {a b} q => by omega
    have hsub : ∀ q ∈ ms, q ∈ ps := fun q hq => by
      obtain ⟨q2, hq2, e⟩ := List.mem_map.mp ((hn (q : Int)).mp (List.mem_map.mpr ⟨q, hq, rfl⟩))
      obtain rfl : q2 = q := Int.ofNat.inj e
      exact hm _ hq2
    obtain ⟨w1, w2⟩ := wpr_mono hw hms hp hsub
    refine lcZ (fun x => .int (wd ws x.toNat : Int)) (by rw [List.length_map]; omega) (fun x μ2 X hx hsub hk => ?_) ?_
    · obtain ⟨q, hq, rfl⟩ := List.mem_map.mp hx
      walk_at "wps"
      exact ⟨ws, q, rfl, hw, hk⟩
    · rw [show (ms.map fun (n : Nat) => (n : Int)).map (fun x => D.int (wd ws x.toNat : Int)) = (ms.map fun (p : Nat) => (wd ws p : Int)).map D.int from by rw [List.map_map, List.map_map]; rfl]
      refine ⟨_, rfl, fun i z hz => ?_, ?_⟩
      · rw [List.getElem?_map] at hz
        obtain ⟨q, _, rfl⟩ := Option.map_eq_some_iff.mp hz
        rw [← List.map_take, prod_wpr]
        have h1 := (wpr_mono hw (hms.sublist (List.take_sublist i ms)) hp fun q hq => hsub q (List.mem_of_mem_take hq)).1
        have h2 := hw.wd1 q
        exact mulx 10 3 (by omega) (by omega) (by decide)
      · rw [prod_wpr]
        walk_at "wp"
        refine ⟨fun z => absurd z (by omega), fun _ => ⟨_, Sub.refl, h⟩⟩
def c_fixed_term (n : Nat) : Con := fun ds μ Φ _ => ∃ (ws : List Int) (oc m o : Nat) (t : QT), ds = [qD t, .int (m : Int), .int (o : Int)] ∧ QOk ws oc t ∧ WsOk ws ∧ o < wd ws m ∧ qDep t < n ∧ Φ (qD (qFx m o t)) μ
theorem len_fixed_term {n ds μ Φ Ψ} (h : c_fixed_term n ds μ Φ Ψ) : ds.length = 3 := by obtain ⟨i, _, _, _, _, rfl, _⟩ := h; rfl
theorem step_fixed_term (T : Txt P w K mg) {k : Nat} (hk : 4 ≤ k) (n : Nat) (ih_fixed_term : FnOk P w K mg base (L2N.CX P w) k T.f_fixed_term T.d_fixed_term ["term", "place", "option"] (spOf K (c_fixed_term n))) : FnOk P w K mg base (L2N.CX P w) (k + 1) T.f_fixed_term T.d_fixed_term ["term", "place", "option"] (spOf K (c_fixed_term (n + 1))) := by
  refine def_okC T.F_fixed_term sc_fixed_term _ (fun ds μ Φ Ψ h => len_fixed_term h) (fun cdv A outer s H E B hW hr =>
    have tk : L2N.Takes (cxOf (L2N.CX P w) P w K mg base N_fixed_term "fixed_term" (defScope s_fixed_term) T.f_fixed_term cdv A outer s H E) (fun cls d _ H => E cls d H) := L2N.takes_of rfl rfl rfl rfl
    ⟨_, (pss_cons (ps_if (pt_cmpR op_eq (pe_ix ix_tup (pv 0) pe_int (fun _ _ => rfl)) pe_str (nomark _)) (pss_one (ps_ret (pv 0))) pss_nil)
      (pss_cons (ps_if (pt_cmpR op_eq (pe_ix ix_tup (pv 0) pe_int (fun _ _ => rfl)) (pv 1) (nomark _)) (pss_one (ps_ret (pe_call ih_fixed_term hr rfl T.g_fixed_term T.F_fixed_term.kp T.b_fixed_term .nil passN (pa_cons (pe_ix ix_tup (pv 0) (pe_op op_add (pe_glob (v := .int 2) rfl T.g_ITEMS_BEFORE.choose_spec ⟨_, rfl⟩) (pv 2)) (fun _ _ => rfl)) (pa_cons (pv 1) (pa_cons (pv 2) pa_nil)))))) pss_nil)
      (pss_one (ps_ret (pe_op op_catN (pe_slice sl_tupN (pv 0) po_none (po_some (pe_glob (v := .int 2) rfl T.g_ITEMS_BEFORE.choose_spec ⟨_, rfl⟩))) (pe_callTy call_tupleN (by rfl) T.z_tuple (by decide +kernel) (pa_cons (pe_lc (own := [("below", 3)]) rfl sc_fixed_term.nd (pi_tup (pe_call (ok_terms_behind T) (hr.mono (by omega)) rfl T.g_terms_behind T.F_terms_behind.kp T.b_terms_behind .nil passN (pa_cons (pv 0) pa_nil))) (blkOk_by (N := N_fixed_term) (sc := defScope s_fixed_term) (by decide +kernel)) (fun _ _ _ _ _ => (pg_name (i := 3) sc_fixed_term.nd rfl (Or.inl rfl))) (fun _ _ _ _ _ => pts_nil) (fun _ _ _ _ _ => (pe_call ih_fixed_term hr rfl T.g_fixed_term T.F_fixed_term.kp T.b_fixed_term .nil passN (pa_cons (pv 3) (pa_cons (pv 1) (pa_cons (pv 2) pa_nil)))))) pa_nil))))))),
      (sSeq (sIfS (sTest (sOp roEq (sOp roIxT sVar sInt) sStr)) (sRet sVar) sNext)
      (sSeq (sIfS (sTest (sOp roEq (sOp roIxT sVar sInt) sVar)) (sRet (sCall (sCons (sOp roIxT sVar (sOp roInt0 sInt sVar)) (sCons sVar (sCons sVar sNil))))) sNext)
      (sRet (sOp roCatT (sSlT sVar sNoPart (sPart sInt)) (sCB rcTuple (sCons (sLc (siT (sCall (sCons sVar sNil))) (gwName List.mem_cons_self) (fun _ _ _ => sName) (fun _ _ _ => sYes) (fun _ _ _ => (sCall (sCons sVar (sCons sVar (sCons sVar sNil)))))) sNil))))))⟩) (fun ds μ Φ Ψ h => ?hv)
  case hv =>
    obtain ⟨ws, oc, m, o, t, rfl, ht, hw, ho, hn, h⟩ := h
    cases t with
    | tell x =>
      rw [qD]
      refine seq_cut fun M hM => ?_
      walk_at "wp"
      exact ⟨ret_same h, fun z => absurd trivial z⟩
    | look p ts =>
      obtain ⟨hp, hlen, hts⟩ := ht
      rw [qoks_iff] at hts
      rw [qDep] at hn
      have hw1 := hw.wd1 p
      have e1 : (qDs ts).length = ts.length := qDs_len ts
      rw [qD]
      refine seq_cut fun M hM => ?_
      walk_at "wp"
      refine ⟨fun q => absurd q (by decide), fun _ => ?_⟩
      rw [hM]; clear hM M
      refine seq_cut fun M hM => ?_
      walk_at "wp"
      refine ⟨fun q => ?_, fun q => ?_⟩
      · obtain rfl : p = m := Int.ofNat.inj q
        have hlt : o < ts.length := by omega
        have ei : (2 : Int) + (o : Int) = ((o + 1 + 1 : Nat) : Int) := by omega
        have hd := qdeps_le (List.getElem_mem hlt)
        rw [qFx_at (List.getElem?_eq_getElem hlt)] at h
        refine ⟨qD ts[o], ?_, ws, oc, p, o, ts[o], rfl, hts _ (List.getElem_mem hlt), hw, ho, by omega, ret_same h⟩
        rw [ei]
        exact atI_nat (by rw [List.getElem?_cons_succ, List.getElem?_cons_succ, qDs_map, List.getElem?_map, List.getElem?_eq_getElem hlt]; rfl)
      · have hne : p ≠ m := fun z => q (by rw [z])
        rw [qFx_ne hne] at h
        rw [hM]; clear hM M
        walk_at "wps"
        refine ⟨_, rfl, _, rfl, ?_⟩
        rw [List.drop_succ_cons, List.drop_succ_cons, List.drop_zero]
        refine lcG_mapN (fun i => qD (qFx m o (ts.getD i (.tell 0)))) (by rw [e1]; omega) (fun i d μ2 X hi hsub hx => ?_) ?_
        · obtain ⟨hil, rfl⟩ := qDs_get hi
          have hd := qdeps_le (List.getElem_mem hil)
          rw [List.getD_eq_getElem?_getD, List.getElem?_eq_getElem hil] at hx
          walk_at "wps"
          exact ⟨ws, oc, m, o, ts[i], rfl, hts _ (List.getElem_mem hil), hw, ho, by omega, hx⟩
        · have ec : DW.cutD (D.str "look" :: D.int (p : Int) :: qDs ts) none (some 2) = [D.str "look", D.int (p : Int)] := by rw [show (2 : Int) = ((2 : Nat) : Int) from rfl, cut_to]; rfl
          rw [e1, ec, rangeQ (fun t => qD (qFx m o t)) ts]
          refine ⟨_, .lst _, by rw [List.length_map]; show 2 + _ ≤ _; omega, ret_same ?_⟩
          rw [qD, qDs_map, List.map_map] at h
          exact h
def c_Query___init__ (C : Addr) : Con := fun ds μ Φ _ => ∃ (x : Addr) (ws : List Int) (oc : Nat) (ps : List Nat) (t : QT), ds = [.hd (.ref x), qD t, .tup (ws.map .int), .int (oc : Int)] ∧ μ x = some (.ins C [] []) ∧ QFit ws oc ps t ∧ Φ .non (sset μ x (.ins C NS_Query [qD t, .tup (ws.map .int), .int (oc : Int)]))
theorem len_Query___init__ {C ds μ Φ Ψ} (h : c_Query___init__ C ds μ Φ Ψ) : ds.length = 4 := by obtain ⟨_, _, _, _, _, rfl, _⟩ := h; rfl
theorem ok_Query___init__ (T : Txt P w K mg) : FnOk P w K mg base (L2N.CX P w) 32 T.f_Query___init__ T.d_Query___init__ ["self", "term", "widths", "outcomes"] (spOf K (c_Query___init__ T.c_Query)) := by
  refine def_okC T.F_Query___init__ sc_Query___init__ _ (fun ds μ Φ Ψ h => len_Query___init__ h) (fun cdv A outer s H E B hW hr =>
    have tk : L2N.Takes (cxOf (L2N.CX P w) P w K mg base N_Query___init__ "Query.__init__" (defScope s_Query___init__) T.f_Query___init__ cdv A outer s H E) (fun cls d _ H => E cls d H) := L2N.takes_of rfl rfl rfl rfl
    ⟨_, (pss_cons (ps_expr (pe_callS (ok_require_form T) (hr.mono (by decide)) rfl T.g_require_form T.F_require_form.kp T.b_require_form (fun σ => L2N.passAt tk σ) (pa_cons (pv 2) (pa_cons (pv 3) pa_nil))))
      (pss_cons (ps_set (i := 4) sc_Query___init__.nd rfl (Or.inl rfl) (pe_call (ok_wrong_query T) (hr.mono (by decide)) rfl T.g_wrong_query T.F_wrong_query.kp T.b_wrong_query .nil passN (pa_cons (pv 1) (pa_cons (pv 2) (pa_cons (pv 3) (pa_cons pe_int pa_nil))))))
      (pss_cons (ps_if (pt_cmpR op_notN (pv 4) pe_non (nomark _)) (pss_one (L2N.ps_raise rfl tk (pmk_sup T.ox_InvalidQuery T.ic_InvalidQuery T.ti_InvalidQuery T.no_InvalidQuery T.in_InvalidQuery (hr.mono (by decide)) T.bi_InvalidQuery passN rfl T.g_InvalidQuery (pa_cons (pv 4) pa_nil)))) pss_nil)
      (pss_cons (ps_expr (pe_callS (ok_require_few T) (hr.mono (by decide)) rfl T.g_require_few T.F_require_few.kp T.b_require_few (fun σ => L2N.passAt tk σ) (pa_cons (pe_call (ok_places_of T) (hr.mono (by decide)) rfl T.g_places_of T.F_places_of.kp T.b_places_of .nil passN (pa_cons (pv 1) pa_nil)) (pa_cons (pv 2) pa_nil))))
      (pss_cons (ps_fld (pv 0) (pv 1) rfl)
      (pss_cons (ps_fld (pv 0) (pv 2) rfl)
      (pss_one (ps_fld (pv 0) (pv 3) rfl)))))))),
      (sSeq (sDrop (sCallSW (W := fun cls d _ H => E cls d H) (by exact hW) (sCons sVar (sCons sVar sNil))))
      (sSeq (sAsg (sCall (sCons sVar (sCons sVar (sCons sVar (sCons sInt sNil))))) sName)
      (sSeq (sIfS (sTest (sOp roNotN sVar sNon)) (sRaise1 (W := fun cls d _ H => E cls d H) (C := T.c_InvalidQuery) (fld := "path") (by exact hW) okdPath_ok sVar) sNext)
      (sSeq (sDrop (sCallSW (W := fun cls d _ H => E cls d H) (by exact hW) (sCons (sCall (sCons sVar sNil)) (sCons sVar sNil))))
      (sSeq (sSetF T.cls_Query T.na_Query_term sVar sVar)
      (sSeq (sSetF T.cls_Query T.na_Query_widths sVar sVar)
      (sSetF T.cls_Query T.na_Query_outcomes sVar sVar)))))))⟩) (fun ds μ Φ Ψ h => ?hv)
  case hv =>
    obtain ⟨x, ws, oc, ps, t, rfl, hx, hq, h⟩ := h
    refine seq_cut fun M hM => ?_
    walk_at "wp"
    refine ⟨ws, oc, rfl, hq.w, hq.o1, hq.o4, ?_⟩
    rw [hM]; clear hM M
    refine seq_cut fun M hM => ?_
    walk_at "wp"
    refine ⟨ws, oc, 0, t, rfl, hq.w, hq.ok, by have := hq.dep; omega, by have := hq.dep; omega, ?_⟩
    walk_at "wp"
    rw [hM]; clear hM M
    refine seq_cut fun M hM => ?_
    walk_at "wp"
    rw [hM]; clear hM M
    refine seq_cut fun M hM => ?_
    walk_at "wp"
    refine ⟨ws, oc, t, rfl, hq.ok, by have := hq.dep; omega, by have := hq.looks; omega, ws, qPl t, ps, rfl, hq.w, hq.looks, hq.sorted, hq.most, hq.few, hq.pl, ?_⟩
    rw [hM]; clear hM M
    walk_at "wps"
    refine ⟨_, _, _, rfl, hx, by decide, by decide, _, _, _, rfl, sset_same, by decide, by decide, _, _, _, rfl, sset_same, by decide, by decide, ?_⟩
    walk_at "wps"
    exact ret_same h
def c_choice_at (C : Addr) : Con := fun ds μ Φ Ψ => ∃ ws i, ds = [.tup (ws.map .int), .int i] ∧ WC ws ∧ (0 ≤ i ∧ i < prodI ws → Φ (.tup ((choA ws i).map .int)) μ) ∧ (¬ (0 ≤ i ∧ i < prodI ws) → Ψ (.mk C none) μ)
theorem len_choice_at {C ds μ Φ Ψ} (h : c_choice_at C ds μ Φ Ψ) : ds.length = 2 := by obtain ⟨_, _, rfl, _⟩ := h; rfl
theorem w_count_choices_TC {ws μ Φ Ψ} (h : WC ws) : (c_count_choices_T [.tup (ws.map .int)] μ Φ Ψ) = Φ (.int (prodI ws)) μ := propext ⟨fun ⟨us, e, _, q⟩ => by
  injection e with e _
  injection e with e
  have : ws = us := (List.map_inj_right (fun _ _ z => by cases z; rfl)).mp e
  rw [this]; exact q, fun q => ⟨ws, rfl, fun i z e => h.mul e, q⟩⟩
theorem ok_choice_at (T : Txt P w K mg) : FnOk P w K mg base (L2N.CX P w) 2 T.f_choice_at T.d_choice_at ["widths", "index"] (spOf K (c_choice_at T.c_OutOfRange)) := by
  refine def_okC T.F_choice_at sc_choice_at _ (fun ds μ Φ Ψ h => len_choice_at h) (fun cdv A outer s H E B hW hr =>
    have tk : L2N.Takes (cxOf (L2N.CX P w) P w K mg base N_choice_at "choice_at" (defScope s_choice_at) T.f_choice_at cdv A outer s H E) (fun cls d _ H => E cls d H) := L2N.takes_of rfl rfl rfl rfl
    ⟨_, (pss_cons (ps_if (pt_not (pt_chain op_le op_lt pe_int (pv 1) (pe_call (ok_count_choices_T T) hr rfl T.g_count_choices T.F_count_choices.kp T.b_count_choices .nil passN (pa_cons (pv 0) pa_nil)))) (pss_one (L2N.ps_raise rfl tk (L2N.pmk_own PySem.F.excBase_ValueError T.x_OutOfRange T.g_OutOfRange T.k_OutOfRange (raises_own T.e_OutOfRange T.t_OutOfRange) rfl))) pss_nil)
      (pss_cons (ps_set (i := 2) sc_choice_at.nd rfl (Or.inl rfl) (pe_lst pa_nil))
      (pss_cons (ps_set (i := 3) sc_choice_at.nd rfl (Or.inl rfl) (pv 1))
      (pss_cons (ps_for (passes_of rfl) rfl (pi_tup (pe_revT (pv 0))) (pg_name (i := 4) sc_choice_at.nd rfl (Or.inl rfl)) (pss_cons (ps_asg (pe_callB call_divmodW (by rfl) T.z_divmod (by decide +kernel) (pa_cons (pv 3) (pa_cons (pv 4) pa_nil))) (pg_tup (n := 2) rfl (pgs_cons (pg_name (i := 3) sc_choice_at.nd rfl (Or.inl rfl)) (pgs_cons (pg_name (i := 5) sc_choice_at.nd rfl (Or.inl rfl)) pgs_nil))))
      (pss_one (ps_expr (pe_bm PySem.F.plainAttrs_list PySem.F.slot_list_append PySem.F.type_list_append mt_append (pv 2) (pa_cons (pv 5) pa_nil))))))
      (pss_one (ps_ret (pe_callTy call_tupleN (by rfl) T.z_tuple (by decide +kernel) (pa_cons (pe_revL (pv 2)) pa_nil)))))))),
      (sSeq (sIfS (sNot (sTest (sChain roBl0 roBl0 sInt sVar (sCall (sCons sVar sNil))))) (sRaise0W (W := fun cls d _ H => E cls d H) (C := T.c_OutOfRange) (by exact hW)) sNext)
      (sSeq (sAsg (sOwn sNil) sName)
      (sSeq (sAsg sVar sName)
      (sSeq (sFor (siT (sRevT sVar)) (fun _ _ _ => sName) (fun _ _ _ => (sSeq (sAsg (sCB rcDivmod (sCons sVar (sCons sVar sNil))) (sgTup (sgCons sName (sgCons sName sgNil))))
      (sDrop (sApp sVar sVar)))))
      (sRet (sCB rcTuple (sCons (sRevL sVar) sNil)))))))⟩) (fun ds μ Φ Ψ h => ?hv)
  case hv =>
    obtain ⟨ws, n, rfl, hb, h1, h2⟩ := h
    walk_at "wps"
    simp only [w_count_choices_TC hb]
    walk_at "wps"
    refine ⟨fun c1 => ⟨fun c2 => ?_, fun c2 => ⟨by decide, fun p hp => ?_⟩⟩, fun c1 => ?_⟩
    · exact ⟨_, Sub.refl, h2 (by simp at c2; omega)⟩
    · have hin : 0 ≤ n ∧ n < prodI ws := by simp at c2; exact ⟨c1, c2⟩
      have hpos := pos_of_prod hb.lo (by omega)
      refine ⟨fun i δ' μ' => μ' = sset μ p (.lst ((entR (ws.reverse.take i) n).map .int)) ∧ ∃ x y, δ' = [some (.tup (ws.map .int)), some (.int n), some (.hd (.ref p)), some (.int (restR (ws.reverse.take i) n)), x, y], ⟨rfl, none, none, rfl⟩, ?_, ?_⟩
      · rintro i d δ' μ' hi ⟨rfl, x, y, rfl⟩
        rw [← List.map_reverse] at hi
        obtain ⟨z, hz, rfl⟩ := mapI_get hi
        have hzm : z ∈ ws := List.mem_reverse.mp (List.mem_of_getElem? hz)
        have b1 := hb.hi z hzm
        have b2 := hpos z hzm
        have b3 : (entR (ws.reverse.take i) n).length ≤ 1000 := by rw [entR_len, List.length_take, List.length_reverse]; have := hb.len; omega
        walk_at "wps"
        rw [take_snoc hz, entR_snoc, restR_snoc]
        refine ⟨divp_small b2 (by omega), by omega, ?_, _, _, rfl⟩
        rw [List.map_append]; rfl
      · rintro δ' μ' ⟨rfl, x, y, rfl⟩
        rw [List.length_reverse, List.length_map, ← List.length_reverse (as := ws), List.take_length]
        walk_at "wps"
        exact ⟨μ, Sub.set Sub.refl hp, by rw [← List.map_reverse]; exact h1 hin⟩
    · exact ⟨_, Sub.refl, h2 (by omega)⟩
def c_choice_index (C : Addr) : Con := fun ds μ Φ Ψ => ∃ ws cs, ds = [.tup (ws.map .int), .tup (cs.map .int)] ∧ WC ws ∧ (∀ v, cs.length = ws.length → idxU 0 ws cs = some v → Φ (.int v) μ) ∧ (cs.length ≠ ws.length ∨ idxU 0 ws cs = none → Ψ (.mk C none) μ)
theorem len_choice_index {C ds μ Φ Ψ} (h : c_choice_index C ds μ Φ Ψ) : ds.length = 2 := by obtain ⟨_, _, rfl, _⟩ := h; rfl
theorem ok_choice_index (T : Txt P w K mg) : FnOk P w K mg base (L2N.CX P w) 3 T.f_choice_index T.d_choice_index ["widths", "choice"] (spOf K (c_choice_index T.c_OutOfRange)) := by
  refine def_okC T.F_choice_index sc_choice_index _ (fun ds μ Φ Ψ h => len_choice_index h) (fun cdv A outer s H E B hW hr =>
    have tk : L2N.Takes (cxOf (L2N.CX P w) P w K mg base N_choice_index "choice_index" (defScope s_choice_index) T.f_choice_index cdv A outer s H E) (fun cls d _ H => E cls d H) := L2N.takes_of rfl rfl rfl rfl
    ⟨_, (pss_cons (ps_if (pt_cmpR op_ne (pe_callB call_len_seq (by rfl) T.z_len PySem.boot_len (pa_cons (pv 1) pa_nil)) (pe_callB call_len_seq (by rfl) T.z_len PySem.boot_len (pa_cons (pv 0) pa_nil)) (nomark _)) (pss_one (L2N.ps_raise rfl tk (L2N.pmk_own PySem.F.excBase_ValueError T.x_OutOfRange T.g_OutOfRange T.k_OutOfRange (raises_own T.e_OutOfRange T.t_OutOfRange) rfl))) pss_nil)
      (pss_cons (ps_set (i := 2) sc_choice_index.nd rfl (Or.inl rfl) pe_int)
      (pss_cons (ps_for (passes_of rfl) rfl (RZ.pi_zipA (by rfl) T.z_zip (pa_cons (pv 0) (pa_cons (pv 1) pa_nil))) (pg_tup (n := 2) rfl (pgs_cons (pg_name (i := 3) sc_choice_index.nd rfl (Or.inl rfl)) (pgs_cons (pg_name (i := 4) sc_choice_index.nd rfl (Or.inl rfl)) pgs_nil))) (pss_cons (ps_if (pt_not (pt_val (pe_call (ok_is_below T) hr rfl T.g_is_below T.F_is_below.kp T.b_is_below .nil passN (pa_cons (pv 4) (pa_cons (pv 3) pa_nil))))) (pss_one (L2N.ps_raise rfl tk (L2N.pmk_own PySem.F.excBase_ValueError T.x_OutOfRange T.g_OutOfRange T.k_OutOfRange (raises_own T.e_OutOfRange T.t_OutOfRange) rfl))) pss_nil)
      (pss_one (ps_set (i := 2) sc_choice_index.nd rfl (Or.inl rfl) (pe_op op_add (pe_op op_mulX (pv 2) (pv 3)) (pv 4))))))
      (pss_one (ps_ret (pv 2)))))),
      (sSeq (sIfS (sTest (sOp roNe (sCB rcLen (sCons sVar sNil)) (sCB rcLen (sCons sVar sNil)))) (sRaise0W (W := fun cls d _ H => E cls d H) (C := T.c_OutOfRange) (by exact hW)) sNext)
      (sSeq (sAsg sInt sName)
      (sSeq (sFor (siZipT sVar sVar) (fun _ _ _ => (sgTup (sgCons sName (sgCons sName sgNil)))) (fun _ _ _ => (sSeq (sIfS (sNot (sB (sCall (sCons sVar (sCons sVar sNil))))) (sRaise0W (W := fun cls d _ H => E cls d H) (C := T.c_OutOfRange) (by exact hW)) sNext)
      (sAsg (sOp roInt0 (sOp roInt sVar sVar) sVar) sName))))
      (sRet sVar))))⟩) (fun ds μ Φ Ψ h => ?hv)
  case hv =>
    obtain ⟨ws, cs, rfl, hb, h1, h2⟩ := h
    walk_at "wps"
    refine ⟨fun c1 => ⟨_, Sub.refl, h2 (.inl (by intro z; rw [z] at c1; simp at c1))⟩, fun c1 => ?_⟩
    have hlen : cs.length = ws.length := by simp at c1; omega
    refine ⟨fun i δ' μ' => μ' = μ ∧ ∃ a x y, δ' = [some (.tup (ws.map .int)), some (.tup (cs.map .int)), some (.int a), x, y] ∧ idxU 0 ws cs = idxU a (ws.drop i) (cs.drop i) ∧ 0 ≤ a ∧ a < prodI (ws.take i), ⟨rfl, 0, none, none, rfl, rfl, Int.le_refl 0, (by decide : (0 : Int) < 1)⟩, ?_, ?_⟩
    · rintro i d δ' μ' hi ⟨rfl, a, x, y, rfl, e, h3, h4⟩
      rw [List.getElem?_map, Option.map_eq_some_iff] at hi
      obtain ⟨⟨d1, d2⟩, hi, rfl⟩ := hi
      obtain ⟨g1, g2⟩ := List.getElem?_zip_eq_some.mp hi
      obtain ⟨wi, hw, rfl⟩ := mapI_get g1
      obtain ⟨ci, hc, rfl⟩ := mapI_get g2
      have b0 := hb.lo wi (List.mem_of_getElem? hw)
      have b1 := hb.hi wi (List.mem_of_getElem? hw)
      have b2 := hb.pr i
      have el : idxU 0 ws cs = if 0 ≤ ci ∧ ci < wi then idxU (a * wi + ci) (ws.drop (i + 1)) (cs.drop (i + 1)) else none := by
        have l1 := (List.getElem?_eq_some_iff.mp hw)
        have l2 := (List.getElem?_eq_some_iff.mp hc)
        obtain ⟨l1, r1⟩ := l1
        obtain ⟨l2, r2⟩ := l2
        rw [e, List.drop_eq_getElem_cons l1, List.drop_eq_getElem_cons l2, r1, r2]
        rfl
      walk_at "wps"
      simp only [w_is_below]
      walk_at "wps"
      refine ⟨fun c2 => ⟨_, Sub.refl, h2 (.inr ?_)⟩, fun c2 => ?_⟩
      · rw [el, if_neg (by intro z; simp [z] at c2)]
      · have c3 : 0 ≤ ci ∧ ci < wi := by simp at c2; exact c2
        rw [if_pos c3] at el
        refine ⟨mulx 900 100 (by omega) (by omega) (by decide), _, _, _, rfl, el, ?_, ?_⟩
        · have := Int.mul_nonneg h3 b0; omega
        · rw [LW.prod_snoc hw]
          have q : (a + 1) * wi ≤ prodI (ws.take i) * wi := Int.mul_le_mul_of_nonneg_right (by omega) b0
          rw [Int.add_mul, Int.one_mul] at q
          omega
    · rintro δ' μ' ⟨rfl, a, x, y, rfl, e, h3, h4⟩
      have ez : ((ws.map D.int).zip (cs.map D.int)).length = ws.length := by rw [List.length_zip, List.length_map, List.length_map, hlen]; simp
      rw [ez, List.drop_length, ← hlen, List.drop_length] at e
      walk_at "wps"
      exact ret_same (h1 a hlen e)
end
section
variable {P : Program} {w : World} {K : Fg} {mg : Str → Option Value} {base : Heap}
theorem nI_at {ss : List Nat} {i : Nat} (h : i < ss.length) : atI (nI ss) (i : Int) = some (.int ((ss[i] : Nat) : Int)) := by
  rw [atI_nat]
  unfold nI
  rw [List.getElem?_map, List.getElem?_eq_getElem h]; rfl
theorem nI_sum (l : List Nat) : (l.map fun (n : Nat) => (n : Int)).sum = ((l.sum : Nat) : Int) := by
  induction l with
  | nil => rfl
  | cons a l ih => rw [List.map_cons, List.sum_cons, List.sum_cons, ih, Int.natCast_add]
theorem spl_at : ∀ {ss : List Nat} {i r : Nat}, (∀ s, ss[i]? = some s → r < s) → i < ss.length → spl ss ((ss.take i).sum + r) = (i, r)
  | [], i, r, _, h => by simp at h
  | s :: ss, 0, r, h, _ => by
    have := h s rfl
    simp [spl, this]
  | s :: ss, i + 1, r, h, hl => by
    have e : ((s :: ss).take (i + 1)).sum + r = s + ((ss.take i).sum + r) := by rw [List.take_succ_cons, List.sum_cons, Nat.add_assoc]
    have ih := spl_at (ss := ss) (i := i) (r := r) (fun t ht => h t ht) (by simpa using hl)
    rw [e]
    show (if s + ((ss.take i).sum + r) < s then _ else _) = _
    rw [if_neg (by omega), Nat.add_sub_cancel_left, ih]
def pairD (p : Nat × Nat) : D := .tup [.int (p.1 : Int), .int (p.2 : Int)]
def c_split_option (O : Addr) : Con := fun ds μ Φ Ψ => ∃ (ss : List Nat) (j : Nat), ds = [.lst (nI ss), .int (j : Int)] ∧ ss.length ≤ 1000 ∧ j < ss.sum ∧ Φ (pairD (spl ss j)) μ
theorem len_split_option {O ds μ Φ Ψ} (h : c_split_option O ds μ Φ Ψ) : ds.length = 2 := by obtain ⟨_, _, rfl, _⟩ := h; rfl
theorem ok_split_option (T : Txt P w K mg) : FnOk P w K mg base (L2N.CX P w) 3 T.f_split_option T.d_split_option ["sizes", "option"] (spOf K (c_split_option T.c_OutOfRange)) := by
  refine def_okC T.F_split_option sc_split_option _ (fun ds μ Φ Ψ h => len_split_option h) (fun cdv A outer s H E B hW hr =>
    have tk : L2N.Takes (cxOf (L2N.CX P w) P w K mg base N_split_option "split_option" (defScope s_split_option) T.f_split_option cdv A outer s H E) (fun cls d _ H => E cls d H) := L2N.takes_of rfl rfl rfl rfl
    ⟨_, (pss_cons (ps_if (pt_not (pt_val (pe_call (ok_is_below T) hr rfl T.g_is_below T.F_is_below.kp T.b_is_below .nil passN (pa_cons (pv 1) (pa_cons (pe_callB (cr_sum rfl) (by rfl) T.z_sum (by decide +kernel) (pa_cons (pv 0) pa_nil)) pa_nil))))) (pss_one (L2N.ps_raise rfl tk (L2N.pmk_own PySem.F.excBase_ValueError T.x_OutOfRange T.g_OutOfRange T.k_OutOfRange (raises_own T.e_OutOfRange T.t_OutOfRange) rfl))) pss_nil)
      (pss_cons (ps_set (i := 2) sc_split_option.nd rfl (Or.inl rfl) pe_int)
      (pss_cons (ps_set (i := 3) sc_split_option.nd rfl (Or.inl rfl) (pv 1))
      (pss_cons (ps_while (passes_of rfl) (pt_cmpR op_ge (pv 3) (pe_ix ix_list (pv 0) (pv 2) (fun _ _ => rfl)) (nomark _)) (pss_cons (ps_set (i := 3) sc_split_option.nd rfl (Or.inl rfl) (pe_op op_sub (pv 3) (pe_ix ix_list (pv 0) (pv 2) (fun _ _ => rfl))))
      (pss_one (ps_aug (i := 2) sc_split_option.nd rfl (Or.inl rfl) pe_int ip_add))))
      (pss_one (ps_ret (pe_tupN (pa_cons (pv 2) (pa_cons (pv 3) pa_nil))))))))),
      (sSeq (sIfS (sNot (sB (sCall (sCons sVar (sCons (sCB rcSum (sCons sVar sNil)) sNil))))) (sRaise0W (W := fun cls d _ H => E cls d H) (C := T.c_OutOfRange) (by exact hW)) sNext)
      (sSeq (sAsg sInt sName)
      (sSeq (sAsg sVar sName)
      (sSeq (sWhile (sTest (sOp roBl0 sVar (sOp roIxL sVar sVar))) (sSeq (sAsg (sOp roInt0 sVar (sOp roIxL sVar sVar)) sName)
      (sAug roIp sInt)))
      (sRet (sTup (sCons sVar (sCons sVar sNil))))))))⟩) (fun ds μ Φ Ψ h => ?hv)
  case hv =>
    obtain ⟨ss, j, rfl, hl, hj, h2⟩ := h
    refine seq_cut fun M hM => ?_
    walk_at "wp"
    rw [nI_ints]
    refine w_sumL ?_
    rw [nI_sum, ← nI_ints]
    rw [w_is_below]
    rw [decide_eq_true (show 0 ≤ (j : Int) ∧ (j : Int) < ((ss.sum : Nat) : Int) by omega)]
    walk_at "wp"
    rw [hM]; clear hM M
    refine seq_cut fun M hM => ?_
    walk_at "wp"
    rw [hM]; clear hM M
    refine seq_cut fun M hM => ?_
    walk_at "wp"
    rw [hM]; clear hM M
    refine seq_cut fun M hM => ?_
    walk_at "wp"
    refine ⟨fun m δ' μ' => μ' = μ ∧ ∃ i r : Nat, δ' = [some (.lst (nI ss)), some (.int j), some (.int i), some (.int r)] ∧ i < ss.length ∧ (ss.take i).sum + r = j ∧ m + i = ss.length, ⟨ss.length, rfl, 0, j, rfl, ?_, by simp, rfl⟩, ?_⟩
    · cases ss with
      | nil => simp at hj
      | cons => simp
    · rintro m δ' μ' ⟨rfl, i, r, rfl, hi, hr, hm⟩
      have hs : ss[i]? = some ss[i] := List.getElem?_eq_getElem hi
      have hat : atI (nI ss) (i : Int) = some (.int ((ss[i] : Nat) : Int)) := nI_at hi
      walk_at "wp"
      refine ⟨_, hat, ?_⟩
      walk_at "wp"
      refine ⟨fun q => ?_, fun q => ?_⟩
      · have hge : ss[i] ≤ r := by simpa using q
        have hnx : (ss.take (i + 1)).sum = (ss.take i).sum + ss[i] := by rw [List.take_add_one, hs, Option.toList_some, List.sum_append, List.sum_singleton]
        have hi1 : i + 1 < ss.length := by
          rcases Nat.lt_or_ge (i + 1) ss.length with h | h
          · exact h
          · rw [List.take_of_length_le h] at hnx; omega
        walk_at "wps"
        refine ⟨_, hat, ?_⟩
        walk_at "wps"
        exact ⟨m - 1, by omega, i + 1, r - ss[i], by rw [Int.ofNat_sub hge]; rfl, hi1, by omega, by omega⟩
      · rw [hM]; clear hM M
        walk_at "wps"
        have hlt : r < ss[i] := by simpa using q
        rw [← hr, spl_at (fun s h => by rw [hs] at h; cases h; exact hlt) hi] at h2
        exact ⟨by decide, ret_same h2⟩
def c_join_option (O : Addr) : Con := fun ds μ Φ Ψ => ∃ (ss : List Nat) (i j s : Nat), ds = [.lst (nI ss), .tup [.int (i : Int), .int (j : Int)]] ∧ ss.length ≤ 1000 ∧ ss[i]? = some s ∧ j < s ∧ Φ (.int (((ss.take i).sum + j : Nat) : Int)) μ
theorem len_join_option {O ds μ Φ Ψ} (h : c_join_option O ds μ Φ Ψ) : ds.length = 2 := by obtain ⟨_, _, _, _, rfl, _⟩ := h; rfl
theorem ok_join_option (T : Txt P w K mg) : FnOk P w K mg base (L2N.CX P w) 3 T.f_join_option T.d_join_option ["sizes", "pair"] (spOf K (c_join_option T.c_OutOfRange)) := by
  refine def_okC T.F_join_option sc_join_option _ (fun ds μ Φ Ψ h => len_join_option h) (fun cdv A outer s H E B hW hr =>
    have tk : L2N.Takes (cxOf (L2N.CX P w) P w K mg base N_join_option "join_option" (defScope s_join_option) T.f_join_option cdv A outer s H E) (fun cls d _ H => E cls d H) := L2N.takes_of rfl rfl rfl rfl
    ⟨_, (pss_cons (ps_asg (pv 1) (pg_tup (n := 2) rfl (pgs_cons (pg_name (i := 2) sc_join_option.nd rfl (Or.inl rfl)) (pgs_cons (pg_name (i := 3) sc_join_option.nd rfl (Or.inl rfl)) pgs_nil))))
      (pss_cons (ps_if (PW.pt (pw_or (pt_not (pt_val (pe_call (ok_is_below T) hr rfl T.g_is_below T.F_is_below.kp T.b_is_below .nil passN (pa_cons (pv 2) (pa_cons (pe_callB call_len_seq (by rfl) T.z_len PySem.boot_len (pa_cons (pv 0) pa_nil)) pa_nil))))) (pw_or1 (pt_not (pt_val (pe_call (ok_is_below T) hr rfl T.g_is_below T.F_is_below.kp T.b_is_below .nil passN (pa_cons (pv 3) (pa_cons (pe_ix ix_list (pv 0) (pv 2) (fun _ _ => rfl)) pa_nil)))))))) (pss_one (L2N.ps_raise rfl tk (L2N.pmk_own PySem.F.excBase_ValueError T.x_OutOfRange T.g_OutOfRange T.k_OutOfRange (raises_own T.e_OutOfRange T.t_OutOfRange) rfl))) pss_nil)
      (pss_one (ps_ret (pe_op op_add (pe_callB (cr_sum rfl) (by rfl) T.z_sum (by decide +kernel) (pa_cons (pe_slice sl_list (pv 0) po_none (po_some (pv 2))) pa_nil)) (pv 3)))))),
      (sSeq (sAsg sVar (sgTup (sgCons sName (sgCons sName sgNil))))
      (sSeq (sIfS (sOr (sNot (sB (sCall (sCons sVar (sCons (sCB rcLen (sCons sVar sNil)) sNil))))) (sNot (sB (sCall (sCons sVar (sCons (sOp roIxL sVar sVar) sNil)))))) (sRaise0W (W := fun cls d _ H => E cls d H) (C := T.c_OutOfRange) (by exact hW)) sNext)
      (sRet (sOp roInt0 (sCB rcSum (sCons (sSlL sVar sNoPart (sPart sVar)) sNil)) sVar))))⟩) (fun ds μ Φ Ψ h => ?hv)
  case hv =>
    obtain ⟨ss, i, j, s, rfl, hl, hs, hj, h2⟩ := h
    refine seq_cut fun M hM => ?_
    walk_at "wp"
    rw [hM]; clear hM M
    refine seq_cut fun M hM => ?_
    walk_at "wp"
    simp only [w_is_below]
    have hi := (List.getElem?_eq_some_iff.mp hs).1
    have e2 := (List.getElem?_eq_some_iff.mp hs).2
    rw [nI_len]
    refine ⟨_, rfl, fun q => absurd q (by simp; omega), fun q => ?_⟩
    refine ⟨_, nI_at hi, ?_⟩
    rw [w_is_below, e2]
    refine ⟨_, rfl, fun q2 => absurd q2 (by simp; omega), fun q2 => ?_⟩
    rw [hM]; clear hM M
    walk_at "wps"
    rw [nI_ints, ← List.map_take, ← List.map_take]
    refine w_sumL ?_
    rw [nI_sum]
    walk_at "wps"
    rw [Int.natCast_add] at h2
    exact ret_same h2
section
variable {P : Program} {w : World} {K : Fg} {mg : Str → Option Value} {base : Heap}
theorem okN_fixed_term (T : Txt P w K mg) : ∀ n, FnOk P w K mg base (L2N.CX P w) (4 + n) T.f_fixed_term T.d_fixed_term ["term", "place", "option"] (spOf K (c_fixed_term n))
  | 0 => fn_never fun ds μ Φ Ψ h => by obtain ⟨_, _, _, _, _, _, _, _, _, h, _⟩ := h; omega
  | n + 1 => step_fixed_term T (k := 4 + n) (by omega) n (okN_fixed_term T n)
theorem ok_fixed_term (T : Txt P w K mg) : FnOk P w K mg base (L2N.CX P w) 30 T.f_fixed_term T.d_fixed_term ["term", "place", "option"] (spOf K (c_fixed_term 21)) := (okN_fixed_term T 21).mono (by decide)
end
def c_settled_part (n : Nat) : Con := fun ds μ Φ _ => ∃ (ws : List Int) (oc : Nat) (ps : List Nat) (t : QT), ds = [qD t, .tup (ws.map .int)] ∧ WsOk ws ∧ QOk ws oc t ∧ qDep t ≤ 20 ∧ (qPl t).length ≤ 300 ∧ (∀ q ∈ qPl t, q ∈ ps) ∧ ps.Pairwise (· < ·) ∧ ps.length < n ∧ ps.length ≤ 8 ∧ Φ (qD (qSt ws 300 t)) μ
theorem len_settled_part {n ds μ Φ Ψ} (h : c_settled_part n ds μ Φ Ψ) : ds.length = 2 := by obtain ⟨i, _, _, _, rfl, _⟩ := h; rfl
theorem step_settled_part (T : Txt P w K mg) {k : Nat} (hk : 31 ≤ k) (n : Nat) (ih_settled_part : FnOk P w K mg base (L2N.CX P w) k T.f_settled_part T.d_settled_part ["term", "widths"] (spOf K (c_settled_part n))) : FnOk P w K mg base (L2N.CX P w) (k + 1) T.f_settled_part T.d_settled_part ["term", "widths"] (spOf K (c_settled_part (n + 1))) := by
  refine def_okC T.F_settled_part sc_settled_part _ (fun ds μ Φ Ψ h => len_settled_part h) (fun cdv A outer s H E B hW hr =>
    have tk : L2N.Takes (cxOf (L2N.CX P w) P w K mg base N_settled_part "settled_part" (defScope s_settled_part) T.f_settled_part cdv A outer s H E) (fun cls d _ H => E cls d H) := L2N.takes_of rfl rfl rfl rfl
    ⟨_, (pss_cons (ps_if (pt_cmpR op_eq (pe_ix ix_tup (pv 0) pe_int (fun _ _ => rfl)) pe_str (nomark _)) (pss_one (ps_ret (pv 0))) pss_nil)
      (pss_cons (ps_set (i := 2) sc_settled_part.nd rfl (Or.inr rfl) (pe_callB (cr_min rfl) (by rfl) T.z_min (by decide +kernel) (pa_cons (pe_call (ok_places_of T) (hr.mono (by omega)) rfl T.g_places_of T.F_places_of.kp T.b_places_of .nil passN (pa_cons (pv 0) pa_nil)) pa_nil)))
      (pss_cons (ps_set (i := 3) sc_settled_part.nd rfl (Or.inl rfl) (pe_callTy cr_range1 (by rfl) T.z_range (by decide +kernel) (pa_cons (pe_call (ok_width_at T) (hr.mono (by omega)) rfl T.g_width_at T.F_width_at.kp T.b_width_at .nil passN (pa_cons (pv 1) (pa_cons (pv 2) pa_nil))) pa_nil)))
      (pss_cons (ps_set (i := 4) sc_settled_part.nd rfl (Or.inl rfl) (pe_callTy call_tupleN (by rfl) T.z_tuple (by decide +kernel) (pa_cons (pe_lc (own := [("option", 5)]) rfl sc_settled_part.nd (pi_rngV (pv 3)) (blkOk_by (N := N_settled_part) (sc := defScope s_settled_part) (by decide +kernel)) (fun _ _ _ _ _ => (pg_name (i := 5) sc_settled_part.nd rfl (Or.inl rfl))) (fun _ _ _ _ _ => pts_nil) (fun _ _ _ _ _ => (pe_call ih_settled_part hr rfl T.g_settled_part T.F_settled_part.kp T.b_settled_part .nil passN (pa_cons (pe_call (ok_fixed_term T) (hr.mono (by omega)) rfl T.g_fixed_term T.F_fixed_term.kp T.b_fixed_term .nil passN (pa_cons (pv 0) (pa_cons (pv 2) (pa_cons (pv 5) pa_nil)))) (pa_cons (pv 1) pa_nil))))) pa_nil)))
      (pss_one (ps_ret (pe_ifExp (pt_cmpR (op_eqD hr.units) (pv 4) (pe_op op_repA (pe_slice sl_tupN (pv 4) po_none (po_some pe_int)) (pe_callB call_len_seq (by rfl) T.z_len PySem.boot_len (pa_cons (pv 4) pa_nil))) (nomark _)) (pe_ix ix_tup (pv 4) pe_int (fun _ _ => rfl)) (pe_op op_catN (pe_tupN (pa_cons pe_str (pa_cons (pv 2) pa_nil))) (pv 4))))))))),
      (sSeq (sIfS (sTest (sOp roEq (sOp roIxT sVar sInt) sStr)) (sRet sVar) sNext)
      (sSeq (sAsg (sCB rcMinL (sCons (sCall (sCons sVar sNil)) sNil)) sName)
      (sSeq (sAsg (sCB rcRng1 (sCons (sCall (sCons sVar (sCons sVar sNil))) sNil)) sName)
      (sSeq (sAsg (sCB rcTuple (sCons (sLc (siRngV sVar) (gwName List.mem_cons_self) (fun _ _ _ => sName) (fun _ _ _ => sYes) (fun _ _ _ => (sCall (sCons (sCall (sCons sVar (sCons sVar (sCons sVar sNil)))) (sCons sVar sNil))))) sNil)) sName)
      (sRet (sIf (sTest (sOp roEqD sVar (sOp roRepT (sSlT sVar sNoPart (sPart sInt)) (sCB rcLen (sCons sVar sNil))))) (sOp roIxT sVar sInt) (sOp roCatT (sTup (sCons sStr (sCons sVar sNil))) sVar)))))))⟩) (fun ds μ Φ Ψ h => ?hv)
  case hv =>
    obtain ⟨ws, oc, ps, t, rfl, hw, ht, hd, hl, hp, hps, hn, h8, h⟩ := h
    cases t with
    | tell o =>
      rw [qD]
      refine seq_cut fun M hM => ?_
      walk_at "wp"
      exact ⟨ret_same h, fun z => absurd trivial z⟩
    | look p ts =>
      have hne : qPl (.look p ts) ≠ [] := by rw [qPl]; simp
      have hmem := qMin_mem hne
      have hql : qDep (.look p ts) < 21 := by omega
      refine seq_cut fun M hM => ?_
      rw [qD]
      walk_at "wp"
      refine ⟨fun z => absurd z (by decide), fun _ => ?_⟩
      rw [show D.tup (.str "look" :: .int (p : Int) :: qDs ts) = qD (.look p ts) from rfl]
      rw [hM]; clear hM M
      refine seq_cut fun M hM => ?_
      walk_at "wp"
      refine ⟨ws, oc, .look p ts, rfl, ht, by omega, by omega, (qPl (.look p ts)).map fun (n : Nat) => (n : Int), by rw [nI_ints]; exact .lst _, rfl, by simpa using hne, fun m hm hmin => ?_⟩
      obtain rfl : m = ((qMin (qPl (.look p ts)) : Nat) : Int) := by
        obtain ⟨q, hq, rfl⟩ := List.mem_map.mp hm
        rw [qMin_eq hq fun z hz => by have := hmin (z : Int) (List.mem_map.mpr ⟨z, hz, rfl⟩); omega]
      generalize hmm : qMin (qPl (.look p ts)) = m at *
      rw [hM]; clear hM M
      refine seq_cut fun M hM => ?_
      walk_at "wp"
      refine ⟨ws, m, rfl, hw, _, rfl, fun r hr => ?_⟩
      rw [hM]; clear hM M
      refine seq_cut fun M hM => ?_
      walk_at "wp"
      have hw1 := hw.wd1 m
      refine ⟨r, 0, _, rfl, sset_same, by omega, ?_⟩
      rw [show ((wd ws m : Int) - 0).toNat = wd ws m by omega]
      refine lcG_mapN (fun i => qD (qSt ws 300 (qFx m i (.look p ts)))) (by rw [rngD_len]; omega) (fun i d μ2 X hi hsub hx => ?_) ?_
      · obtain ⟨hj, rfl⟩ := rngD_get hi
        have hlt := qFx_lt hj _ ht hmem
        walk_at "wps"
        refine ⟨ws, oc, m, i, .look p ts, rfl, ht, hw, hj, by omega, ?_⟩
        refine ⟨ws, oc, ps.filter (· ≠ m), qFx m i (.look p ts), rfl, hw, qFx_ok hj _ ht, by have := qFx_dep _ ht hj; omega, by omega, fun q hq => ?_, hps.filter _, ?_, by have := List.length_filter_le (fun x => decide (x ≠ m)) ps; omega, hx⟩
        · obtain ⟨h1, h2⟩ := qFx_pl hj _ ht q hq
          exact List.mem_filter.mpr ⟨hp q h1, by simpa using h2⟩
        · have : (ps.filter (· ≠ m)).length < ps.length := by
            refine Nat.lt_of_le_of_ne (List.length_filter_le _ _) fun z => ?_
            have := List.length_filter_eq_length_iff.mp z m (hp m hmem)
            simp at this
          omega
      rw [rngD_len]
      generalize hparts : ((List.range (wd ws m)).map fun i => qSt ws 300 (qFx m i (.look p ts))) = parts
      have ep : ((List.range (wd ws m)).map fun i => qD (qSt ws 300 (qFx m i (.look p ts)))) = qDs parts := by rw [qDs_map, ← hparts, List.map_map]; rfl
      have hpl : parts.length = wd ws m := by rw [← hparts, List.length_map, List.length_range]
      have hj : qSt ws 300 (.look p ts) = joinP m parts := by
        rw [show (300 : Nat) = 299 + 1 from rfl, qSt, hmm, ← hparts]
        congr 1
        refine List.map_congr_left fun i hi => ?_
        have hi := List.mem_range.mp hi
        have hlt := qFx_lt hi _ ht hmem
        exact qSt_fuel hw 299 300 _ (qFx_ok hi _ ht) (by omega) (by omega)
      have hdp : ∀ s ∈ parts, qDep s ≤ 8 := fun s hs => by
        rw [← hparts] at hs
        obtain ⟨i, hi, rfl⟩ := List.mem_map.mp hs
        have hi := List.mem_range.mp hi
        have hlt := qFx_lt hi _ ht hmem
        obtain ⟨a, b, _⟩ := qSt_ok hw 300 _ 0 (qFx_ok hi _ ht) (by omega) fun _ _ => Nat.zero_le _
        have := (a.small hw _ hps fun q hq => hp q (qFx_pl hi _ ht q (b q hq)).1).2
        omega
      rw [ep]
      refine ⟨_, .lst _, ?_⟩
      have e2 : (qDs parts).length = wd ws m := by rw [qDs_len, hpl]
      rw [hM]; clear hM M
      walk_at "wp"
      obtain ⟨b, l, rfl⟩ : ∃ b l, parts = b :: l := by
        cases parts with
        | nil => simp at hpl; omega
        | cons b l => exact ⟨b, l, rfl⟩
      have ec : DW.cutD (qDs (b :: l)) none (some 1) = [qD b] := by rw [show (1 : Int) = ((1 : Nat) : Int) from rfl, cut_to]; rfl
      have er : (List.replicate (qDs (b :: l)).length [qD b]).flatten = qDs (List.replicate (b :: l).length b) := by
        rw [qDs_len, qDs_map, List.map_replicate]
        induction (b :: l).length with
        | zero => rfl
        | succ n ih => rw [List.replicate_succ, List.flatten_cons, ih, List.replicate_succ]; rfl
      rw [ec, er]
      have side : ∀ ss : List QT, (∀ s ∈ ss, qDep s ≤ 8) → EqSide (.tup (qDs ss)) := fun ss hs => ⟨by rw [eqOk]; exact eqOk_qs ss, by rw [dpt]; have := dpts_q ss; have := qdeps_bound ss hs; omega⟩
      refine ⟨by omega, by omega, by rw [List.length_singleton]; omega, side _ hdp, side _ fun s hs => hdp s (by rw [List.eq_of_mem_replicate hs]; exact List.mem_cons_self), ?_⟩
      rw [eqD_qs]
      refine ⟨_, rfl, fun q => ?_, fun q => ?_⟩
      · have q := @of_decide_eq_true _ (_) q
        have hall : ∀ s ∈ b :: l, s = b := fun s hs => by rw [q] at hs; exact List.eq_of_mem_replicate hs
        refine ⟨qD b, by rw [qDs]; exact atI_nat (j := 0) rfl, μ, Sub.set Sub.refl hr, ?_⟩
        rw [hj] at h
        unfold joinP at h
        rw [if_pos (by exact hall)] at h
        exact h
      · have q := @of_decide_eq_false _ (_) q
        refine ⟨by omega, by omega, μ, Sub.set Sub.refl hr, ?_⟩
        rw [hj] at h
        unfold joinP at h
        rw [if_neg (show ¬ ∀ q ∈ b :: l, q = (b :: l).headD (.tell 0) from fun z => q (List.eq_replicate_iff.mpr ⟨rfl, z⟩))] at h
        exact h
end
section
variable {P : Program} {w : World} {K : Fg} {mg : Str → Option Value} {base : Heap}
section
variable {P : Program} {w : World} {K : Fg} {mg : Str → Option Value} {base : Heap}
theorem okN_settled_part (T : Txt P w K mg) : ∀ n, FnOk P w K mg base (L2N.CX P w) (31 + n) T.f_settled_part T.d_settled_part ["term", "widths"] (spOf K (c_settled_part n))
  | 0 => fn_never fun ds μ Φ Ψ h => by obtain ⟨_, _, _, _, _, _, _, _, _, _, _, h, _⟩ := h; omega
  | n + 1 => step_settled_part T (k := 31 + n) (by omega) n (okN_settled_part T n)
theorem ok_settled_part (T : Txt P w K mg) : FnOk P w K mg base (L2N.CX P w) 60 T.f_settled_part T.d_settled_part ["term", "widths"] (spOf K (c_settled_part 9)) := (okN_settled_part T 9).mono (by decide)
end
def c_settled_term (C : Addr) : Con := fun ds μ Φ _ => ∃ (ws : List Int) (oc : Nat) (ps : List Nat) (t : QT), ds = [qO C t ws oc] ∧ QFit ws oc ps t ∧ Φ (qD (qSt ws 300 t)) μ
theorem len_settled_term {C ds μ Φ Ψ} (h : c_settled_term C ds μ Φ Ψ) : ds.length = 1 := by obtain ⟨_, _, _, _, rfl, _⟩ := h; rfl
theorem ok_settled_term (T : Txt P w K mg) : FnOk P w K mg base (L2N.CX P w) 61 T.f_settled_term T.d_settled_term ["query"] (spOf K (c_settled_term T.c_Query)) := by
  refine def_okC T.F_settled_term sc_settled_term _ (fun ds μ Φ Ψ h => len_settled_term h) (fun cdv A outer s H E B hW hr =>
    have tk : L2N.Takes (cxOf (L2N.CX P w) P w K mg base N_settled_term "settled_term" (defScope s_settled_term) T.f_settled_term cdv A outer s H E) (fun cls d _ H => E cls d H) := L2N.takes_of rfl rfl rfl rfl
    ⟨_, (pss_one (ps_ret (pe_call (ok_settled_part T) hr rfl T.g_settled_part T.F_settled_part.kp T.b_settled_part .nil passN (pa_cons (pe_fld (pv 0) rfl) (pa_cons (pe_fld (pv 0) rfl) pa_nil))))),
      (sRet (sCall (sCons (sFldO (NS := NS_Query) (i := 0) T.cls_Query T.na_Query_term rfl (by decide) sVar) (sCons (sFldO (NS := NS_Query) (i := 1) T.cls_Query T.na_Query_widths rfl (by decide) sVar) sNil))))⟩) (fun ds μ Φ Ψ h => ?hv)
  case hv =>
    obtain ⟨ws, oc, ps, t, rfl, hq, h⟩ := h
    have e1 : qO T.c_Query t ws oc = D.obj T.c_Query NS_Query [qD t, .tup (ws.map .int), .int (oc : Int)] := rfl
    rw [e1]
    walk_at "wps"
    exact ⟨ws, oc, ps, t, rfl, hq.w, hq.ok, hq.dep, hq.looks, hq.pl, hq.sorted, by have := hq.most; omega, hq.most, ret_same h⟩
structure StC (ns : List Int) (c : List D) : Prop where
  ex : ∃ seed idx rest : Int, c = [.int seed, .lst (ns.map .int), .int idx, .int rest] ∧ 0 ≤ seed ∧ seed < 2147483647 ∧ 0 ≤ idx ∧ 0 ≤ rest
def c__law_pick : Con := fun ds μ Φ _ => ∃ st ns c n, ds = [.hd (.ref st), .int n] ∧ μ st = some (.lst c) ∧ StC ns c ∧ 0 < n ∧ n.natAbs.log2 < 9000 ∧ ∀ r c', 0 ≤ r → r < n → StC ns c' → Φ (.int r) (sset μ st (.lst c'))
theorem len__law_pick {ds μ Φ Ψ} (h : c__law_pick ds μ Φ Ψ) : ds.length = 2 := by obtain ⟨i, _, _, _, rfl, _⟩ := h; rfl
theorem pick_cell {ns : List Int} {idx : Int} {P : D → Prop} (h0 : 0 ≤ idx) (h1 : idx < ns.length) (k : ∀ z, P (.int z)) : ∃ d, atI (ns.map D.int) idx = some d ∧ P d := by
  obtain ⟨j, rfl⟩ : ∃ j : Nat, idx = (j : Int) := ⟨idx.toNat, by omega⟩
  have hj : j < ns.length := by omega
  exact ⟨.int ns[j], atI_nat (by rw [List.getElem?_map, List.getElem?_eq_getElem hj]; rfl), k _⟩
theorem ok__law_pick {cx : CXT} (T : Txt P w K mg) : FnOk P w K mg base cx 1 T.f__law_pick T.d__law_pick ["_law_state", "_law_limit"] (spOf K c__law_pick) := by
  refine def_okC T.F__law_pick sc__law_pick _ (fun ds μ Φ Ψ h => len__law_pick h) (fun cdv A outer s H E B hW hr =>
    ⟨_, (pss_cons (ps_if (pt_cmpR op_ge (pe_ix ix_list (pv 0) pe_int (fun _ _ => rfl)) (pv 1) (nomark _)) (pss_cons (ps_set (i := 4) sc__law_pick.nd rfl (Or.inl rfl) (pe_callTy call_int1 (by rfl) T.z_int (by decide +kernel) (pa_cons (pe_ix ix_list (pv 0) pe_int (fun _ _ => rfl)) pa_nil)))
      (pss_cons (ps_asg (pe_op op_fdivW (pv 4) (pv 1)) (pg_sub (pv 0) pe_int set_list))
      (pss_one (ps_ret (pe_op op_mod (pv 4) (pv 1)))))) pss_nil)
      (pss_cons (ps_set (i := 2) sc__law_pick.nd rfl (Or.inl rfl) pe_int)
      (pss_cons (ps_if (pt_cmpR op_lt (pe_ix ix_list (pv 0) pe_int (fun _ _ => rfl)) (pe_callB call_len_seq (by rfl) T.z_len PySem.boot_len (pa_cons (pe_ix ix_list (pv 0) pe_int (fun _ _ => rfl)) pa_nil)) (nomark _)) (pss_cons (ps_set (i := 2) sc__law_pick.nd rfl (Or.inl rfl) (pe_callTy call_int1 (by rfl) T.z_int (by decide +kernel) (pa_cons (pe_ix ix_list (pe_ix ix_list (pv 0) pe_int (fun _ _ => rfl)) (pe_ix ix_list (pv 0) pe_int (fun _ _ => rfl)) (fun _ _ => rfl)) pa_nil)))
      (pss_cons (ps_asg (pe_op op_add (pe_ix ix_list (pv 0) pe_int (fun _ _ => rfl)) pe_int) (pg_sub (pv 0) pe_int set_list))
      (pss_cons (ps_if (pt_cmpR op_lt (pv 2) pe_int (nomark _)) (pss_one (ps_set (i := 2) sc__law_pick.nd rfl (Or.inl rfl) (pe_op op_sub pe_int (pv 2)))) pss_nil)
      (pss_one (ps_if (pt_cmpR op_ge (pv 2) (pe_op op_pow pe_int pe_int) (nomark _)) (pss_cons (ps_asg (pe_op op_fdivW (pv 2) (pv 1)) (pg_sub (pv 0) pe_int set_list))
      (pss_one (ps_ret (pe_op op_mod (pv 2) (pv 1))))) pss_nil))))) pss_nil)
      (pss_cons (ps_set (i := 3) sc__law_pick.nd rfl (Or.inl rfl) (pe_op op_mod (pe_op op_mulX (pe_op op_add (pe_op op_add (pe_callTy call_int1 (by rfl) T.z_int (by decide +kernel) (pa_cons (pe_ix ix_list (pv 0) pe_int (fun _ _ => rfl)) pa_nil)) (pe_op op_mod (pv 2) pe_int)) pe_int) pe_int) pe_int))
      (pss_cons (ps_asg (pe_op op_mod (pe_op op_add (pe_op op_mulX (pv 3) pe_int) pe_int) pe_int) (pg_sub (pv 0) pe_int set_list))
      (pss_one (ps_ret (pe_op op_mod (pe_op op_fdivW (pe_callTy call_int1 (by rfl) T.z_int (by decide +kernel) (pa_cons (pe_ix ix_list (pv 0) pe_int (fun _ _ => rfl)) pa_nil)) pe_int) (pv 1))))))))),
      (sSeq (sIfS (sTest (sOp roBl0 (sOp roIxL sVar sInt) sVar)) (sSeq (sAsg (sCB rcInt (sCons (sOp roIxL sVar sInt) sNil)) sName)
      (sSeq (sAsgS (sOp roInt sVar sVar) sVar sInt)
      (sRet (sOp roInt sVar sVar)))) sNext)
      (sSeq (sAsg sInt sName)
      (sSeq (sIfS (sTest (sOp roBl0 (sOp roIxL sVar sInt) (sCB rcLen (sCons (sOp roIxL sVar sInt) sNil)))) (sSeq (sAsg (sCB rcInt (sCons (sOp roIxL (sOp roIxL sVar sInt) (sOp roIxL sVar sInt)) sNil)) sName)
      (sSeq (sAsgS (sOp roInt0 (sOp roIxL sVar sInt) sInt) sVar sInt)
      (sSeq (sIfS (sTest (sOp roBl0 sVar sInt)) (sAsg (sOp roInt0 sInt sVar) sName) sNext)
      (sIfS (sTest (sOp roBl0 sVar (sOp roInt sInt sInt))) (sSeq (sAsgS (sOp roInt sVar sVar) sVar sInt)
      (sRet (sOp roInt sVar sVar))) sNext)))) sNext)
      (sSeq (sAsg (sOp roInt (sOp roInt (sOp roInt0 (sOp roInt0 (sCB rcInt (sCons (sOp roIxL sVar sInt) sNil)) (sOp roInt sVar sInt)) sInt) sInt) sInt) sName)
      (sSeq (sAsgS (sOp roInt (sOp roInt0 (sOp roInt sVar sInt) sInt) sInt) sVar sInt)
      (sRet (sOp roInt (sOp roInt (sCB rcInt (sCons (sOp roIxL sVar sInt) sNil)) sInt) sVar)))))))⟩) (fun ds μ Φ Ψ h => ?hv)
  case hv =>
    obtain ⟨st, ns, c, n, rfl, hc, ⟨seed, idx, rest, rfl, h1, h2, h3, h4⟩, hn, hl, h⟩ := h
    have hmod : ∀ a : Int, 0 ≤ a % n ∧ a % n < n := fun a => ⟨Int.emod_nonneg _ (by omega), Int.emod_lt_of_pos _ hn⟩
    have hM : ∀ a : Int, 0 ≤ a % 2147483647 ∧ a % 2147483647 < 2147483647 := fun a => ⟨Int.emod_nonneg _ (by omega), Int.emod_lt_of_pos _ (by omega)⟩
    -- what stands at the end, whatever the cell is
    have tail : ∀ (μ' : Sto) (cell idx' : Int) (x4 : Option D), (∀ c', sset μ' st (.lst c') = sset μ st (.lst c')) → μ' st = some (.lst [.int seed, .lst (ns.map .int), .int idx', .int rest]) → 0 ≤ idx' → (dSeq
      (dAsg
        (dOp (oI (fun x j => 0 < j) fun i j => D.int (i % j))
          (dOp (oI CMulX fun i j => D.int (i * j))
            (dOp (oI0 fun i j => D.int (i + j))
              (dOp (oI0 fun i j => D.int (i + j)) (dCB cInt (dCons (dOp oIxL (dVar 0) (dC (D.int 0))) dNil))
                (dOp (oI (fun x j => 0 < j) fun i j => D.int (i % j)) (dVar 2) (dC (D.int 2147483647))))
              (dC (D.int 1)))
            (dC (D.int 48271)))
          (dC (D.int 2147483647)))
        (eName 3))
      (dSeq
        (dAsgS
          (dOp (oI (fun x j => 0 < j) fun i j => D.int (i % j))
            (dOp (oI0 fun i j => D.int (i + j)) (dOp (oI CMulX fun i j => D.int (i * j)) (dVar 3) (dC (D.int 69621)))
              (dC (D.int 12345)))
            (dC (D.int 2147483647)))
          (dVar 0) (dC (D.int 0)))
        (dRet
          (dOp (oI (fun x j => 0 < j) fun i j => D.int (i % j))
            (dOp (oI CDivW fun i j => D.int (i / j)) (dCB cInt (dCons (dOp oIxL (dVar 0) (dC (D.int 0))) dNil))
              (dC (D.int 7)))
            (dVar 1))))) (goalX Ψ) (goalE Φ) [some (.hd (.ref st)), some (.int n), some (.int cell), none, x4] μ' := by
      intro μ' cell idx' x4 hs hc' hi'
      have b1 := hM cell
      have b2 := hM ((seed + cell % 2147483647 + 1) * 48271)
      have b3 := hM ((seed + cell % 2147483647 + 1) * 48271 % 2147483647 * 69621 + 12345)
      clear hM hc
      walk_at "wps"
      simp only [hc']
      walk_at "wp"
      simp only [hc']
      walk_at "wp"
      refine ⟨by decide, mulx 33 17 (by omega) (by decide) (by decide), by decide, mulx 31 18 (by omega) (by decide) (by decide), by decide, wide_div (b := 3) (by decide) (by decide) (by decide) (by decide), hn, ?_⟩
      rw [hs]
      exact ret_same (h _ _ (hmod _).1 (hmod _).2 ⟨_, _, _, rfl, b3.1, b3.2, hi', h4⟩)
    refine q_seq fun nx hnx => ?_
    walk_at "wp"
    simp only [hc]
    walk_at "wp"
    refine ⟨fun c1 => ?_, fun c1 => ?_⟩
    · walk_at "wps"
      simp only [hc]
      walk_at "wp"
      simp only [hc]
      walk_at "wp"
      exact ⟨⟨hn, hl⟩, hn, ret_same (h _ _ (hmod _).1 (hmod _).2 ⟨_, _, _, rfl, h1, h2, h3, Int.ediv_nonneg h4 (by omega)⟩)⟩
    · subst hnx
      refine q_seq fun nx hnx => ?_
      walk_at "wp"
      subst hnx
      refine q_seq fun nx hnx => ?_
      walk_at "wp"
      simp only [hc]
      walk_at "wp"
      refine ⟨fun c2 => ?_, fun c2 => ?_⟩
      · refine q_seq fun nx2 hnx2 => ?_
        walk_at "wp"
        simp only [hc]
        walk_at "wp"
        refine pick_cell h3 c2 fun z => ?_
        walk_at "wp"
        subst hnx2
        refine q_seq fun nx2 hnx2 => ?_
        walk_at "wp"
        simp only [hc]
        walk_at "wp"
        simp only [hc]
        walk_at "wp"
        subst hnx2
        have hc2 : sset μ st (.lst [.int seed, .lst (ns.map .int), .int (idx + 1), .int rest]) st = some (.lst [.int seed, .lst (ns.map .int), .int (idx + 1), .int rest]) := sset_same
        have fin : ∀ z : Int, 0 ≤ z → dIfS (dTest (dOp (oI0 fun i j => D.bl (decide (j ≤ i))) (dVar 2) (dOp (oI CPow fun i j => D.int (i ^ j.toNat)) (dC (D.int 10)) (dC (D.int 18))))) (dSeq (dAsgS (dOp (oI CDivW fun i j => D.int (i / j)) (dVar 2) (dVar 1)) (dVar 0) (dC (D.int 3))) (dRet (dOp (oI (fun x j => 0 < j) fun i j => D.int (i % j)) (dVar 2) (dVar 1)))) dNext
            (goalX Ψ) ⟨nx, (goalE Φ).rt, (goalE Φ).bk, (goalE Φ).ct⟩ [some (.hd (.ref st)), some (.int n), some (.int z), none, none] (sset μ st (.lst [.int seed, .lst (ns.map .int), .int (idx + 1), .int rest])) := by
          intro z hz
          walk_at "wp"
          refine ⟨⟨by decide, by decide, by decide⟩, fun c3 => ?_, fun c3 => ?_⟩
          · walk_at "wps"
            exact ⟨⟨hn, hl⟩, hn, ret_same (h _ _ (hmod _).1 (hmod _).2 ⟨_, _, _, rfl, h1, h2, by omega, Int.ediv_nonneg hz (by omega)⟩)⟩
          · subst hnx
            exact tail _ z (idx + 1) none (fun c' => sset_sset) sset_same (by omega)
        refine q_seq fun nx2 hnx2 => ?_
        walk_at "wp"
        subst hnx2
        refine ⟨fun c3 => ?_, fun c3 => ?_⟩
        · exact fin _ (by omega)
        · exact fin _ (by omega)
      · subst hnx
        exact tail μ 11 idx none (fun _ => rfl) hc h3
def c__law_start : Con := fun ds μ Φ _ => ∃ ns, ds = [.scr ns] ∧ ns.length ≤ 63 ∧ ∀ p c, μ p = none → StC ns c → Φ (.hd (.ref p)) (sset μ p (.lst c))
theorem len__law_start {ds μ Φ Ψ} (h : c__law_start ds μ Φ Ψ) : ds.length = 1 := by obtain ⟨i, rfl, _⟩ := h; rfl
theorem ok__law_start {cx : CXT} (T : Txt P w K mg) : FnOk P w K mg base cx 1 T.f__law_start T.d__law_start ["_law_script"] (spOf K c__law_start) := by
  refine def_okC T.F__law_start sc__law_start _ (fun ds μ Φ Ψ h => len__law_start h) (fun cdv A outer s H E B hW hr =>
    ⟨_, (pss_cons (ps_set (i := 1) sc__law_start.nd rfl (Or.inl rfl) pe_int)
      (pss_cons (ps_for (passes_of rfl) rfl (pi_range1 rfl T.z_range (pa_cons (pe_callB call_len_seq (by rfl) T.z_len PySem.boot_len (pa_cons (pv 0) pa_nil)) pa_nil)) (pg_name (i := 2) sc__law_start.nd rfl (Or.inl rfl)) (pss_one (ps_set (i := 1) sc__law_start.nd rfl (Or.inl rfl) (pe_op op_mod (pe_op op_add (pe_op op_add (pe_op op_add (pe_op op_mulX (pv 1) pe_int) (pe_op op_mod (pe_callTy call_int1 (by rfl) T.z_int (by decide +kernel) (pa_cons (pe_ix ix_list (pv 0) (pv 2) (fun _ _ => rfl)) pa_nil)) pe_int)) (pv 2)) pe_int) pe_int))))
      (pss_one (ps_ret (pe_lst (pa_cons (pv 1) (pa_cons (pe_callTy call_list_of (by rfl) T.z_list (by decide +kernel) (pa_cons (pv 0) pa_nil)) (pa_cons pe_int (pa_cons pe_int pa_nil))))))))),
      (sSeq (sAsg sInt sName)
      (sSeq (sFor (siR1 (sCB rcLen (sCons sVar sNil))) (fun _ _ _ => sName) (fun _ _ _ => (sAsg (sOp roInt (sOp roInt0 (sOp roInt0 (sOp roInt0 (sOp roInt sVar sInt) (sOp roInt (sCB rcInt (sCons (sOp roIxL sVar sVar) sNil)) sInt)) sVar) sInt) sInt) sName)))
      (sRet (sOwn (sCons sVar (sCons (sCB rcList (sCons sVar sNil)) (sCons sInt (sCons sInt sNil))))))))⟩) (fun ds μ Φ Ψ h => ?hv)
  case hv =>
    obtain ⟨ns, rfl, hl, h⟩ := h
    have hM : ∀ a : Int, 0 ≤ a % 2147483647 ∧ a % 2147483647 < 2147483647 := fun a => ⟨Int.emod_nonneg _ (by omega), Int.emod_lt_of_pos _ (by omega)⟩
    walk_at "wps"
    refine ⟨by omega, by omega, fun i δ' μ' => μ' = μ ∧ ∃ seed x, 0 ≤ seed ∧ seed < 2147483647 ∧ δ' = [some (.scr ns), some (.int seed), x], ⟨rfl, 7, none, by omega, by omega, rfl⟩, ?_, ?_⟩
    · rintro i d δ' μ' hi ⟨rfl, seed, x, h1, h2, rfl⟩
      obtain ⟨hj, rfl⟩ := rngD_get hi
      walk_at "wps"
      refine ⟨mulx 31 17 (by omega) (by decide) (by decide), .int ns[i], ?_, ?_⟩
      · exact atI_nat (by rw [List.getElem?_map, List.getElem?_eq_getElem hj]; rfl)
      · walk_at "wps"
        exact ⟨by decide, by decide, _, _, (hM _).1, (hM _).2, rfl⟩ -- (hM _).1, (hM _).2, rfl⟩
    · rintro δ' μ' ⟨rfl, seed, x, h1, h2, rfl⟩
      walk_at "wps"
      exact ⟨by decide, fun p hp => ret_same (h p _ hp ⟨seed, 0, 0, rfl, h1, h2, by omega, by omega⟩)⟩
mutual
/-- what the law compares: plain data -/
def plainD : D → Bool
  | .non => true
  | .bl _ => true
  | .int _ => true
  | .str _ => true
  | .tup ds => plainDs ds && decide (ds.length ≤ 100000)
  | _ => false
def plainDs : List D → Bool
  | [] => true
  | d :: ds => plainD d && plainDs ds
end
mutual
def depD : D → Nat
  | .tup ds => depDs ds + 1
  | _ => 1
def depDs : List D → Nat
  | [] => 0
  | d :: ds => max (depD d) (depDs ds)
end
mutual
def sameD : D → D → Bool
  | a, .tup ds => match a with
    | .tup es => sameDs es ds
    | _ => false
  | a, .non => match a with
    | .non => true
    | _ => false
  | a, .str s => match a with
    | .str t => decide (t = s)
    | _ => false
  | a, .bl s => match a with
    | .bl t => decide (t = s)
    | _ => false
  | a, .int s => match a with
    | .int t => decide (t = s)
    | _ => false
  | _, _ => false
def sameDs : List D → List D → Bool
  | [], [] => true
  | e :: es, d :: ds => sameD e d && sameDs es ds
  | _, _ => false
end
/-- what may be handed to it -/
def c__law_same : Nat → Con
  | 0 => fun _ _ _ _ => False
  | n + 1 => fun ds μ Φ _ => ∃ a d, ds = [a, d] ∧ plainD a = true ∧ plainD d = true ∧ depD d ≤ n + 1 ∧ Φ (.bl (sameD a d)) μ
theorem len__law_same {n ds μ Φ Ψ} (h : c__law_same n ds μ Φ Ψ) : ds.length = 2 := by
  cases n with
  | zero => exact h.elim
  | succ n => obtain ⟨i, _, rfl, _⟩ := h; rfl
theorem depD_pos (d : D) : 0 < depD d := by cases d <;> simp [depD]
theorem same_at {n a d μ Φ Ψ} (pa : plainD a = true) (pd : plainD d = true) (hd : depD d ≤ n) (h : Φ (.bl (sameD a d)) μ) : c__law_same n [a, d] μ Φ Ψ := by
  cases n with
  | zero => have := depD_pos d; omega
  | succ n => exact ⟨a, d, rfl, pa, pd, hd, h⟩
theorem plain_get : ∀ {ds : List D} {i : Nat} {d : D}, plainDs ds = true → ds[i]? = some d → plainD d = true
  | [], i, d, _, e => by cases e
  | x :: xs, 0, d, h, e => by cases e; simp [plainDs] at h; exact h.1
  | x :: xs, i + 1, d, h, e => by simp [plainDs] at h; exact plain_get h.2 e
theorem dep_get : ∀ {ds : List D} {i : Nat} {d : D}, ds[i]? = some d → depD d ≤ depDs ds
  | [], i, d, e => by cases e
  | x :: xs, 0, d, e => by cases e; simp only [depDs]; omega
  | x :: xs, i + 1, d, e => by have := dep_get (ds := xs) (i := i) e; simp only [depDs]; omega
theorem sameDs_len : ∀ {es ds : List D}, es.length ≠ ds.length → sameDs es ds = false
  | [], [], h => absurd rfl h
  | [], _ :: _, h => by simp [sameDs]
  | _ :: _, [], h => by simp [sameDs]
  | e :: es, d :: ds, h => by simp [sameDs]; intro _; exact sameDs_len (by simpa using h)
theorem sameDs_all : ∀ {es ds : List D}, es.length = ds.length → ((List.range ds.length).map fun i => sameD (es.getD i .non) (ds.getD i .non)).all id = sameDs es ds
  | [], [], h => by simp [sameDs]
  | [], _ :: _, h => by simp at h
  | _ :: _, [], h => by simp at h
  | e :: es, d :: ds, h => by
    have ih := sameDs_all (es := es) (ds := ds) (by simpa using h)
    rw [List.length_cons, List.range_succ_eq_map, List.map_cons, List.map_map, List.all_cons, sameDs, ← ih]
    rfl
theorem step__law_same (T : Txt P w K mg) {k : Nat} (hk : 0 ≤ k) (n : Nat) (ih__law_same : FnOk P w K mg base (L2N.CX P w) k T.f__law_same T.d__law_same ["_law_actual", "_law_due"] (spOf K (c__law_same n))) : FnOk P w K mg base (L2N.CX P w) (k + 1) T.f__law_same T.d__law_same ["_law_actual", "_law_due"] (spOf K (c__law_same (n + 1))) := by
  refine def_okC T.F__law_same sc__law_same _ (fun ds μ Φ Ψ h => len__law_same h) (fun cdv A outer s H E B hW hr =>
    have tk : L2N.Takes (cxOf (L2N.CX P w) P w K mg base N__law_same "_law_same" (defScope s__law_same) T.f__law_same cdv A outer s H E) (fun cls d _ H => E cls d H) := L2N.takes_of rfl rfl rfl rfl
    ⟨_, (pss_cons (ps_if (pt_val (pe_callB call_isi (by rfl) T.z_isinstance (by decide +kernel) (pa_cons (pv 1) (pa_cons (pe_bltn (v := .ty "tuple") rfl T.z_tuple (by decide +kernel) rfl) pa_nil)))) (pss_cons (ps_if (PW.pt (pw_or (pt_not (pt_val (pe_callB call_isi (by rfl) T.z_isinstance (by decide +kernel) (pa_cons (pv 0) (pa_cons (pe_bltn (v := .ty "tuple") rfl T.z_tuple (by decide +kernel) rfl) pa_nil))))) (pw_or1 (pt_cmpR op_ne (pe_callB call_len_seq (by rfl) T.z_len PySem.boot_len (pa_cons (pv 0) pa_nil)) (pe_callB call_len_seq (by rfl) T.z_len PySem.boot_len (pa_cons (pv 1) pa_nil)) (nomark _))))) (pss_one (ps_ret pe_bl)) pss_nil)
      (pss_one (ps_ret (pe_callB (cr_all rfl) (by rfl) T.z_all (by decide +kernel) (pa_cons (pe_lc (own := [("_law_p", 2)]) rfl sc__law_same.nd (pi_range1 rfl T.z_range (pa_cons (pe_callB call_len_seq (by rfl) T.z_len PySem.boot_len (pa_cons (pv 1) pa_nil)) pa_nil)) (blkOk_by (N := N__law_same) (sc := defScope s__law_same) (by decide +kernel)) (fun _ _ _ _ _ => (pg_name (i := 2) sc__law_same.nd rfl (Or.inl rfl))) (fun _ _ _ _ _ => pts_nil) (fun _ _ _ _ _ => (pe_call ih__law_same hr rfl T.g__law_same T.F__law_same.kp T.b__law_same .nil passN (pa_cons (pe_ix ix_tup (pv 0) (pv 2) (fun _ _ => rfl)) (pa_cons (pe_ix ix_tup (pv 1) (pv 2) (fun _ _ => rfl)) pa_nil))))) pa_nil))))) pss_nil)
      (pss_cons (ps_if (pt_cmpR op_isN (pv 1) pe_non (nomark _)) (pss_one (ps_ret (pe_cmpR op_isN (pv 0) pe_non (nomark _)))) pss_nil)
      (pss_cons (ps_if (pt_val (pe_callB call_isi (by rfl) T.z_isinstance (by decide +kernel) (pa_cons (pv 1) (pa_cons (pe_bltn (v := .ty "str") rfl T.z_str (by decide +kernel) rfl) pa_nil)))) (pss_one (ps_ret (pe_and (pe_callB call_isi (by rfl) T.z_isinstance (by decide +kernel) (pa_cons (pv 0) (pa_cons (pe_bltn (v := .ty "str") rfl T.z_str (by decide +kernel) rfl) pa_nil))) (pe_one (pe_cmpR op_eq (pv 0) (pv 1) (nomark _)))))) pss_nil)
      (pss_cons (ps_if (pt_val (pe_callB call_isi (by rfl) T.z_isinstance (by decide +kernel) (pa_cons (pv 1) (pa_cons (pe_bltn (v := .ty "bool") rfl T.z_bool (by decide +kernel) rfl) pa_nil)))) (pss_one (ps_ret (pe_and (pe_callB call_isi (by rfl) T.z_isinstance (by decide +kernel) (pa_cons (pv 0) (pa_cons (pe_bltn (v := .ty "bool") rfl T.z_bool (by decide +kernel) rfl) pa_nil))) (pe_one (pe_cmpR op_eq (pv 0) (pv 1) (nomark _)))))) pss_nil)
      (pss_one (ps_ret (pe_and (pe_callB call_isi (by rfl) T.z_isinstance (by decide +kernel) (pa_cons (pv 0) (pa_cons (pe_bltn (v := .ty "int") rfl T.z_int (by decide +kernel) rfl) pa_nil))) (pe_and (pe_not (pe_callB call_isi (by rfl) T.z_isinstance (by decide +kernel) (pa_cons (pv 0) (pa_cons (pe_bltn (v := .ty "bool") rfl T.z_bool (by decide +kernel) rfl) pa_nil)))) (pe_one (pe_cmpR op_eq (pv 0) (pv 1) (nomark _))))))))))),
      (sSeq (sIfS (sB (sCB (rcIsi (T := "tuple")) (sCons sVar (sCons sHd sNil)))) (sSeq (sIfS (sOr (sNot (sB (sCB (rcIsi (T := "tuple")) (sCons sVar (sCons sHd sNil))))) (sTest (sOp roNe (sCB rcLen (sCons sVar sNil)) (sCB rcLen (sCons sVar sNil))))) (sRet sBl) sNext)
      (sRet (sCB rcAll (sCons (sLc (siR1 (sCB rcLen (sCons sVar sNil))) (gwName List.mem_cons_self) (fun _ _ _ => sName) (fun _ _ _ => sYes) (fun _ _ _ => (sCall (sCons (sOp roIxT sVar sVar) (sCons (sOp roIxT sVar sVar) sNil))))) sNil)))) sNext)
      (sSeq (sIfS (sTest (sOp roIsN sVar sNon)) (sRet (sOp roIsN sVar sNon)) sNext)
      (sSeq (sIfS (sB (sCB (rcIsi (T := "str")) (sCons sVar (sCons sHd sNil)))) (sRet (sAndV (sCB (rcIsi (T := "str")) (sCons sVar (sCons sHd sNil))) (sOp roEq sVar sVar))) sNext)
      (sSeq (sIfS (sB (sCB (rcIsi (T := "bool")) (sCons sVar (sCons sHd sNil)))) (sRet (sAndV (sCB (rcIsi (T := "bool")) (sCons sVar (sCons sHd sNil))) (sOp roEq sVar sVar))) sNext)
      (sRet (sAndV (sCB (rcIsi (T := "int")) (sCons sVar (sCons sHd sNil))) (sAndV (sNotV (sCB (rcIsi (T := "bool")) (sCons sVar (sCons sHd sNil)))) (sOp roEq sVar sVar))))))))⟩) (fun ds μ Φ Ψ h => ?hv)
  case hv =>
    obtain ⟨a, d, rfl, pa, pd, hd, h⟩ := h
    cases d with
    | tup ds =>
      cases a with
      | tup es =>
        walk_at "wps"
        refine ⟨fun c => ?_, fun c => ?_⟩
        · have c : es.length ≠ ds.length := by intro z; rw [z] at c; simp at c
          rw [sameD, sameDs_len c] at h
          exact ret_same h
        · have c : es.length = ds.length := by simp at c; omega
          simp [plainD] at pa pd
          refine ⟨by omega, by omega, lcG_mapN (fun i => .bl (sameD (es.getD i .non) (ds.getD i .non))) (by rw [rngD_len]; omega) (fun i d μ2 X hi hsub hx => ?_) ?_⟩
          · obtain ⟨hj, rfl⟩ := rngD_get hi
            have h1 : es[i]? = some es[i] := List.getElem?_eq_getElem (by omega)
            have h2 : ds[i]? = some ds[i] := List.getElem?_eq_getElem (by omega)
            walk_at "wps"
            refine ⟨_, atI_n h1, ?_⟩
            walk_at "wps"
            refine ⟨_, atI_n h2, same_at (plain_get pa.1 h1) (plain_get pd.1 h2) (by have := dep_get h2; simp only [depD] at hd; omega) ?_⟩
            simpa [List.getD_eq_getElem?_getD, h1, h2] using hx
          · rw [rngD_len]
            refine w_allB (P := (List.range ds.length).map fun i => sameD (es.getD i .non) (ds.getD i .non)) (by rw [List.map_map]; rfl) (ret_same ?_)
            rw [sameDs_all c]
            exact h
      | non => walk_at "wps"; exact ret_same h
      | int i => walk_at "wps"; exact ret_same h
      | bl i => walk_at "wps"; exact ret_same h
      | str i => walk_at "wps"; exact ret_same h
      | _ => simp [plainD] at pa
    | non =>
      cases a with
      | tup es => walk_at "wps"; exact ret_same h
      | non => walk_at "wps"; exact ret_same h
      | int i => walk_at "wps"; exact ret_same h
      | bl i => walk_at "wps"; exact ret_same h
      | str i => walk_at "wps"; exact ret_same h
      | _ => simp [plainD] at pa
    | str t =>
      cases a with
      | tup es => walk_at "wps"; exact ret_same h
      | non => walk_at "wps"; exact ret_same h
      | int i => walk_at "wps"; exact ret_same h
      | bl i => walk_at "wps"; exact ret_same h
      | str i => walk_at "wps"; exact ret_same h
      | _ => simp [plainD] at pa
    | bl t =>
      cases a with
      | tup es => walk_at "wps"; exact ret_same h
      | non => walk_at "wps"; exact ret_same h
      | int i => walk_at "wps"; exact ret_same h
      | bl i => walk_at "wps"; exact ret_same h
      | str i => walk_at "wps"; exact ret_same h
      | _ => simp [plainD] at pa
    | int t =>
      cases a with
      | tup es => walk_at "wps"; exact ret_same h
      | non => walk_at "wps"; exact ret_same h
      | int i => walk_at "wps"; exact ret_same h
      | bl i => walk_at "wps"; exact ret_same h
      | str i => walk_at "wps"; exact ret_same h
      | _ => simp [plainD] at pa
    | _ => simp [plainD] at pd
theorem log_small {n : Nat} (h : n ≤ 8000) : (n : Int).natAbs.log2 < 9000 := by rw [Int.natAbs_natCast]; have := Nat.log2_le_self n; omega
theorem log_mid {n : Nat} (h : n ≤ 1000000000000) : (n : Int).natAbs.log2 < 9000 := by
  rw [Int.natAbs_natCast]
  by_cases z : n = 0
  · subst z; decide
  · have := (Nat.log2_lt z (k := 41)).mpr (Nat.lt_of_le_of_lt h (by decide))
    omega
theorem lcP {Ψ : XP} {Φ : DK} {n : Nat} {φ : DE} {δw : DEnv} {μ1 : Sto} {m : Nat} {st : Addr} {ns : List Int} {c : List D} (Pd : Nat → Int → Prop) (hm : m ≤ 1000) (hst : μ1 st = some (.lst c)) (h0 : StC ns c)
    (hs : ∀ (i : Nat) (μ2 : Sto) (X : DK) (c : List D), i < m → μ2 st = some (.lst c) → StC ns c → (∀ (y : Int) c', StC ns c' → Pd i y → X (.int y) (sset μ2 st (.lst c'))) → φ Ψ (δw.set n (some (.int (i : Int)))) μ2 X)
    (hd : ∀ (l : List Int) c, l.length = m → (∀ (i : Nat) (h : i < l.length), Pd i l[i]) → StC ns c → Φ (.lst (l.map .int)) (sset μ1 st (.lst c))) : LcG (eName n) dYes φ δw Ψ (rngD 0 m) μ1 Φ := by
  refine lcG_drawN (StC ns) (fun i acc => ∃ l : List Int, acc = l.map .int ∧ l.length = i ∧ ∀ (j : Nat) (h : j < l.length), Pd j l[j]) (by rw [rngD_len]; omega) hst h0 ⟨[], rfl, rfl, fun j h => by simp at h⟩ (fun i d μ2 X acc c2 hi hs2 sc ⟨l, e, hl, hP⟩ hla hx => ?_) (fun acc c2 ⟨l, e, hl, hP⟩ hla sc => ?_)
  · obtain ⟨hj, rfl⟩ := rngD_get hi
    rw [Int.zero_add]
    refine hs i μ2 X c2 hj hs2 sc fun y c' sc' hy => hx _ c' sc' ⟨l ++ [y], by rw [e, List.map_append]; rfl, by rw [List.length_append, hl]; rfl, fun j h => ?_⟩
    by_cases z : j < l.length
    · rw [List.getElem_append_left z]; exact hP j z
    · rw [List.length_append, List.length_singleton] at h
      have : j = l.length := by omega
      subst this
      rw [List.getElem_append_right (Nat.le_refl _)]
      simp only [Nat.sub_self, List.getElem_cons_zero]
      rw [hl]; exact hy
  · rw [rngD_len] at hl
    rw [e]
    exact hd l c2 hl hP sc
theorem all_of_get {l : List Int} {P : Int → Prop} (h : ∀ (i : Nat) (h : i < l.length), P l[i]) : ∀ x ∈ l, P x := fun x hx => by
  obtain ⟨i, hi, rfl⟩ := List.mem_iff_getElem.mp hx
  exact h i hi
def c__law_width : Con := fun ds μ Φ _ => ∃ (ws : List Int) (p : Nat), ds = [.tup (ws.map .int), .int (p : Int)] ∧ WsOk ws ∧ Φ (.int (wd ws p : Int)) μ
theorem len__law_width {ds μ Φ Ψ} (h : c__law_width ds μ Φ Ψ) : ds.length = 2 := by obtain ⟨i, _, rfl, _⟩ := h; rfl
theorem ok__law_width {cx : CXT} (T : Txt P w K mg) : FnOk P w K mg base cx 1 T.f__law_width T.d__law_width ["_law_widths_here", "_law_place"] (spOf K c__law_width) := by
  refine def_okC T.F__law_width sc__law_width _ (fun ds μ Φ Ψ h => len__law_width h) (fun cdv A outer s H E B hW hr =>
    ⟨_, (pss_one (ps_ret (pe_ix ix_tup (pv 0) (pe_op op_mod (pe_callTy call_int1 (by rfl) T.z_int (by decide +kernel) (pa_cons (pv 1) pa_nil)) (pe_callB call_len_seq (by rfl) T.z_len PySem.boot_len (pa_cons (pv 0) pa_nil))) (fun _ _ => rfl)))),
      (sRet (sOp roIxT sVar (sOp roInt (sCB rcInt (sCons sVar sNil)) (sCB rcLen (sCons sVar sNil)))))⟩) (fun ds μ Φ Ψ h => ?hv)
  case hv =>
    obtain ⟨ws, p, rfl, hw, h⟩ := h
    have h0 := hw.l0
    obtain ⟨x, hx, e, x1, x2⟩ := hw.at_ p
    walk_at "wps"
    have em : (p : Int) % (ws.length : Int) = ((p % ws.length : Nat) : Int) := rfl
    rw [em]
    refine ⟨by omega, _, atI_nat (v := .int x) (by rw [List.getElem?_map, hx]; rfl), ret_same ?_⟩
    rw [e]; exact h
def c__law_widths : Con := fun ds μ Φ _ => ∃ st ns c, ds = [.hd (.ref st)] ∧ μ st = some (.lst c) ∧ StC ns c ∧ ∀ ws c', WsOk ws → StC ns c' → Φ (.tup (ws.map .int)) (sset μ st (.lst c'))
theorem len__law_widths {ds μ Φ Ψ} (h : c__law_widths ds μ Φ Ψ) : ds.length = 1 := by obtain ⟨_, _, _, rfl, _⟩ := h; rfl
theorem ok__law_widths {cx : CXT} (T : Txt P w K mg) : FnOk P w K mg base cx 2 T.f__law_widths T.d__law_widths ["_law_state"] (spOf K c__law_widths) := by
  refine def_okC T.F__law_widths sc__law_widths _ (fun ds μ Φ Ψ h => len__law_widths h) (fun cdv A outer s H E B hW hr =>
    ⟨_, (pss_cons (ps_set (i := 1) sc__law_widths.nd rfl (Or.inr rfl) (pe_op op_add pe_int (pe_call (ok__law_pick T) hr rfl T.g__law_pick T.F__law_pick.kp T.b__law_pick .nil passN (pa_cons (pv 0) (pa_cons pe_int pa_nil)))))
      (pss_cons (ps_set (i := 2) sc__law_widths.nd rfl (Or.inl rfl) (pe_op op_add pe_int (pe_call (ok__law_pick T) hr rfl T.g__law_pick T.F__law_pick.kp T.b__law_pick .nil passN (pa_cons (pv 0) (pa_cons (pe_ix ix_list (pe_lst (pa_cons pe_int (pa_cons pe_int (pa_cons pe_int pa_nil)))) (pe_call (ok__law_pick T) hr rfl T.g__law_pick T.F__law_pick.kp T.b__law_pick .nil passN (pa_cons (pv 0) (pa_cons pe_int pa_nil))) (fun _ _ => rfl)) pa_nil)))))
      (pss_one (ps_ret (pe_callTy call_tupleN (by rfl) T.z_tuple (by decide +kernel) (pa_cons (pe_lc (own := [("_law_k", 3)]) rfl sc__law_widths.nd (pi_range1 rfl T.z_range (pa_cons (pv 2) pa_nil)) (blkOk_by (N := N__law_widths) (sc := defScope s__law_widths) (by decide +kernel)) (fun _ _ _ _ _ => (pg_name (i := 3) sc__law_widths.nd rfl (Or.inl rfl))) (fun _ _ _ _ _ => pts_nil) (fun _ _ _ _ _ => (pe_op op_add pe_int (pe_call (ok__law_pick T) hr rfl T.g__law_pick T.F__law_pick.kp T.b__law_pick .nil passN (pa_cons (pv 0) (pa_cons (pv 1) pa_nil)))))) pa_nil)))))),
      (sSeq (sAsg (sOp roInt0 sInt (sCall (sCons sVar (sCons sInt sNil)))) sName)
      (sSeq (sAsg (sOp roInt0 sInt (sCall (sCons sVar (sCons (sOp roIxL (sLst (sCons sInt (sCons sInt (sCons sInt sNil)))) (sCall (sCons sVar (sCons sInt sNil)))) sNil)))) sName)
      (sRet (sCB rcTuple (sCons (sLc (siR1 sVar) (gwName List.mem_cons_self) (fun _ _ _ => sName) (fun _ _ _ => sYes) (fun _ _ _ => (sOp roInt0 sInt (sCall (sCons sVar (sCons sVar sNil)))))) sNil)))))⟩) (fun ds μ Φ Ψ h => ?hv)
  case hv =>
    obtain ⟨st, ns, c, rfl, hc, sc, h⟩ := h
    refine seq_cut fun M hM => ?_
    walk_at "wp"
    refine ⟨st, ns, c, 3, rfl, hc, sc, by decide, by decide, fun y c1 y0 y1 sc => ?_⟩
    walk_at "wp"
    obtain ⟨top, ht, t1, t2⟩ : ∃ top : Nat, (2 : Int) + y = (top : Int) ∧ 2 ≤ top ∧ top ≤ 4 := ⟨(2 + y).toNat, by omega, by omega, by omega⟩
    rw [ht, hM]; clear hM M
    refine seq_cut fun M hM => ?_
    walk_at "wp"
    refine ⟨by decide, st, ns, c1, 3, rfl, sset_same, sc, by decide, by decide, fun y c2 y0 y1 sc => ?_⟩
    rw [sset_sset]
    obtain ⟨n, hn, n1, n6⟩ : ∃ m : Nat, atI [D.int 2, D.int 3, D.int 6] y = some (.int m) ∧ 1 ≤ m ∧ m ≤ 6 := by
      obtain ⟨q, rfl⟩ : ∃ q : Nat, y = (q : Int) := ⟨y.toNat, by omega⟩
      rcases (show q = 0 ∨ q = 1 ∨ q = 2 by omega) with rfl | rfl | rfl
      · exact ⟨2, atI_nat (j := 0) rfl, by decide, by decide⟩
      · exact ⟨3, atI_nat (j := 1) rfl, by decide, by decide⟩
      · exact ⟨6, atI_nat (j := 2) rfl, by decide, by decide⟩
    walk_at "wp"
    refine ⟨_, hn, st, ns, c2, n, rfl, sset_same, sc, by omega, log_small (by omega), fun y c3 y0 y1 sc => ?_⟩
    rw [sset_sset]
    obtain ⟨m, hm, m1, m6⟩ : ∃ s : Nat, (1 : Int) + y = (s : Int) ∧ 1 ≤ s ∧ s ≤ 6 := ⟨(1 + y).toNat, by omega, by omega, by omega⟩
    walk_at "wp"
    rw [hm, hM]; clear hM M
    walk_at "wps"
    refine ⟨by omega, by omega, lcP (fun _ y => 1 ≤ y ∧ y ≤ 4) (by omega) sset_same sc (fun i μ2 X c7 hi hs7 sc7 hx7 => ?_) (fun l c7 hl hP sc => ?_)⟩
    · walk_at "wps"
      exact ⟨st, ns, c7, top, rfl, hs7, sc7, by omega, log_small (by omega), fun y c8 y0 y1 sc8 => by walk_at "wps"; exact hx7 (1 + y) c8 sc8 ⟨by omega, by omega⟩⟩
    · rw [sset_sset]
      exact ⟨_, .lst _, ret_same (h l c7 ⟨by omega, by omega, all_of_get hP⟩ sc)⟩
end
section
variable {P : Program} {w : World} {K : Fg} {mg : Str → Option Value} {base : Heap}
theorem nin_N {z : Nat} {l : List Nat} {y : D} {μ : Sto} {X : DK} (h : Items μ y (nI l) ∧ X (.bl (!l.contains z)) μ) : oIn true (.int (z : Int)) y μ X := by
  obtain ⟨hi, h⟩ := h
  refine ⟨_, hi, rfl, by rw [nI_ints]; exact flat_I _, ?_⟩
  have e : inD (.int (z : Int)) (nI l) = l.contains z := by
    rw [nI_ints, inD_I, Bool.eq_iff_iff, List.contains_iff_mem, List.contains_iff_mem, List.mem_map]
    exact ⟨fun ⟨q, hq, e⟩ => by obtain rfl : q = z := Int.ofNat.inj e; exact hq, fun q => ⟨z, q, rfl⟩⟩
  rw [if_pos rfl, e]
  exact h
theorem in_N {z : Nat} {l : List Nat} {y : D} {μ : Sto} {X : DK} (h : Items μ y (nI l) ∧ X (.bl (l.contains z)) μ) : oIn false (.int (z : Int)) y μ X := by
  obtain ⟨hi, h⟩ := h
  refine ⟨_, hi, rfl, by rw [nI_ints]; exact flat_I _, ?_⟩
  have e : inD (.int (z : Int)) (nI l) = l.contains z := by
    rw [nI_ints, inD_I, Bool.eq_iff_iff, List.contains_iff_mem, List.contains_iff_mem, List.mem_map]
    exact ⟨fun ⟨q, hq, e⟩ => by obtain rfl : q = z := Int.ofNat.inj e; exact hq, fun q => ⟨z, q, rfl⟩⟩
  rw [if_neg Bool.false_ne_true, e]
  exact h
theorem sset_idl {μ : Sto} {a : Addr} {c : Cell} (h : μ a = some c) : sset μ a c = μ := by
  funext b
  by_cases e : b = a
  · rw [e, sset_same, h]
  · rw [sset_ne e]
def c__law_look_places : Con := fun ds μ Φ _ => ∃ (st : Addr) (ns : List Int) (c : List D) (ws : List Int) (n m : Nat), ds = [.hd (.ref st), .tup (ws.map .int), .int (n : Int), .int (m : Int)] ∧ μ st = some (.lst c) ∧ StC ns c ∧ WsOk ws ∧ n ≤ 8 ∧ 4 ≤ m ∧ m ≤ 256 ∧
  ∀ (ps : List Nat) c', ps.Nodup → (∀ p ∈ ps, p < 100) → ps.length ≤ n → (∀ i, i ≤ ps.length → wpl ws (ps.take i) ≤ m) → (1 ≤ n → ps ≠ []) → StC ns c' → Φ (.lst (nI ps)) (sset μ st (.lst c'))
theorem len__law_look_places {ds μ Φ Ψ} (h : c__law_look_places ds μ Φ Ψ) : ds.length = 4 := by obtain ⟨_, _, _, _, _, _, rfl, _⟩ := h; rfl
theorem ok__law_look_places {cx : CXT} (T : Txt P w K mg) : FnOk P w K mg base cx 2 T.f__law_look_places T.d__law_look_places ["_law_state", "_law_widths_here", "_law_count", "_law_most"] (spOf K c__law_look_places) := by
  refine def_okC T.F__law_look_places sc__law_look_places _ (fun ds μ Φ Ψ h => len__law_look_places h) (fun cdv A outer s H E B hW hr =>
    ⟨_, (pss_cons (ps_set (i := 4) sc__law_look_places.nd rfl (Or.inl rfl) (pe_lst pa_nil))
      (pss_cons (ps_set (i := 5) sc__law_look_places.nd rfl (Or.inl rfl) pe_int)
      (pss_cons (ps_for (passes_of rfl) rfl (pi_range1 rfl T.z_range (pa_cons (pv 2) pa_nil)) (pg_name (i := 6) sc__law_look_places.nd rfl (Or.inl rfl)) (pss_cons (ps_set (i := 7) sc__law_look_places.nd rfl (Or.inl rfl) (pe_call (ok__law_pick T) hr rfl T.g__law_pick T.F__law_pick.kp T.b__law_pick .nil passN (pa_cons (pv 0) (pa_cons (pe_ix ix_list (pe_lst (pa_cons pe_int (pa_cons pe_int (pa_cons pe_int pa_nil)))) (pe_call (ok__law_pick T) hr rfl T.g__law_pick T.F__law_pick.kp T.b__law_pick .nil passN (pa_cons (pv 0) (pa_cons pe_int pa_nil))) (fun _ _ => rfl)) pa_nil))))
      (pss_one (ps_if (PW.pt (pw_and (pt_cmpR op_notIn_seq (pv 7) (pv 4) (by with_unfolding_all rfl)) (pw_and1 (pt_cmpR op_le (pe_op op_mulX (pv 5) (pe_call (ok__law_width T) hr rfl T.g__law_width T.F__law_width.kp T.b__law_width .nil passN (pa_cons (pv 1) (pa_cons (pv 7) pa_nil)))) (pv 3) (nomark _))))) (pss_cons (ps_expr (pe_bm PySem.F.plainAttrs_list PySem.F.slot_list_append PySem.F.type_list_append mt_append (pv 4) (pa_cons (pv 7) pa_nil)))
      (pss_one (ps_set (i := 5) sc__law_look_places.nd rfl (Or.inl rfl) (pe_op op_mulX (pv 5) (pe_call (ok__law_width T) hr rfl T.g__law_width T.F__law_width.kp T.b__law_width .nil passN (pa_cons (pv 1) (pa_cons (pv 7) pa_nil))))))) pss_nil))))
      (pss_one (ps_ret (pv 4)))))),
      (sSeq (sAsg (sOwn sNil) sName)
      (sSeq (sAsg sInt sName)
      (sSeq (sFor (siR1 sVar) (fun _ _ _ => sName) (fun _ _ _ => (sSeq (sAsg (sCall (sCons sVar (sCons (sOp roIxL (sLst (sCons sInt (sCons sInt (sCons sInt sNil)))) (sCall (sCons sVar (sCons sInt sNil)))) sNil))) sName)
      (sIfS (sAnd (sTest (sOp (roIn (neg := true)) sVar sVar)) (sTest (sOp roBl0 (sOp roInt sVar (sCall (sCons sVar (sCons sVar sNil)))) sVar))) (sSeq (sDrop (sApp sVar sVar))
      (sAsg (sOp roInt sVar (sCall (sCons sVar (sCons sVar sNil)))) sName)) sNext))))
      (sRet sRest))))⟩) (fun ds μ Φ Ψ h => ?hv)
  case hv =>
    obtain ⟨st, ns, c, ws, n, m, rfl, hc, sc, hw, hn, m1, m2, h⟩ := h
    refine seq_cut fun M hM => ?_
    walk_at "wp"
    refine ⟨by omega, fun p hp => ?_⟩
    have hps : p ≠ st := fun z => by rw [z, hc] at hp; cases hp
    rw [hM]; clear hM M
    walk_at "wps"
    refine ⟨by omega, by omega, fun i δ' μ' => ∃ (acc : List Nat) (c' : List D) (x y : Option D), δ' = [some (.hd (.ref st)), some (.tup (ws.map .int)), some (.int (n : Int)), some (.int (m : Int)), some (.hd (.ref p)), some (.int ((wpl ws acc : Nat) : Int)), x, y] ∧ μ' p = some (.lst (nI acc)) ∧ μ' st = some (.lst c') ∧ (∀ a, a ≠ p → a ≠ st → μ' a = μ a) ∧ StC ns c' ∧ acc.Nodup ∧ (∀ q ∈ acc, q < 100) ∧ acc.length ≤ i ∧ (∀ j, j ≤ acc.length → wpl ws (acc.take j) ≤ m) ∧ (1 ≤ i → acc ≠ []), ⟨[], c, none, none, rfl, sset_same, by rw [sset_ne hps.symm, hc], fun a a1 a2 => sset_ne a1, sc, List.nodup_nil, by simp, Nat.le_refl _, fun j hj => by rw [List.take_nil]; show 1 ≤ m; omega, fun z => by omega⟩, ?_, ?_⟩
    · rintro i d δ' μ' hi ⟨acc, c2, x, y, rfl, w1, w2, w3, w4, w5, w6, w7, w8, w9⟩
      obtain ⟨hj, rfl⟩ := rngD_get hi
      walk_at "wp"
      refine ⟨by decide, st, ns, c2, 3, rfl, w2, w4, by decide, by decide, fun y c3 y0 y1 sc => ?_⟩
      obtain ⟨l, hl, l1, l100⟩ : ∃ l : Nat, atI [D.int 4, D.int 9, D.int 100] y = some (.int l) ∧ 1 ≤ l ∧ l ≤ 100 := by
        obtain ⟨q, rfl⟩ : ∃ q : Nat, y = (q : Int) := ⟨y.toNat, by omega⟩
        rcases (show q = 0 ∨ q = 1 ∨ q = 2 by omega) with rfl | rfl | rfl
        · exact ⟨4, atI_nat (j := 0) rfl, by decide, by decide⟩
        · exact ⟨9, atI_nat (j := 1) rfl, by decide, by decide⟩
        · exact ⟨100, atI_nat (j := 2) rfl, by decide, by decide⟩
      walk_at "wp"
      refine ⟨_, hl, st, ns, c3, l, rfl, sset_same, sc, by omega, log_small (by omega), fun y c4 y0 y1 sc => ?_⟩
      rw [sset_sset]
      obtain ⟨pl, rfl⟩ : ∃ pl : Nat, y = (pl : Int) := ⟨y.toNat, by omega⟩
      have hw1 := hw.wd1 pl
      have hpr : wpl ws acc ≤ 256 := by have := w8 acc.length (Nat.le_refl _); rw [List.take_length] at this; omega
      have hp4 : (sset μ' st (.lst c4)) p = some (.lst (nI acc)) := by rw [sset_ne hps, w1]
      have stay : ∀ (a : Addr), a ≠ p → a ≠ st → (sset μ' st (.lst c4)) a = μ a := fun a a1 a2 => by rw [sset_ne a2, w3 a a1 a2]
      walk_at "wp"
      refine nin_N ⟨.own hp4, ?_⟩
      refine ⟨_, rfl, fun q => ?_, fun q => ?_⟩
      · have hnin : pl ∉ acc := by simpa using q
        refine ⟨ws, pl, rfl, hw, ?_⟩
        walk_at "wp"
        refine ⟨mulx 10 4 (by omega) (by omega) (by decide), fun q2 => ?_, fun q2 => ?_⟩
        · refine ⟨_, hp4, _, hp4, by rw [nI_len]; omega, ws, pl, rfl, hw, ?_⟩
          walk_at "wp"
          refine ⟨mulx 10 4 (by omega) (by omega) (by decide), acc ++ [pl], c4, _, _, by rw [wpl_snoc]; rfl, by unfold nI; rw [List.map_append]; rfl, by rw [sset_ne hps.symm, sset_same], fun a a1 a2 => by rw [sset_ne a1, stay a a1 a2], sc, ?_, ?_, by rw [List.length_append]; simp; omega, fun j hj => ?_, fun _ z => by simp at z⟩
          · exact List.nodup_append.mpr ⟨w5, by simp, fun a ha b hb => by rw [List.mem_singleton.mp hb]; exact fun e => hnin (e ▸ ha)⟩
          · intro q hq
            rcases List.mem_append.mp hq with z | z
            · exact w6 q z
            · rw [List.mem_singleton.mp z]; omega
          · rw [List.length_append, List.length_singleton] at hj
            by_cases z : j ≤ acc.length
            · rw [List.take_append_of_le_length z]; exact w8 j z
            · have e : j = (acc ++ [pl]).length := by rw [List.length_append, List.length_singleton]; omega
              rw [e, List.take_length, wpl_snoc]
              have : ((wpl ws acc * wd ws pl : Nat) : Int) ≤ (m : Int) := by rw [Int.natCast_mul]; exact q2
              omega
        · refine ⟨acc, c4, _, _, rfl, hp4, rfl, stay, sc, w5, w6, by omega, w8, fun _ z => ?_⟩
          subst z
          apply q2
          show ((1 : Nat) : Int) * (wd ws pl : Int) ≤ (m : Int)
          omega
      · have hin : pl ∈ acc := by simpa using q
        exact ⟨acc, c4, _, _, rfl, hp4, sset_same, stay, sc, w5, w6, by omega, w8, fun _ z => by rw [z] at hin; cases hin⟩
    · rintro δ' μ' ⟨acc, c2, x, y, rfl, w1, w2, w3, w4, w5, w6, w7, w8, w9⟩
      walk_at "wps"
      refine ⟨nI acc, w1, sset μ st (.lst c2), fun a x e => ?_, h acc c2 w5 w6 w7 w8 w9 w4⟩
      by_cases as : a = st
      · subst as
        rw [sset_same] at e
        cases e
        rw [sset_ne hps.symm, w2]
      · rw [sset_ne as] at e
        have ap : a ≠ p := fun z => by rw [z, hp] at e; cases e
        rw [sset_ne ap, w3 a ap as, e]
/-- how many looks a term of so many levels has at most -/
def lkN : Nat → Nat
  | 0 => 0
  | n + 1 => 1 + 4 * lkN n
def c__law_query_term (n : Nat) : Con := fun ds μ Φ _ => ∃ (st : Addr) (ns : List Int) (c : List D) (ws : List Int) (oc lv : Nat) (ps : List Nat), ds = [.hd (.ref st), .lst [.tup (ws.map .int), .int (oc : Int)], .lst (nI ps), .int (lv : Int)] ∧ μ st = some (.lst c) ∧ StC ns c ∧ WsOk ws ∧ 1 ≤ oc ∧ oc ≤ 4 ∧ ps ≠ [] ∧ ps.length ≤ 8 ∧ (∀ p ∈ ps, p < 100) ∧ lv < n ∧ lv ≤ 20 ∧
  ∀ t c', QOk ws oc t → qDep t ≤ lv → (∀ q ∈ qPl t, q ∈ ps) → (qPl t).length ≤ lkN lv → StC ns c' → Φ (qD t) (sset μ st (.lst c'))
theorem len__law_query_term {n ds μ Φ Ψ} (h : c__law_query_term n ds μ Φ Ψ) : ds.length = 4 := by obtain ⟨_, _, _, _, _, _, _, rfl, _⟩ := h; rfl
theorem step__law_query_term (T : Txt P w K mg) {k : Nat} (hk : 2 ≤ k) (n : Nat) (ih__law_query_term : FnOk P w K mg base (L2N.CX P w) k T.f__law_query_term T.d__law_query_term ["_law_state", "_law_size", "_law_places", "_law_levels"] (spOf K (c__law_query_term n))) : FnOk P w K mg base (L2N.CX P w) (k + 1) T.f__law_query_term T.d__law_query_term ["_law_state", "_law_size", "_law_places", "_law_levels"] (spOf K (c__law_query_term (n + 1))) := by
  refine def_okC T.F__law_query_term sc__law_query_term _ (fun ds μ Φ Ψ h => len__law_query_term h) (fun cdv A outer s H E B hW hr =>
    have tk : L2N.Takes (cxOf (L2N.CX P w) P w K mg base N__law_query_term "_law_query_term" (defScope s__law_query_term) T.f__law_query_term cdv A outer s H E) (fun cls d _ H => E cls d H) := L2N.takes_of rfl rfl rfl rfl
    ⟨_, (pss_cons (ps_if (PW.pt (pw_or (pt_cmpR op_eq (pv 3) pe_int (nomark _)) (pw_or1 (pt_cmpR op_eq (pe_call (ok__law_pick T) (hr.mono (by omega)) rfl T.g__law_pick T.F__law_pick.kp T.b__law_pick .nil passN (pa_cons (pv 0) (pa_cons pe_int pa_nil))) pe_int (nomark _))))) (pss_one (ps_ret (pe_tupN (pa_cons pe_str (pa_cons (pe_call (ok__law_pick T) (hr.mono (by omega)) rfl T.g__law_pick T.F__law_pick.kp T.b__law_pick .nil passN (pa_cons (pv 0) (pa_cons (pe_ix ix_list (pv 1) pe_int (fun _ _ => rfl)) pa_nil))) pa_nil))))) pss_nil)
      (pss_cons (ps_set (i := 4) sc__law_query_term.nd rfl (Or.inl rfl) (pe_ix ix_list (pv 2) (pe_call (ok__law_pick T) (hr.mono (by omega)) rfl T.g__law_pick T.F__law_pick.kp T.b__law_pick .nil passN (pa_cons (pv 0) (pa_cons (pe_callB call_len_seq (by rfl) T.z_len PySem.boot_len (pa_cons (pv 2) pa_nil)) pa_nil))) (fun _ _ => rfl)))
      (pss_cons (ps_set (i := 5) sc__law_query_term.nd rfl (Or.inl rfl) (pe_call (ok__law_width T) (hr.mono (by omega)) rfl T.g__law_width T.F__law_width.kp T.b__law_width .nil passN (pa_cons (pe_ix ix_list (pv 1) pe_int (fun _ _ => rfl)) (pa_cons (pv 4) pa_nil))))
      (pss_one (ps_ret (pe_op op_catN (pe_tupN (pa_cons pe_str (pa_cons (pv 4) pa_nil))) (pe_callTy call_tupleN (by rfl) T.z_tuple (by decide +kernel) (pa_cons (pe_lc (own := [("_law_x", 6)]) rfl sc__law_query_term.nd (pi_range1 rfl T.z_range (pa_cons (pv 5) pa_nil)) (blkOk_by (N := N__law_query_term) (sc := defScope s__law_query_term) (by decide +kernel)) (fun _ _ _ _ _ => (pg_name (i := 6) sc__law_query_term.nd rfl (Or.inl rfl))) (fun _ _ _ _ _ => pts_nil) (fun _ _ _ _ _ => (pe_call ih__law_query_term hr rfl T.g__law_query_term T.F__law_query_term.kp T.b__law_query_term .nil passN (pa_cons (pv 0) (pa_cons (pv 1) (pa_cons (pv 2) (pa_cons (pe_op op_sub (pv 3) pe_int) pa_nil))))))) pa_nil)))))))),
      (sSeq (sIfS (sOr (sTest (sOp roEq sVar sInt)) (sTest (sOp roEq (sCall (sCons sVar (sCons sInt sNil))) sInt))) (sRet (sTup (sCons sStr (sCons (sCall (sCons sVar (sCons (sOp roIxL sVar sInt) sNil))) sNil)))) sNext)
      (sSeq (sAsg (sOp roIxL sVar (sCall (sCons sVar (sCons (sCB rcLen (sCons sVar sNil)) sNil)))) sName)
      (sSeq (sAsg (sCall (sCons (sOp roIxL sVar sInt) (sCons sVar sNil))) sName)
      (sRet (sOp roCatT (sTup (sCons sStr (sCons sVar sNil))) (sCB rcTuple (sCons (sLc (siR1 sVar) (gwName List.mem_cons_self) (fun _ _ _ => sName) (fun _ _ _ => sYes) (fun _ _ _ => (sCall (sCons sVar (sCons sVar (sCons sVar (sCons (sOp roInt0 sVar sInt) sNil))))))) sNil)))))))⟩) (fun ds μ Φ Ψ h => ?hv)
  case hv =>
    obtain ⟨st, ns, c, ws, oc, lv, ps, rfl, hc, sc, hw, o1, o4, hne, h8, h100, hn, h20, h⟩ := h
    have hpl : 0 < ps.length := List.length_pos_iff.mpr hne
    have tell : ∀ (μ1 : Sto) (c1 : List D), (∀ c2, sset μ1 st (.lst c2) = sset μ st (.lst c2)) → μ1 st = some (.lst c1) → StC ns c1 → c__law_pick [.hd (.ref st), .int (oc : Int)] μ1 (fun y μ' => 2 ≤ 100000 ∧ ∃ μ2, DW.Sub μ2 μ' ∧ Φ (.tup [.str "tell", y]) μ2) fun _ _ => False := fun μ1 c1 hm hs sc => by
      refine ⟨st, ns, c1, oc, rfl, hs, sc, by omega, log_small (by omega), fun y c2 y0 y1 sc => ⟨by omega, ?_⟩⟩
      rw [hm]
      obtain ⟨o, rfl⟩ : ∃ o : Nat, y = (o : Int) := ⟨y.toNat, by omega⟩
      exact ret_same (h (.tell o) c2 (show o < oc by omega) (Nat.zero_le _) (fun q z => by simp [qPl] at z) (Nat.zero_le _) sc)
    refine seq_cut fun M hM => ?_
    walk_at "wp"
    refine ⟨fun _ => tell μ c (fun _ => rfl) hc sc, fun q => ⟨st, ns, c, 5, rfl, hc, sc, by decide, by decide, fun y c1 y0 y1 sc => ?_⟩⟩
    walk_at "wp"
    refine ⟨fun _ => tell _ c1 (fun _ => sset_sset) sset_same sc, fun _ => ?_⟩
    obtain ⟨lw, rfl⟩ : ∃ lw : Nat, lv = lw + 1 := ⟨lv - 1, by omega⟩
    rw [hM]; clear hM M tell
    refine seq_cut fun M hM => ?_
    walk_at "wp"
    refine ⟨st, ns, c1, ps.length, by rw [nI_len], sset_same, sc, by omega, log_small (by omega), fun y c2 y0 y1 sc => ?_⟩
    rw [sset_sset]
    obtain ⟨i, rfl⟩ : ∃ i : Nat, y = (i : Int) := ⟨y.toNat, by omega⟩
    have hi : i < ps.length := by omega
    have hw1 := hw.wd1 ps[i]
    have hp100 := h100 _ (List.getElem_mem hi)
    walk_at "wp"
    refine ⟨_, atI_nat (v := .int ((ps[i] : Nat) : Int)) (by unfold nI; rw [List.getElem?_map, List.getElem?_eq_getElem hi]; rfl), ?_⟩
    generalize hpi : ps[i] = p at *
    rw [hM]; clear hM M
    refine seq_cut fun M hM => ?_
    walk_at "wp"
    refine ⟨ws, p, rfl, hw, ?_⟩
    rw [hM]; clear hM M
    walk_at "wps"
    refine ⟨by omega, by omega, by omega, lcG_drawN (StC ns) (fun i acc => ∃ ts : List QT, acc = qDs ts ∧ ts.length = i ∧ (∀ t ∈ ts, QOk ws oc t ∧ qDep t ≤ lw ∧ (∀ q ∈ qPl t, q ∈ ps) ∧ (qPl t).length ≤ lkN lw)) (by rw [rngD_len]; omega) sset_same sc ⟨[], rfl, rfl, by simp⟩ (fun i d μ2 X acc c3 hi hs2 sc ⟨ts, e, hl, hT⟩ hla hx => ?_) (fun acc c3 ⟨ts, e, hl, hT⟩ hla sc => ?_)⟩
    · obtain ⟨hj, rfl⟩ := rngD_get hi
      walk_at "wps"
      refine ⟨st, ns, c3, ws, oc, lw, ps, by rw [show ((lw + 1 : Nat) : Int) - 1 = (lw : Int) by omega], hs2, sc, hw, o1, o4, hne, h8, h100, by omega, by omega, fun t c4 a b cc dd sc4 => hx _ c4 sc4 ⟨ts ++ [t], by rw [e, qDs_map, qDs_map, List.map_append]; rfl, by rw [List.length_append, hl]; rfl, fun s hs => ?_⟩⟩
      rcases List.mem_append.mp hs with z | z
      · exact hT s z
      · rw [List.mem_singleton.mp z]; exact ⟨a, b, cc, dd⟩
    · rw [rngD_len] at hl
      rw [sset_sset, e]
      have b1 := qpls_bound (k := lkN lw + 1) ts fun t ht => by have := (hT t ht).2.2.2; omega
      have b2 := qdeps_bound (k := lw) ts fun t ht => (hT t ht).2.1
      have b3 : ts.length * lkN lw ≤ 4 * lkN lw := Nat.mul_le_mul_right _ (by omega)
      rw [Nat.mul_add, Nat.mul_one] at b1
      refine ⟨_, .lst _, by rw [qDs_len]; omega, ret_same (h (.look p ts) c3 ⟨hp100, hl, qoks_iff.mpr fun t ht => (hT t ht).1⟩ (by rw [qDep]; omega) (fun q hq => ?_) (by rw [qPl, List.length_cons, lkN]; omega) sc)⟩
      rw [qPl] at hq
      rcases List.mem_cons.mp hq with z | z
      · rw [z, ← hpi]; exact List.getElem_mem _
      · obtain ⟨t, ht, hq2⟩ := qpls_mem.mp z
        exact (hT t ht).2.2.1 q hq2
end
section
variable {P : Program} {w : World} {K : Fg} {mg : Str → Option Value} {base : Heap}
theorem perm_erase : ∀ (l : List Nat) (q : Nat) (h : q < l.length), (l[q] :: l.eraseIdx q).Perm l
  | x :: l, 0, _ => List.Perm.refl _
  | x :: l, q + 1, h => by
    rw [List.eraseIdx_cons_succ, List.getElem_cons_succ]
    exact (List.Perm.swap _ _ _).trans ((perm_erase l q (by simpa using h)).cons x)
theorem nI_erase (l : List Nat) (q : Nat) : (nI l).eraseIdx q = nI (l.eraseIdx q) := by
  unfold nI
  rw [List.eraseIdx_eq_take_drop_succ, List.eraseIdx_eq_take_drop_succ, List.map_append, List.map_take, List.map_drop]
def c__law_shuffled : Con := fun ds μ Φ _ => ∃ (st : Addr) (ns : List Int) (c : List D) (ps : List Nat), ds = [.hd (.ref st), .lst (nI ps)] ∧ μ st = some (.lst c) ∧ StC ns c ∧ ps.length ≤ 8 ∧ ∀ qs c', qs.Perm ps → StC ns c' → Φ (.lst (nI qs)) (sset μ st (.lst c'))
theorem len__law_shuffled {ds μ Φ Ψ} (h : c__law_shuffled ds μ Φ Ψ) : ds.length = 2 := by obtain ⟨_, _, _, _, rfl, _⟩ := h; rfl
theorem ok__law_shuffled {cx : CXT} (T : Txt P w K mg) : FnOk P w K mg base cx 2 T.f__law_shuffled T.d__law_shuffled ["_law_state", "_law_places"] (spOf K c__law_shuffled) := by
  refine def_okC T.F__law_shuffled sc__law_shuffled _ (fun ds μ Φ Ψ h => len__law_shuffled h) (fun cdv A outer s H E B hW hr =>
    ⟨_, (pss_cons (ps_set (i := 2) sc__law_shuffled.nd rfl (Or.inr rfl) (pe_callTy call_list_of (by rfl) T.z_list (by decide +kernel) (pa_cons (pv 1) pa_nil)))
      (pss_one (ps_ret (pe_lc (own := [("_law_k", 3)]) rfl sc__law_shuffled.nd (pi_range1 rfl T.z_range (pa_cons (pe_callB call_len_seq (by rfl) T.z_len PySem.boot_len (pa_cons (pv 1) pa_nil)) pa_nil)) (blkOk_by (N := N__law_shuffled) (sc := defScope s__law_shuffled) (by decide +kernel)) (fun _ _ _ _ _ => (pg_name (i := 3) sc__law_shuffled.nd rfl (Or.inl rfl))) (fun _ _ _ _ _ => pts_nil) (fun _ _ _ _ _ => (pe_bm PySem.F.plainAttrs_list PySem.F.slot_list_pop PySem.F.type_list_pop mt_popAt (pv 2) (by exact pa_cons (pe_call (ok__law_pick T) hr rfl T.g__law_pick T.F__law_pick.kp T.b__law_pick .nil passN (pa_cons (pv 0) (pa_cons (pe_callB call_len_seq (by rfl) T.z_len PySem.boot_len (pa_cons (pv 2) pa_nil)) pa_nil))) pa_nil))))))),
      (sSeq (sAsg (sCB rcListOwn (sCons sVar sNil)) sName)
      (sRet (sLc (siR1 (sCB rcLen (sCons sVar sNil))) (gwName List.mem_cons_self) (fun _ _ _ => sName) (fun _ _ _ => sYes) (fun _ _ _ => (sPopAt sVar (sCall (sCons sVar (sCons (sCB rcLen (sCons sVar sNil)) sNil))))))))⟩) (fun ds μ Φ Ψ h => ?hv)
  case hv =>
    obtain ⟨st, ns, c, ps, rfl, hc, sc, hl, h⟩ := h
    refine seq_cut fun M hM => ?_
    walk_at "wp"
    intro p hp
    have hps : p ≠ st := fun z => by rw [z, hc] at hp; cases hp
    rw [hM]; clear hM M
    walk_at "wps"
    rw [nI_len]
    refine ⟨by omega, by omega, fun p0 hp0 => ?_⟩
    have h0p : p0 ≠ p := fun z => by rw [z, sset_same] at hp0; cases hp0
    have hp0' : μ p0 = none := by rw [sset_ne h0p] at hp0; exact hp0
    have h0s : p0 ≠ st := fun z => by rw [z, hc] at hp0'; cases hp0'
    refine ⟨fun i μ' => ∃ (acc rest : List Nat) (c' : List D), μ' p0 = some (.lst (nI acc)) ∧ μ' p = some (.lst (nI rest)) ∧ μ' st = some (.lst c') ∧ (∀ a, a ≠ p0 → a ≠ p → a ≠ st → μ' a = μ a) ∧ StC ns c' ∧ (acc ++ rest).Perm ps ∧ acc.length = i, ⟨[], ps, c, sset_same, by rw [sset_ne h0p.symm, sset_same], by rw [sset_ne h0s.symm, sset_ne hps.symm, hc], fun a a1 a2 a3 => by rw [sset_ne a1, sset_ne a2], sc, List.Perm.refl _, rfl⟩, ?_, ?_⟩
    · rintro i d μ2 hi ⟨acc, rest, c2, w1, w2, w3, w4, w5, w6, w7⟩
      obtain ⟨hj, rfl⟩ := rngD_get hi
      have hlen := w6.length_eq
      rw [List.length_append] at hlen
      refine ⟨fun _ => ?_, fun z => nomatch z⟩
      walk_at "wps"
      refine ⟨_, w2, .inl ⟨_, w2, st, ns, c2, rest.length, by rw [nI_len], w3, w5, by omega, log_small (by omega), fun y c3 y0 y1 sc3 => ?_⟩⟩
      obtain ⟨q, rfl⟩ : ∃ q : Nat, y = (q : Int) := ⟨y.toNat, by omega⟩
      have hq : q < rest.length := by omega
      have g : (nI rest)[q]? = some (.int ((rest[q] : Nat) : Int)) := by unfold nI; rw [List.getElem?_map, List.getElem?_eq_getElem hq]; rfl
      refine ⟨nI rest, by rw [sset_ne hps, w2], by rw [nI_len]; omega, q, _, rfl, g, nI acc, by rw [sset_ne h0p, sset_ne h0s, w1], by rw [nI_len]; omega, acc ++ [rest[q]], rest.eraseIdx q, c3, ?_, ?_, ?_, fun a a1 a2 a3 => by rw [sset_ne a1, sset_ne a2, sset_ne a3, w4 a a1 a2 a3], sc3, ?_, by rw [List.length_append, w7]; rfl⟩
      · unfold nI; rw [List.map_append]; rfl
      · rw [sset_ne h0p.symm, sset_same, nI_erase]
      · rw [sset_ne h0s.symm, sset_ne hps.symm, sset_same]
      · rw [List.append_assoc]
        exact ((perm_erase rest q hq).append_left acc).trans w6
    · rintro μ2 ⟨acc, rest, c2, w1, w2, w3, w4, w5, w6, w7⟩
      rw [rngD_len] at w7
      have hlen := w6.length_eq
      rw [List.length_append] at hlen
      obtain rfl : rest = [] := List.eq_nil_of_length_eq_zero (by omega)
      rw [List.append_nil] at w6
      refine ⟨_, w1, sset μ st (.lst c2), fun a x e => ?_, h acc c2 w6 w5⟩
      by_cases as : a = st
      · subst as
        rw [sset_same] at e
        cases e
        unfold sdel
        rw [if_neg h0s.symm, w3]
      · rw [sset_ne as] at e
        have a0 : a ≠ p0 := fun z => by rw [z, hp0'] at e; cases e
        have ap : a ≠ p := fun z => by rw [z, hp] at e; cases e
        unfold sdel
        rw [if_neg a0, w4 a a0 ap as, e]
/-- how many looks a tree over these places has at most -/
def lkO (ws : List Int) : List Nat → Nat
  | [] => 0
  | p :: ps => 1 + wd ws p * lkO ws ps
def c__law_full_query (n : Nat) : Con := fun ds μ Φ _ => ∃ (st : Addr) (ns : List Int) (c : List D) (ws : List Int) (oc : Nat) (ps ms : List Nat) (tot : Int), ds = [.hd (.ref st), .lst [.tup (ws.map .int), .int (oc : Int)], .lst (nI ps), .lst (nI ms), .int tot] ∧ μ st = some (.lst c) ∧ StC ns c ∧ WsOk ws ∧ 1 ≤ oc ∧ oc ≤ 4 ∧ ps.length ≤ 8 ∧ ms.length ≤ 8 ∧ (∀ p ∈ ps, p < 100) ∧ ps.length < n ∧
  ∀ t c', QOk ws oc t → qDep t ≤ ps.length → (∀ q ∈ qPl t, q ∈ ps) → (qPl t).length ≤ lkO ws ps → StC ns c' → Φ (qD t) (sset μ st (.lst c'))
theorem len__law_full_query {n ds μ Φ Ψ} (h : c__law_full_query n ds μ Φ Ψ) : ds.length = 5 := by obtain ⟨_, _, _, _, _, _, _, _, rfl, _⟩ := h; rfl
theorem step__law_full_query (T : Txt P w K mg) {k : Nat} (hk : 2 ≤ k) (n : Nat) (ih__law_full_query : FnOk P w K mg base (L2N.CX P w) k T.f__law_full_query T.d__law_full_query ["_law_state", "_law_size", "_law_order", "_law_marked", "_law_total"] (spOf K (c__law_full_query n))) : FnOk P w K mg base (L2N.CX P w) (k + 1) T.f__law_full_query T.d__law_full_query ["_law_state", "_law_size", "_law_order", "_law_marked", "_law_total"] (spOf K (c__law_full_query (n + 1))) := by
  refine def_okC T.F__law_full_query sc__law_full_query _ (fun ds μ Φ Ψ h => len__law_full_query h) (fun cdv A outer s H E B hW hr =>
    have tk : L2N.Takes (cxOf (L2N.CX P w) P w K mg base N__law_full_query "_law_full_query" (defScope s__law_full_query) T.f__law_full_query cdv A outer s H E) (fun cls d _ H => E cls d H) := L2N.takes_of rfl rfl rfl rfl
    ⟨_, (pss_cons (ps_if (pt_cmpR op_eq (pe_callB call_len_seq (by rfl) T.z_len PySem.boot_len (pa_cons (pv 2) pa_nil)) pe_int (nomark _)) (pss_cons (ps_if (pt_cmpR op_eq (pe_callB call_len_seq (by rfl) T.z_len PySem.boot_len (pa_cons (pv 3) pa_nil)) pe_int (nomark _)) (pss_one (ps_ret (pe_tupN (pa_cons pe_str (pa_cons (pe_call (ok__law_pick T) (hr.mono (by omega)) rfl T.g__law_pick T.F__law_pick.kp T.b__law_pick .nil passN (pa_cons (pv 0) (pa_cons (pe_ix ix_list (pv 1) pe_int (fun _ _ => rfl)) pa_nil))) pa_nil))))) pss_nil)
      (pss_one (ps_ret (pe_tupN (pa_cons pe_str (pa_cons (pe_op op_mod (pe_callTy call_int1 (by rfl) T.z_int (by decide +kernel) (pa_cons (pv 4) pa_nil)) (pe_ix ix_list (pv 1) pe_int (fun _ _ => rfl))) pa_nil)))))) pss_nil)
      (pss_cons (ps_set (i := 5) sc__law_full_query.nd rfl (Or.inl rfl) (pe_ix ix_list (pv 2) pe_int (fun _ _ => rfl)))
      (pss_cons (ps_set (i := 6) sc__law_full_query.nd rfl (Or.inl rfl) (pe_lst pa_nil))
      (pss_cons (ps_for (passes_of rfl) rfl (pi_range1 rfl T.z_range (pa_cons (pe_call (ok__law_width T) (hr.mono (by omega)) rfl T.g__law_width T.F__law_width.kp T.b__law_width .nil passN (pa_cons (pe_ix ix_list (pv 1) pe_int (fun _ _ => rfl)) (pa_cons (pv 5) pa_nil))) pa_nil)) (pg_name (i := 7) sc__law_full_query.nd rfl (Or.inl rfl)) (pss_cons (ps_set (i := 8) sc__law_full_query.nd rfl (Or.inl rfl) (pv 4))
      (pss_cons (ps_if (pt_cmpR op_in_seq (pv 5) (pv 3) (by with_unfolding_all rfl)) (pss_one (ps_set (i := 8) sc__law_full_query.nd rfl (Or.inl rfl) (pe_op op_add (pv 4) (pv 7)))) pss_nil)
      (pss_one (ps_expr (pe_bm PySem.F.plainAttrs_list PySem.F.slot_list_append PySem.F.type_list_append mt_append (pv 6) (pa_cons (pe_call ih__law_full_query hr rfl T.g__law_full_query T.F__law_full_query.kp T.b__law_full_query .nil passN (pa_cons (pv 0) (pa_cons (pv 1) (pa_cons (pe_slice sl_list (pv 2) (po_some pe_int) po_none) (pa_cons (pv 3) (pa_cons (pv 8) pa_nil)))))) pa_nil)))))))
      (pss_one (ps_ret (pe_op op_catN (pe_tupN (pa_cons pe_str (pa_cons (pv 5) pa_nil))) (pe_callTy call_tupleN (by rfl) T.z_tuple (by decide +kernel) (pa_cons (pv 6) pa_nil))))))))),
      (sSeq (sIfS (sTest (sOp roEq (sCB rcLen (sCons sVar sNil)) sInt)) (sSeq (sIfS (sTest (sOp roEq (sCB rcLen (sCons sVar sNil)) sInt)) (sRet (sTup (sCons sStr (sCons (sCall (sCons sVar (sCons (sOp roIxL sVar sInt) sNil))) sNil)))) sNext)
      (sRet (sTup (sCons sStr (sCons (sOp roInt (sCB rcInt (sCons sVar sNil)) (sOp roIxL sVar sInt)) sNil))))) sNext)
      (sSeq (sAsg (sOp roIxL sVar sInt) sName)
      (sSeq (sAsg (sOwn sNil) sName)
      (sSeq (sFor (siR1 (sCall (sCons (sOp roIxL sVar sInt) (sCons sVar sNil)))) (fun _ _ _ => sName) (fun _ _ _ => (sSeq (sAsg sVar sName)
      (sSeq (sIfS (sTest (sOp (roIn (neg := false)) sVar sVar)) (sAsg (sOp roInt0 sVar sVar) sName) sNext)
      (sDrop (sApp sVar (sCall (sCons sVar (sCons sVar (sCons (sSlL sVar (sPart sInt) sNoPart) (sCons sVar (sCons sVar sNil))))))))))))
      (sRet (sOp roCatT (sTup (sCons sStr (sCons sVar sNil))) (sCB rcTuple (sCons sVar sNil))))))))⟩) (fun ds μ Φ Ψ h => ?hv)
  case hv =>
    obtain ⟨st, ns, c, ws, oc, ps, ms, tot, rfl, hc, sc, hw, o1, o4, h8, hm8, h100, hn, h⟩ := h
    refine seq_cut fun M hM => ?_
    walk_at "wp"
    rw [nI_len]
    refine ⟨fun q => ?_, fun q => ?_⟩
    · have tell : ∀ (o : Nat) c2, o < oc → StC ns c2 → Φ (.tup [.str "tell", .int (o : Int)]) (sset μ st (.lst c2)) := fun o c2 ho sc => h (.tell o) c2 ho (Nat.zero_le _) (fun q z => by simp [qPl] at z) (Nat.zero_le _) sc
      refine seq_cut fun N hN => ?_
      walk_at "wp"
      refine ⟨fun _ => ⟨st, ns, c, oc, rfl, hc, sc, by omega, log_small (by omega), fun y c2 y0 y1 sc => ⟨by omega, ?_⟩⟩, fun _ => ?_⟩
      · obtain ⟨o, rfl⟩ : ∃ o : Nat, y = (o : Int) := ⟨y.toNat, by omega⟩
        exact ret_same (tell o c2 (by omega) sc)
      · rw [hN]; clear hN N
        walk_at "wp"
        have z0 := Int.emod_nonneg tot (show (oc : Int) ≠ 0 by omega)
        have z1 := Int.emod_lt_of_pos tot (show (0 : Int) < (oc : Int) by omega)
        obtain ⟨o, ho⟩ : ∃ o : Nat, tot % (oc : Int) = (o : Int) := ⟨_, (Int.toNat_of_nonneg z0).symm⟩
        rw [ho]
        have t2 := tell o c (by omega) sc
        rw [sset_idl hc] at t2
        exact ⟨by omega, by omega, ret_same t2⟩
    · obtain ⟨p, qs, rfl⟩ : ∃ p qs, ps = p :: qs := by
        cases ps with
        | nil => exact absurd rfl q
        | cons p qs => exact ⟨p, qs, rfl⟩
      have hw1 := hw.wd1 p
      have hp100 := h100 p List.mem_cons_self
      rw [hM]; clear hM M
      refine seq_cut fun M hM => ?_
      walk_at "wp"
      refine ⟨_, atI_nat (j := 0) (v := .int (p : Int)) rfl, ?_⟩
      rw [hM]; clear hM M
      refine seq_cut fun M hM => ?_
      walk_at "wp"
      refine ⟨by omega, fun b hb => ?_⟩
      have hbs : b ≠ st := fun z => by rw [z, hc] at hb; cases hb
      rw [hM]; clear hM M
      refine seq_cut fun M hM => ?_
      walk_at "wp"
      refine ⟨ws, p, rfl, hw, _, rfl, by omega, by omega, ?_⟩
      rw [show ((wd ws p : Nat) : Int).toNat = wd ws p by omega]
      refine ⟨fun i δ' μ' => ∃ (ts : List QT) (c' : List D) (x y : Option D), δ' = [some (.hd (.ref st)), some (.lst [.tup (ws.map .int), .int (oc : Int)]), some (.lst (nI (p :: qs))), some (.lst (nI ms)), some (.int tot), some (.int (p : Int)), some (.hd (.ref b)), x, y] ∧ μ' b = some (.lst (qDs ts)) ∧ μ' st = some (.lst c') ∧ (∀ a, a ≠ b → a ≠ st → μ' a = μ a) ∧ StC ns c' ∧ ts.length = i ∧ ∀ t ∈ ts, QOk ws oc t ∧ qDep t ≤ qs.length ∧ (∀ q ∈ qPl t, q ∈ qs) ∧ (qPl t).length ≤ lkO ws qs, ⟨[], c, none, none, rfl, sset_same, by rw [sset_ne hbs.symm, hc], fun a a1 a2 => sset_ne a1, sc, rfl, by simp⟩, ?_, ?_⟩
      · rintro i d δ' μ' hi ⟨ts, c2, x, y, rfl, w1, w2, w3, w4, w5, w6⟩
        obtain ⟨hj, rfl⟩ := rngD_get hi
        refine seq_cut fun N hN => ?_
        walk_at "wp"
        rw [hN]; clear hN N
        refine seq_cut fun N hN => ?_
        have fin : ∀ more : Int, N [some (.hd (.ref st)), some (.lst [.tup (ws.map .int), .int (oc : Int)]), some (.lst (nI (p :: qs))), some (.lst (nI ms)), some (.int tot), some (.int (p : Int)), some (.hd (.ref b)), some (.int (i : Int)), some (.int more)] μ' := fun more => by
          rw [hN]; clear hN N
          walk_at "wp"
          have ec : DW.cutD (nI (p :: qs)) (some 1) none = nI qs := by rw [show (1 : Int) = ((1 : Nat) : Int) from rfl, cut_from]; rfl
          rw [ec]
          refine ⟨_, w1, st, ns, c2, ws, oc, qs, ms, more, rfl, w2, w4, hw, o1, o4, by rw [List.length_cons] at h8; omega, hm8, fun q hq => h100 q (List.mem_cons_of_mem _ hq), by rw [List.length_cons] at hn; omega, fun t c3 a1 a2 a3 a4 sc3 => ?_⟩
          have hb3 : (sset μ' st (.lst c3)) b = some (.lst (qDs ts)) := by rw [sset_ne hbs, w1]
          refine ⟨_, hb3, by rw [qDs_len]; omega, ts ++ [t], c3, _, _, rfl, ?_, by rw [sset_ne hbs.symm, sset_same], fun a b1 b2 => by rw [sset_ne b1, sset_ne b2, w3 a b1 b2], sc3, by rw [List.length_append, w5]; rfl, fun s hs => ?_⟩
          · rw [qDs_map, qDs_map, List.map_append]; rfl
          · rcases List.mem_append.mp hs with z | z
            · exact w6 s z
            · rw [List.mem_singleton.mp z]; exact ⟨a1, a2, a3, a4⟩
        walk_at "wp"
        refine in_N ⟨.lst _, ?_⟩
        refine ⟨_, rfl, fun _ => ?_, fun _ => ?_⟩
        · walk_at "wp"
          exact fin _
        · exact fin _
      · rintro δ' μ' ⟨ts, c2, x, y, rfl, w1, w2, w3, w4, w5, w6⟩
        have b1 := qpls_bound (k := lkO ws qs + 1) ts fun t ht => by have := (w6 t ht).2.2.2; omega
        have b2 := qdeps_bound (k := qs.length) ts fun t ht => (w6 t ht).2.1
        rw [Nat.mul_add, Nat.mul_one, w5] at b1
        rw [hM]; clear hM M
        walk_at "wp"
        refine ⟨by omega, .inl ⟨_, w1, by rw [qDs_len]; omega, sset μ st (.lst c2), fun a x e => ?_, h (.look p ts) c2 ⟨hp100, w5, qoks_iff.mpr fun t ht => (w6 t ht).1⟩ (by rw [qDep, List.length_cons]; omega) (fun q hq => ?_) (by rw [qPl, List.length_cons, lkO]; omega) w4⟩⟩
        · by_cases as : a = st
          · subst as
            rw [sset_same] at e
            cases e
            exact w2
          · rw [sset_ne as] at e
            have ap : a ≠ b := fun z => by rw [z, hb] at e; cases e
            rw [w3 a ap as, e]
        · rw [qPl] at hq
          rcases List.mem_cons.mp hq with z | z
          · rw [z]; exact List.mem_cons_self
          · obtain ⟨t, ht, hq2⟩ := qpls_mem.mp z
            exact List.mem_cons_of_mem _ ((w6 t ht).2.2.1 q hq2)
def headsD (hs : List (List Nat)) : List D := hs.map fun l => .lst (nI l)
theorem longer_len (n : Nat) : ∀ hs : List (List Nat), (longer hs n).length = hs.length * n
  | [] => by simp [longer]
  | l :: hs => by
    have := longer_len n hs
    unfold longer at this ⊢
    rw [List.flatMap_cons, List.length_append, this, List.length_map, List.length_range, List.length_cons, Nat.add_mul, Nat.one_mul, Nat.add_comm]
theorem longer_snoc (hs : List (List Nat)) (l : List Nat) (n : Nat) : longer (hs ++ [l]) n = longer hs n ++ (List.range n).map fun x => l ++ [x] := by
  unfold longer
  rw [List.flatMap_append, List.flatMap_cons, List.flatMap_nil, List.append_nil]
theorem heads_snoc (hs : List (List Nat)) (l : List Nat) (x : Nat) : headsD (hs ++ [l ++ [x]]) = headsD hs ++ [.lst (nI l ++ [.int (x : Int)])] := by
  unfold headsD nI
  rw [List.map_append, List.map_singleton, List.map_append, List.map_singleton]
def c__law_longer : Con := fun ds μ Φ _ => ∃ (hs : List (List Nat)) (n : Nat), ds = [.lst (headsD hs), .int (n : Int)] ∧ n ≤ 4 ∧ hs.length ≤ 256 ∧ (∀ l ∈ hs, l.length ≤ 1000) ∧ Φ (.lst (headsD (longer hs n))) μ
theorem len__law_longer {ds μ Φ Ψ} (h : c__law_longer ds μ Φ Ψ) : ds.length = 2 := by obtain ⟨_, _, rfl, _⟩ := h; rfl
theorem ok__law_longer {cx : CXT} (T : Txt P w K mg) : FnOk P w K mg base cx 1 T.f__law_longer T.d__law_longer ["_law_heads_here", "_law_options"] (spOf K c__law_longer) := by
  refine def_okC T.F__law_longer sc__law_longer _ (fun ds μ Φ Ψ h => len__law_longer h) (fun cdv A outer s H E B hW hr =>
    ⟨_, (pss_cons (ps_set (i := 2) sc__law_longer.nd rfl (Or.inl rfl) (pe_lst pa_nil))
      (pss_cons (ps_for (passes_of rfl) rfl (pi_list (pv 0)) (pg_name (i := 3) sc__law_longer.nd rfl (Or.inl rfl)) (pss_one (ps_for (passes_of rfl) rfl (pi_range1 rfl T.z_range (pa_cons (pv 1) pa_nil)) (pg_name (i := 4) sc__law_longer.nd rfl (Or.inl rfl)) (pss_one (ps_expr (pe_bm PySem.F.plainAttrs_list PySem.F.slot_list_append PySem.F.type_list_append mt_append (pv 2) (pa_cons (pe_op op_cat (pv 3) (pe_lst (pa_cons (pv 4) pa_nil))) pa_nil)))))))
      (pss_one (ps_ret (pv 2))))),
      (sSeq (sAsg (sOwn sNil) sName)
      (sSeq (sFor (siL sVar) (fun _ _ _ => sName) (fun _ _ _ => (sFor (siR1 sVar) (fun _ _ _ => sName) (fun _ _ _ => (sDrop (sApp sVar (sOp roCatL sVar (sLst (sCons sVar sNil)))))))))
      (sRet sRest)))⟩) (fun ds μ Φ Ψ h => ?hv)
  case hv =>
    obtain ⟨hs, n, rfl, hn, hl, hb, h⟩ := h
    refine seq_cut fun M hM => ?_
    walk_at "wp"
    refine ⟨by omega, fun p hp => ?_⟩
    rw [hM]; clear hM M
    walk_at "wps"
    refine ⟨fun i δ' μ' => ∃ x y, δ' = [some (.lst (headsD hs)), some (.int (n : Int)), some (.hd (.ref p)), x, y] ∧ μ' = sset μ p (.lst (headsD (longer (hs.take i) n))), ⟨none, none, rfl, rfl⟩, ?_, ?_⟩
    · rintro i d δ' μ' hi ⟨x, y, rfl, rfl⟩
      obtain ⟨hil, rfl⟩ : ∃ hil : i < hs.length, d = .lst (nI hs[i]) := by
        unfold headsD at hi
        rw [List.getElem?_map] at hi
        have hil : i < hs.length := by
          refine Classical.byContradiction fun z => ?_
          rw [List.getElem?_eq_none (by omega)] at hi
          cases hi
        rw [List.getElem?_eq_getElem hil] at hi
        cases hi
        exact ⟨hil, rfl⟩
      walk_at "wps"
      refine ⟨by omega, by omega, fun j δ' μ' => ∃ y, δ' = [some (.lst (headsD hs)), some (.int (n : Int)), some (.hd (.ref p)), some (.lst (nI hs[i])), y] ∧ μ' = sset μ p (.lst (headsD (longer (hs.take i) n ++ (List.range j).map fun x => hs[i] ++ [x]))), ⟨y, rfl, by rw [List.range_zero, List.map_nil, List.append_nil]⟩, ?_, ?_⟩
      · rintro j d δ' μ' hj ⟨y, rfl, rfl⟩
        obtain ⟨hj, rfl⟩ := rngD_get hj
        walk_at "wps"
        have hb2 := hb _ (List.getElem_mem hil)
        have hmul : min i hs.length * n ≤ 256 * 4 := Nat.mul_le_mul (by omega) hn
        refine ⟨by omega, by rw [nI_len]; omega, by unfold headsD; rw [List.length_map, List.length_append, longer_len, List.length_take, List.length_map, List.length_range]; omega, _, rfl, ?_⟩
        rw [List.range_succ, List.map_append, List.map_singleton, ← List.append_assoc, heads_snoc]
      · rintro δ' μ' ⟨y, rfl, rfl⟩
        refine ⟨_, _, rfl, ?_⟩
        rw [List.take_succ, List.getElem?_eq_getElem hil, Option.toList_some, longer_snoc]
    · rintro δ' μ' ⟨x, y, rfl, rfl⟩
      walk_at "wps"
      rw [show (headsD hs).length = hs.length by unfold headsD; rw [List.length_map], List.take_length]
      exact ⟨μ, Sub.set Sub.refl hp, h⟩
theorem heads_snoc2 (ws : List Int) (ps : List Nat) (p : Nat) : heads ws (ps ++ [p]) = longer (heads ws ps) (wd ws p) := by
  unfold heads
  rw [List.foldl_append, List.foldl_cons, List.foldl_nil]
theorem heads_len0 (ws : List Int) : ∀ (ps : List Nat) (hs : List (List Nat)) (a : Nat), hs.length = a → (ps.foldl (fun hs p => longer hs (wd ws p)) hs).length = ps.foldl (fun a p => a * wd ws p) a
  | [], hs, a, h => h
  | p :: ps, hs, a, h => by
    rw [List.foldl_cons, List.foldl_cons]
    exact heads_len0 ws ps _ _ (by rw [longer_len, h])
theorem heads_len (ws : List Int) (ps : List Nat) : (heads ws ps).length = wpl ws ps := heads_len0 ws ps _ _ rfl
/-- a way to choose options of places -/
def HG (ws : List Int) (qs l : List Nat) : Prop := l.length = qs.length ∧ ∀ i, i < qs.length → l.getD i 0 < wd ws (qs.getD i 0)
theorem HG.snoc {ws : List Int} {qs l : List Nat} {p x : Nat} (h : HG ws qs l) (hx : x < wd ws p) : HG ws (qs ++ [p]) (l ++ [x]) := by
  refine ⟨by rw [List.length_append, List.length_append, h.1]; rfl, fun i hi => ?_⟩
  rw [List.length_append, List.length_singleton] at hi
  rw [List.getD_eq_getElem?_getD, List.getD_eq_getElem?_getD]
  by_cases z : i < qs.length
  · rw [List.getElem?_append_left (by rw [h.1]; exact z), List.getElem?_append_left z]
    have := h.2 i z
    rwa [List.getD_eq_getElem?_getD, List.getD_eq_getElem?_getD] at this
  · have e : i = qs.length := by omega
    subst e
    rw [List.getElem?_append_right (by rw [h.1]; exact Nat.le_refl _), List.getElem?_append_right (Nat.le_refl _), h.1, Nat.sub_self]
    exact hx
theorem heads_each0 (ws : List Int) : ∀ (ps qs : List Nat) (hs : List (List Nat)), (∀ l ∈ hs, HG ws qs l) → ∀ l ∈ ps.foldl (fun hs p => longer hs (wd ws p)) hs, HG ws (qs ++ ps) l
  | [], qs, hs, h => by rw [List.append_nil]; exact h
  | p :: ps, qs, hs, h => by
    rw [List.foldl_cons, show qs ++ p :: ps = (qs ++ [p]) ++ ps by simp]
    refine heads_each0 ws ps _ _ fun l hl => ?_
    obtain ⟨l0, h0, hl⟩ := List.mem_flatMap.mp hl
    obtain ⟨x, hx, rfl⟩ := List.mem_map.mp hl
    exact (h l0 h0).snoc (List.mem_range.mp hx)
theorem heads_each (ws : List Int) (ps : List Nat) : ∀ l ∈ heads ws ps, HG ws ps l := heads_each0 ws ps [] [[]] fun l hl => by
  rw [List.mem_singleton.mp hl]
  exact ⟨rfl, fun i hi => by simp at hi⟩
def c__law_heads : Con := fun ds μ Φ _ => ∃ (ws : List Int) (ps : List Nat), ds = [.tup (ws.map .int), .lst (nI ps)] ∧ WsOk ws ∧ ps.length ≤ 8 ∧ (∀ i, i ≤ ps.length → wpl ws (ps.take i) ≤ 256) ∧ Φ (.lst (headsD (heads ws ps))) μ
theorem len__law_heads {ds μ Φ Ψ} (h : c__law_heads ds μ Φ Ψ) : ds.length = 2 := by obtain ⟨_, _, rfl, _⟩ := h; rfl
theorem ok__law_heads {cx : CXT} (T : Txt P w K mg) : FnOk P w K mg base cx 2 T.f__law_heads T.d__law_heads ["_law_widths_here", "_law_places"] (spOf K c__law_heads) := by
  refine def_okC T.F__law_heads sc__law_heads _ (fun ds μ Φ Ψ h => len__law_heads h) (fun cdv A outer s H E B hW hr =>
    ⟨_, (pss_cons (ps_set (i := 2) sc__law_heads.nd rfl (Or.inl rfl) (pe_lst (pa_cons (pe_lst pa_nil) pa_nil)))
      (pss_cons (ps_for (passes_of rfl) rfl (pi_list (pv 1)) (pg_name (i := 3) sc__law_heads.nd rfl (Or.inl rfl)) (pss_one (ps_set (i := 2) sc__law_heads.nd rfl (Or.inl rfl) (pe_call (ok__law_longer T) hr rfl T.g__law_longer T.F__law_longer.kp T.b__law_longer .nil passN (pa_cons (pv 2) (pa_cons (pe_call (ok__law_width T) hr rfl T.g__law_width T.F__law_width.kp T.b__law_width .nil passN (pa_cons (pv 0) (pa_cons (pv 3) pa_nil))) pa_nil))))))
      (pss_one (ps_ret (pv 2))))),
      (sSeq (sAsg (sLst (sCons (sLst sNil) sNil)) sName)
      (sSeq (sFor (siL sVar) (fun _ _ _ => sName) (fun _ _ _ => (sAsg (sCall (sCons sVar (sCons (sCall (sCons sVar (sCons sVar sNil))) sNil))) sName)))
      (sRet sVar)))⟩) (fun ds μ Φ Ψ h => ?hv)
  case hv =>
    obtain ⟨ws, ps, rfl, hw, hl, hb, h⟩ := h
    refine seq_cut fun M hM => ?_
    walk_at "wp"
    refine ⟨by omega, by omega, ?_⟩
    rw [hM]; clear hM M
    walk_at "wps"
    refine ⟨fun i δ' μ' => μ' = μ ∧ ∃ x, δ' = [some (.tup (ws.map .int)), some (.lst (nI ps)), some (.lst (headsD (heads ws (ps.take i)))), x], ⟨rfl, none, rfl⟩, ?_, ?_⟩
    · rintro i d δ' μ' hi ⟨rfl, x, rfl⟩
      obtain ⟨hil, rfl⟩ := nI_get hi
      have hw1 := hw.wd1 ps[i]
      walk_at "wps"
      refine ⟨ws, ps[i], rfl, hw, heads ws (ps.take i), wd ws ps[i], rfl, by omega, by rw [heads_len]; exact hb i (by omega), fun l hl2 => ?_, ?_⟩
      · have := (heads_each ws _ l hl2).1
        rw [List.length_take] at this
        omega
      · rw [List.take_succ, List.getElem?_eq_getElem hil, Option.toList_some, heads_snoc2]
        exact ⟨rfl, _, rfl⟩
    · rintro δ' μ' ⟨rfl, x, rfl⟩
      rw [nI_len, List.take_length]
      walk_at "wps"
      exact ret_same h
end
end LW
set_option Elab.async false
set_option linter.all false
set_option maxRecDepth 100000
namespace LW
open PySem PySem.Spec L2 DW
/-- one more than the greatest -/
def rch (l : List Nat) : Nat := l.foldr (fun x m => max (x + 1) m) 0
theorem rch_lt : ∀ {l : List Nat} {q : Nat}, q ∈ l → q < rch l
  | a :: l, q, h => by
    show q < max (a + 1) (rch l)
    rcases List.mem_cons.mp h with e | e
    · subst e; omega
    · have := rch_lt e; omega
theorem rch_le : ∀ {l : List Nat} {m : Nat}, (∀ q ∈ l, q < m) → rch l ≤ m
  | [], m, _ => Nat.zero_le _
  | a :: l, m, h => by
    show max (a + 1) (rch l) ≤ m
    have h1 := h a List.mem_cons_self
    have h2 := rch_le fun q hq => h q (List.mem_cons_of_mem a hq)
    omega
theorem rch_max {l : List Nat} {m : Nat} (h : m ∈ l) (hm : ∀ q ∈ l, q ≤ m) : rch l = m + 1 := by
  have h1 := rch_lt h
  have h2 := rch_le (l := l) (m := m + 1) fun q hq => by have := hm q hq; omega
  omega
theorem rch_eq {l l' : List Nat} (h : ∀ q, q ∈ l ↔ q ∈ l') : rch l = rch l' := by
  have h1 := rch_le (l := l) (m := rch l') fun q hq => rch_lt ((h q).mp hq)
  have h2 := rch_le (l := l') (m := rch l) fun q hq => rch_lt ((h q).mpr hq)
  omega
section
variable {ws : List Int} {oc r : Nat}
theorem smT_le {h : Nat → Nat} {c : Nat} : ∀ n, (∀ x, x < n → h x ≤ c) → smT n h ≤ n * c
  | 0, _ => by rw [smT]; exact Nat.zero_le _
  | n + 1, e => by
    have := smT_le n fun x hx => e x (by omega)
    have := e n (by omega)
    rw [smT, Nat.add_mul, Nat.one_mul]
    omega
theorem cn_le {g : (Nat → Nat) → Nat} : ∀ (k st : Nat) (f : Nat → Nat), cn ws g r k st f ≤ pwk ws st k
  | 0, st, f => by rw [cn, pwk]; split <;> omega
  | k + 1, st, f => by rw [cn, pwk]; exact smT_le _ fun x _ => cn_le k (st + 1) _
theorem tc_le (hw : WsOk ws) {R st : Nat} {t : QT} (h : IsS ws oc st t) (hp : ∀ q ∈ qPl t, q < R) (hR : st ≤ R) (h100 : R ≤ 100) : tc ws R r t st ≤ 2 ^ 200 := by
  have e := tc_cn (r := r) (R - st) t st (fun _ => 0) h (fun q hq => by have := hp q hq; omega)
  rw [show st + (R - st) = R by omega] at e
  rw [← e]
  exact Nat.le_trans (cn_le _ _ _) (pwk_big hw st (by omega))
theorem tcs_le (hw : WsOk ws) {R p st : Nat} {ts : List QT} (h : IsS ws oc st (.look p ts)) (hp : ∀ q ∈ qPl (.look p ts), q < R) (h100 : R ≤ 100) : (tc.tcs ws R r ts (p + 1)).sum ≤ 2 ^ 202 := by
  have hl := h.len
  have h4 := (hw.wd1 p).2
  have hpR := hp p (by rw [qPl]; exact List.mem_cons_self)
  have key : ∀ us : List QT, (∀ t ∈ us, t ∈ ts) → (us.map fun t => tc ws R r t (p + 1)).sum ≤ us.length * 2 ^ 200 := fun us => by
    induction us with
    | nil => intro _; simp
    | cons u us ih =>
      intro hu
      have h1 := ih fun t ht => hu t (List.mem_cons_of_mem _ ht)
      have hm := hu u List.mem_cons_self
      have h2 := tc_le (r := r) hw (R := R) (h.sub hm) (fun q hq => hp q (by rw [qPl]; exact List.mem_cons_of_mem _ (qpls_mem.mpr ⟨u, hm, hq⟩))) (by omega) h100
      rw [List.map_cons, List.sum_cons, List.length_cons, Nat.add_mul, Nat.one_mul]
      omega
  rw [tcs_map]
  have := key ts fun t ht => ht
  have h5 : ts.length * 2 ^ 200 ≤ 4 * 2 ^ 200 := Nat.mul_le_mul_right _ (by omega)
  have h6 : 4 * 2 ^ 200 = 2 ^ 202 := by decide
  omega
end
section
variable {ws : List Int} {oc r : Nat}
theorem IsS.p100 : ∀ (t : QT) {lo : Nat}, IsS ws oc lo t → ∀ q ∈ qPl t, q < 100 := fun t => by
  induction t using QT.ind with
  | h1 x => intro lo h q hq; simp [qPl] at hq
  | h2 p ts ih =>
    intro lo h q hq
    have hp : p < 100 := by rw [IsS] at h; exact h.2.1
    rw [qPl] at hq
    rcases List.mem_cons.mp hq with e | e
    · rw [e]; exact hp
    · obtain ⟨t, ht, hq2⟩ := qpls_mem.mp e
      exact ih t ht (h.sub ht) q hq2
/-- the settled term, and how far it looks -/
noncomputable def stl (ws : List Int) (t : QT) : QT := qSt ws 300 t
noncomputable def rc (ws : List Int) (t : QT) : Nat := rch (qPl (stl ws t))
structure Stl (ws : List Int) (oc : Nat) (ps : List Nat) (t : QT) : Prop where
  is : IsS ws oc 0 (stl ws t)
  pl : ∀ q ∈ qPl (stl ws t), q ∈ qPl t
  an : ∀ f : Nat → Nat, (∀ p, f p < wd ws p) → qA f (stl ws t) = qA f t
  ln : (qPl (stl ws t)).length ≤ 255
  dp : qDep (stl ws t) ≤ 8
  p100 : ∀ q ∈ qPl (stl ws t), q < 100
  rlt : ∀ q ∈ qPl (stl ws t), q < rc ws t
  r100 : rc ws t ≤ 100
theorem stl_of {ps : List Nat} {t : QT} (h : QFit ws oc ps t) : Stl ws oc ps t := by
  obtain ⟨a, b, c⟩ := qSt_ok (oc := oc) h.w 300 t 0 h.ok h.looks fun p _ => Nat.zero_le p
  obtain ⟨d, e⟩ := IsS.small h.w _ a h.sorted fun q hq => h.pl q (b q hq)
  have f := IsS.p100 _ a
  have := h.few
  have := h.most
  exact ⟨a, b, c, by show (qPl (qSt ws 300 t)).length ≤ _; omega, by show qDep (qSt ws 300 t) ≤ _; omega, f, fun q hq => rch_lt hq, rch_le f⟩
end
section
variable {Ψ : XP} {Φ : DK} {n : Nat} {φ : DE} {δw : DEnv} {μ1 : Sto} {θ : DT}
/-- over a list of anything -/
theorem lcM {α : Type} {l : List α} (G f : α → D) (hz : l.length ≤ 100000)
    (hs : ∀ (a : α) (μ2 : Sto) (X : DK), a ∈ l → DW.Sub μ1 μ2 → X (f a) μ2 → φ Ψ (δw.set n (some (G a))) μ2 X)
    (hd : Φ (.lst (l.map f)) μ1) : LcG (eName n) dYes φ δw Ψ (l.map G) μ1 Φ := by
  cases l with
  | nil => exact lcG_mapN (fun _ => .non) (by simp) (fun i d μ2 X hi => by simp at hi) (by simpa using hd)
  | cons a0 l0 =>
    generalize hl : a0 :: l0 = l at *
    refine lcG_mapN (fun i => f (l.getD i a0)) (by rw [List.length_map]; exact hz) (fun i d μ2 X hi hsub hx => ?_) ?_
    · rw [List.getElem?_map] at hi
      cases e : l[i]? with
      | none => rw [e] at hi; cases hi
      | some a =>
        rw [e] at hi
        cases hi
        rw [List.getD_eq_getElem?_getD, e] at hx
        exact hs a μ2 X (List.mem_of_getElem? e) hsub hx
    · have : (List.range (l.map G).length).map (fun i => f (l.getD i a0)) = l.map f := by
        apply List.ext_getElem
        · simp
        · intro i h1 h2
          simp at h1
          simp [List.getD_eq_getElem?_getD, List.getElem?_eq_getElem h1]
      rw [this]; exact hd
theorem rng_gD {α : Type} (l : List α) (a0 : α) : (List.range l.length).map (fun i => l.getD i a0) = l := by
  apply List.ext_getElem
  · simp
  · intro i h1 h2
    simp at h1
    simp [List.getD_eq_getElem?_getD, List.getElem?_eq_getElem h1]
theorem given_filter {α : Type} {f : α → D} {p : α → Bool} {a0 : α} (l : List α) : givenD l.length (fun i => p (l.getD i a0)) (fun i => f (l.getD i a0)) = (l.filter p).map f := by
  unfold givenD
  conv => rhs; rw [← rng_gD l a0, List.filter_map, List.map_map]
  rfl
/-- over a list of anything, some given -/
theorem lcMf {α : Type} {l : List α} (G : α → D) (p : α → Bool) (f : α → D) (hz : l.length ≤ 100000)
    (hs : ∀ (a : α) (μ2 : Sto) (X : DK) (Y : Sto → Prop), a ∈ l → DW.Sub μ1 μ2 → (p a = true → X (f a) μ2) → (p a = false → Y μ2) →
      θ Ψ (δw.set n (some (G a))) μ2 fun b μ4 => (b = true → φ Ψ (δw.set n (some (G a))) μ4 X) ∧ (b = false → Y μ4))
    (hd : Φ (.lst ((l.filter p).map f)) μ1) : LcG (eName n) θ φ δw Ψ (l.map G) μ1 Φ := by
  cases l with
  | nil => exact lcG_pure (fun _ => true) (fun _ => .non) (by simp) (fun i d μ2 X Y hi => by simp at hi) (by simpa [givenD] using hd)
  | cons a0 l0 =>
    generalize hl : a0 :: l0 = l at *
    have hll : (l.map G).length = l.length := List.length_map ..
    refine lcG_pure (fun i => p (l.getD i a0)) (fun i => f (l.getD i a0)) (by rw [hll]; exact hz) (fun i d μ2 X Y hi hsub hx hy => ?_) ?_
    · rw [List.getElem?_map] at hi
      cases e : l[i]? with
      | none => rw [e] at hi; cases hi
      | some a =>
        rw [e] at hi
        cases hi
        rw [List.getD_eq_getElem?_getD, e] at hx hy
        exact hs a μ2 X Y (List.mem_of_getElem? e) hsub hx hy
    · rw [hll, given_filter]; exact hd
end
end LW
set_option Elab.async false
set_option linter.all false
set_option maxRecDepth 100000
set_option maxHeartbeats 4000000
namespace LW
open PySem PySem.Spec L2 DW PyProof.Rows
local macro_rules | `(tactic| walk_at "wp") => `(tactic| try simp only [u_maxD, u_idxD, u_isET, w_isET2, w_isET3, w_isET4, u_truT, u_iZ3, w_zip3E, u_lcO, u_restE, v_rng1, u_rngV, w_rngE, u_cval, w_isiO, u_par, u_iR3, u_makeSD, u_getXN, rngB_len, u_star, u_rev2L, u_callR, u_binXI, u_callX, u_getX, u_restF, u_binX, u_invX, w_neB, u_methXN, u_makeSN, u_tupR1, u_lc2, u_iZM, w_zipLT, w_zipTL, u_cntL, u_lstR1O, u_fld, w_fld, w_someE, u_setF, u_methX, w_objE, u_makeS, u_sortSet, u_lstR1, u_iZipL, u_iEnL, u_idx, u_popAt, u_cntT, u_idxT, u_callF, w_maxL, w_minL, w_ixDc, w_inDc, w_repL, w_listLs, w_tplT, w_tplP, u_isE, w_isE, u_kitER, u_kitET, u_excE, u_xf, w_xf1, u_slS, u_raise1, u_iEn, w_listStr, w_lenStr, w_catStr, w_ixStr, w_inStr, w_strE, w_strI, w_strS, u_rest, cut_to, cut_from1, Int.zero_add, u_revT, w_repT, u_tupG, u_try, u_gPlain, u_gThen, u_gNil, u_yield, u_gWhile, u_while, u_isX, u_kitR, u_kitT, u_excOk, w_zipE, u_goalX, u_lc, rngD_len, Int.toNat_natCast, u_for, u_iT, u_iL, u_iR1, u_iR2, u_iZ, u_iS, w_lstE, dwipe, u_asg, u_asgS, u_ret, u_retN, u_if, u_next, u_break, u_cont, u_drop, u_raise, u_aug, u_var, u_c, u_op, u_un, u_test, u_and, u_or, u_not, u_yes, u_andV, u_orV, u_notV, u_ifE, u_chain, u_nil, u_cons, u_tup, u_lst, u_own, u_cb, u_call, u_callS, u_name, u_etup, u_enil, u_econs, u_sub, u_app, u_slT, u_slL, u_noPart, u_part, u_revL, ex_some, w_I0, w_I, w_uI, w_int, w_bl, w_isi, w_someb, w_eqI, w_neI, w_eqS, w_neS, w_lenT, w_lenL, w_lenS, w_tupL, w_tupT, w_ixT, w_ixL, w_ixS, w_catT, w_catL, w_all, w_any, w_min2, w_divmod, w_listS, w_listL, w_listT, w_isN, w_notN, w_tupE, w_intE, w_consE, w_hdE, w_cellS, w_set, at0, at1, at2, at3, i_tT, i_tI, i_tB, i_tS, i_nT, i_nI, i_nB, i_nS, i_iT, i_iI, i_iB, i_iS, i_bT, i_bI, i_bB, i_bS, i_sT, i_sI, i_sB, i_sS, v_itemsS, w_eqB, isNone, dstart, List.map, List.length, List.replicate, List.cons_append, List.nil_append, List.append_nil, List.getElem?_cons_zero, List.getElem?_cons_succ, List.set_cons_zero, List.set_cons_succ, ix40, ix42, ix43, true_implies, false_implies, and_true, true_and, Bool.not_true, Bool.not_false, decide_eq_true_eq, decide_eq_false_iff_not, List.length_map, Nat.reduceAdd, reduceCtorEq, v_ixH, v_items, v_itemsT, v_itemsL, v_len, v_tuple, v_list, v_listOwn, sset_same, sset_sset, Option.some.injEq, Cell.lst.injEq, Cell.frz.injEq, false_and, exists_false, or_false, false_or, exists_eq_left', ne_eq, not_false_eq_true, isTup, Bool.true_eq_false, Bool.false_eq_true])
local macro_rules | `(tactic| walk_at "wps") => `(tactic| try simp only [u_seq, u_maxD, u_idxD, u_isET, w_isET2, w_isET3, w_isET4, u_truT, u_iZ3, w_zip3E, u_lcO, u_restE, v_rng1, u_rngV, w_rngE, u_cval, w_isiO, u_par, u_iR3, u_makeSD, u_getXN, rngB_len, u_star, u_rev2L, u_callR, u_binXI, u_callX, u_getX, u_restF, u_binX, u_invX, w_neB, u_methXN, u_makeSN, u_tupR1, u_lc2, u_iZM, w_zipLT, w_zipTL, u_cntL, u_lstR1O, u_fld, w_fld, w_someE, u_setF, u_methX, w_objE, u_makeS, u_sortSet, u_lstR1, u_iZipL, u_iEnL, u_idx, u_popAt, u_cntT, u_idxT, u_callF, w_maxL, w_minL, w_ixDc, w_inDc, w_repL, w_listLs, w_tplT, w_tplP, u_isE, w_isE, u_kitER, u_kitET, u_excE, u_xf, w_xf1, u_slS, u_raise1, u_iEn, w_listStr, w_lenStr, w_catStr, w_ixStr, w_inStr, w_strE, w_strI, w_strS, u_rest, cut_to, cut_from1, Int.zero_add, u_revT, w_repT, u_tupG, u_try, u_gPlain, u_gThen, u_gNil, u_yield, u_gWhile, u_while, u_isX, u_kitR, u_kitT, u_excOk, w_zipE, u_goalX, u_lc, rngD_len, Int.toNat_natCast, u_for, u_iT, u_iL, u_iR1, u_iR2, u_iZ, u_iS, w_lstE, dwipe, u_asg, u_asgS, u_ret, u_retN, u_if, u_next, u_break, u_cont, u_drop, u_raise, u_aug, u_var, u_c, u_op, u_un, u_test, u_and, u_or, u_not, u_yes, u_andV, u_orV, u_notV, u_ifE, u_chain, u_nil, u_cons, u_tup, u_lst, u_own, u_cb, u_call, u_callS, u_name, u_etup, u_enil, u_econs, u_sub, u_app, u_slT, u_slL, u_noPart, u_part, u_revL, ex_some, w_I0, w_I, w_uI, w_int, w_bl, w_isi, w_someb, w_eqI, w_neI, w_eqS, w_neS, w_lenT, w_lenL, w_lenS, w_tupL, w_tupT, w_ixT, w_ixL, w_ixS, w_catT, w_catL, w_all, w_any, w_min2, w_divmod, w_listS, w_listL, w_listT, w_isN, w_notN, w_tupE, w_intE, w_consE, w_hdE, w_cellS, w_set, at0, at1, at2, at3, i_tT, i_tI, i_tB, i_tS, i_nT, i_nI, i_nB, i_nS, i_iT, i_iI, i_iB, i_iS, i_bT, i_bI, i_bB, i_bS, i_sT, i_sI, i_sB, i_sS, v_itemsS, w_eqB, isNone, dstart, List.map, List.length, List.replicate, List.cons_append, List.nil_append, List.append_nil, List.getElem?_cons_zero, List.getElem?_cons_succ, List.set_cons_zero, List.set_cons_succ, ix40, ix42, ix43, true_implies, false_implies, and_true, true_and, Bool.not_true, Bool.not_false, decide_eq_true_eq, decide_eq_false_iff_not, List.length_map, Nat.reduceAdd, reduceCtorEq, v_ixH, v_items, v_itemsT, v_itemsL, v_len, v_tuple, v_list, v_listOwn, sset_same, sset_sset, Option.some.injEq, Cell.lst.injEq, Cell.frz.injEq, false_and, exists_false, or_false, false_or, exists_eq_left', ne_eq, not_false_eq_true, isTup, Bool.true_eq_false, Bool.false_eq_true])
section
variable {P : Program} {w : World} {K : Fg} {mg : Str → Option Value} {base : Heap}
def c_term_reach : Con := fun ds μ Φ _ => ∃ (ws : List Int) (oc : Nat) (t : QT), ds = [qD t] ∧ QOk ws oc t ∧ qDep t < 21 ∧ (qPl t).length ≤ 1000 ∧ Φ (.int (rch (qPl t) : Int)) μ
theorem len_term_reach {ds μ Φ Ψ} (h : c_term_reach ds μ Φ Ψ) : ds.length = 1 := by obtain ⟨_, _, _, rfl, _⟩ := h; rfl
theorem ok_term_reach (T : Txt P w K mg) : FnOk P w K mg base (L2N.CX P w) 31 T.f_term_reach T.d_term_reach ["term"] (spOf K c_term_reach) := by
  refine def_okC T.F_term_reach sc_term_reach _ (fun ds μ Φ Ψ h => len_term_reach h) (fun cdv A outer s H E B hW hr =>
    have tk : L2N.Takes (cxOf (L2N.CX P w) P w K mg base N_term_reach "term_reach" (defScope s_term_reach) T.f_term_reach cdv A outer s H E) (fun cls d _ H => E cls d H) := L2N.takes_of rfl rfl rfl rfl
    ⟨_, (pss_one (ps_ret (pe_op op_add (pe_maxD rfl T.z_max rfl hr (pe_call (ok_places_of T) hr rfl T.g_places_of T.F_places_of.kp T.b_places_of .nil passN (pa_cons (pv 0) pa_nil)) (pe_un un_neg pe_int)) pe_int))),
      (sRet (sOp roInt0 (sMaxD (sCall (sCons sVar sNil)) (sUn ruInt sInt)) sInt))⟩) (fun ds μ Φ Ψ h => ?hv)
  case hv =>
    obtain ⟨ws, oc, t, rfl, ht, hd, hl, h⟩ := h
    walk_at "wps"
    refine ⟨ws, oc, t, rfl, ht, by omega, hl, (qPl t).map fun (n : Nat) => (n : Int), by rw [nI_ints], fun e => ?_, fun m hm hmax => ?_⟩
    · have e2 : qPl t = [] := List.map_eq_nil_iff.mp e
      rw [e2] at h
      exact ret_same h
    · obtain ⟨q, hq, rfl⟩ := List.mem_map.mp hm
      rw [rch_max hq fun z hz => by have := hmax _ (List.mem_map.mpr ⟨z, hz, rfl⟩); omega] at h
      exact ret_same h
def c_query_reach (C : Addr) : Con := fun ds μ Φ _ => ∃ (ws : List Int) (oc : Nat) (ps : List Nat) (t : QT), ds = [qO C t ws oc] ∧ QFit ws oc ps t ∧ Φ (.int (rc ws t : Int)) μ
theorem len_query_reach {C ds μ Φ Ψ} (h : c_query_reach C ds μ Φ Ψ) : ds.length = 1 := by obtain ⟨_, _, _, _, rfl, _⟩ := h; rfl
theorem ok_query_reach (T : Txt P w K mg) : FnOk P w K mg base (L2N.CX P w) 62 T.f_query_reach T.d_query_reach ["query"] (spOf K (c_query_reach T.c_Query)) := by
  refine def_okC T.F_query_reach sc_query_reach _ (fun ds μ Φ Ψ h => len_query_reach h) (fun cdv A outer s H E B hW hr =>
    have tk : L2N.Takes (cxOf (L2N.CX P w) P w K mg base N_query_reach "query_reach" (defScope s_query_reach) T.f_query_reach cdv A outer s H E) (fun cls d _ H => E cls d H) := L2N.takes_of rfl rfl rfl rfl
    ⟨_, (pss_one (ps_ret (pe_call (ok_term_reach T) (hr.mono (by decide)) rfl T.g_term_reach T.F_term_reach.kp T.b_term_reach .nil passN (pa_cons (pe_call (ok_settled_term T) hr rfl T.g_settled_term T.F_settled_term.kp T.b_settled_term .nil passN (pa_cons (pv 0) pa_nil)) pa_nil)))),
      (sRet (sCall (sCons (sCall (sCons sVar sNil)) sNil)))⟩) (fun ds μ Φ Ψ h => ?hv)
  case hv =>
    obtain ⟨ws, oc, ps, t, rfl, hf, h⟩ := h
    have S := stl_of hf
    walk_at "wps"
    refine ⟨ws, oc, ps, t, rfl, hf, ws, oc, stl ws t, rfl, S.is.ok, by have := S.dp; omega, by have := S.ln; omega, ret_same h⟩
def c_require_outcome (C O : Addr) : Con := fun ds μ Φ Ψ => ∃ (ws : List Int) (oc : Nat) (t : QT) (o : Int), ds = [qO C t ws oc, .int o] ∧ ((0 ≤ o ∧ o < (oc : Int)) → Φ .non μ) ∧ (¬ (0 ≤ o ∧ o < (oc : Int)) → Ψ (.mk O none) μ)
theorem len_require_outcome {C O ds μ Φ Ψ} (h : c_require_outcome C O ds μ Φ Ψ) : ds.length = 2 := by obtain ⟨_, _, _, _, rfl, _⟩ := h; rfl
theorem ok_require_outcome (T : Txt P w K mg) : FnOk P w K mg base (L2N.CX P w) 3 T.f_require_outcome T.d_require_outcome ["query", "outcome"] (spOf K (c_require_outcome T.c_Query T.c_OutOfRange)) := by
  refine def_okC T.F_require_outcome sc_require_outcome _ (fun ds μ Φ Ψ h => len_require_outcome h) (fun cdv A outer s H E B hW hr =>
    have tk : L2N.Takes (cxOf (L2N.CX P w) P w K mg base N_require_outcome "require_outcome" (defScope s_require_outcome) T.f_require_outcome cdv A outer s H E) (fun cls d _ H => E cls d H) := L2N.takes_of rfl rfl rfl rfl
    ⟨_, (pss_one (ps_if (pt_not (pt_val (pe_call (ok_is_below T) hr rfl T.g_is_below T.F_is_below.kp T.b_is_below .nil passN (pa_cons (pv 1) (pa_cons (pe_fld (pv 0) rfl) pa_nil))))) (pss_one (L2N.ps_raise rfl tk (L2N.pmk_own PySem.F.excBase_ValueError T.x_OutOfRange T.g_OutOfRange T.k_OutOfRange (raises_own T.e_OutOfRange T.t_OutOfRange) rfl))) pss_nil)),
      (sIfS (sNot (sB (sCall (sCons sVar (sCons (sFldO (NS := NS_Query) (i := 2) T.cls_Query T.na_Query_outcomes rfl (by decide) sVar) sNil))))) (sRaise0W (W := fun cls d _ H => E cls d H) (C := T.c_OutOfRange) (by exact hW)) sNext)⟩) (fun ds μ Φ Ψ h => ?hv)
  case hv =>
    obtain ⟨ws, oc, t, o, rfl, h1, h2⟩ := h
    unfold qO
    walk_at "wps"
    rw [w_is_below]
    by_cases c : 0 ≤ o ∧ o < (oc : Int)
    · rw [decide_eq_true c]
      walk_at "wps"
      exact ret_same (h1 c)
    · rw [decide_eq_false c]
      walk_at "wps"
      exact ⟨_, Sub.refl, h2 c⟩
def c_span_widths : Con := fun ds μ Φ _ => ∃ (ws : List Int) (a k : Nat), ds = [.tup (ws.map .int), .int (a : Int), .int ((a + k : Nat) : Int)] ∧ WsOk ws ∧ a + k ≤ 100 ∧ Φ (.tup ((wls ws a k).map .int)) μ
theorem len_span_widths {ds μ Φ Ψ} (h : c_span_widths ds μ Φ Ψ) : ds.length = 3 := by obtain ⟨_, _, _, rfl, _⟩ := h; rfl
theorem ok_span_widths {cx : CXT} (T : Txt P w K mg) : FnOk P w K mg base cx 2 T.f_span_widths T.d_span_widths ["widths", "start", "end"] (spOf K c_span_widths) := by
  refine def_okC T.F_span_widths sc_span_widths _ (fun ds μ Φ Ψ h => len_span_widths h) (fun cdv A outer s H E B hW hr =>
    ⟨_, (pss_one (ps_ret (pe_callTy call_tupleN (by rfl) T.z_tuple (by decide +kernel) (pa_cons (pe_lc (own := [("place", 3)]) rfl sc_span_widths.nd (pi_range2 rfl T.z_range (pa_cons (pv 1) (pa_cons (pv 2) pa_nil))) (blkOk_by (N := N_span_widths) (sc := defScope s_span_widths) (by decide +kernel)) (fun _ _ _ _ _ => (pg_name (i := 3) sc_span_widths.nd rfl (Or.inl rfl))) (fun _ _ _ _ _ => pts_nil) (fun _ _ _ _ _ => (pe_call (ok_width_at T) hr rfl T.g_width_at T.F_width_at.kp T.b_width_at .nil passN (pa_cons (pv 0) (pa_cons (pv 3) pa_nil))))) pa_nil)))),
      (sRet (sCB rcTuple (sCons (sLc (siR2 sVar sVar) (gwName List.mem_cons_self) (fun _ _ _ => sName) (fun _ _ _ => sYes) (fun _ _ _ => (sCall (sCons sVar (sCons sVar sNil))))) sNil)))⟩) (fun ds μ Φ Ψ h => ?hv)
  case hv =>
    obtain ⟨ws, a, k, rfl, hw, hk, h⟩ := h
    walk_at "wps"
    refine ⟨_, _, rfl, rfl, by omega, ?_⟩
    rw [show (((a + k : Nat) : Int) - (a : Int)).toNat = k by omega]
    refine lcG_mapN (fun i => .int (wd ws (a + i) : Int)) (by rw [rngD_len]; omega) (fun i d μ2 X hi hsub hx => ?_) ?_
    · obtain ⟨hj, rfl⟩ := rngD_get hi
      walk_at "wps"
      exact ⟨ws, a + i, by rw [Int.natCast_add], hw, hx⟩
    · rw [rngD_len]
      rw [wls_rng, List.map_map] at h
      exact ⟨_, .lst _, ret_same h⟩
/-- where the free places end -/
def fE (R : Nat) : QT → Nat
  | .tell _ => R
  | .look p _ => p
def c_free_widths (C : Addr) : Con := fun ds μ Φ _ => ∃ (ws : List Int) (oc : Nat) (t0 t : QT) (st R : Nat), ds = [qO C t0 ws oc, qD t, .int (st : Int), .int (R : Int)] ∧ WsOk ws ∧ st ≤ fE R t ∧ fE R t ≤ 100 ∧ Φ (.tup ((wls ws st (fE R t - st)).map .int)) μ
theorem len_free_widths {C ds μ Φ Ψ} (h : c_free_widths C ds μ Φ Ψ) : ds.length = 4 := by obtain ⟨_, _, _, _, _, _, rfl, _⟩ := h; rfl
theorem ok_free_widths (T : Txt P w K mg) : FnOk P w K mg base (L2N.CX P w) 3 T.f_free_widths T.d_free_widths ["query", "term", "start", "reach"] (spOf K (c_free_widths T.c_Query)) := by
  refine def_okC T.F_free_widths sc_free_widths _ (fun ds μ Φ Ψ h => len_free_widths h) (fun cdv A outer s H E B hW hr =>
    have tk : L2N.Takes (cxOf (L2N.CX P w) P w K mg base N_free_widths "free_widths" (defScope s_free_widths) T.f_free_widths cdv A outer s H E) (fun cls d _ H => E cls d H) := L2N.takes_of rfl rfl rfl rfl
    ⟨_, (pss_one (ps_ret (pe_call (ok_span_widths T) hr rfl T.g_span_widths T.F_span_widths.kp T.b_span_widths .nil passN (pa_cons (pe_fld (pv 0) rfl) (pa_cons (pv 2) (pa_cons (pe_ifExp (pt_cmpR op_eq (pe_ix ix_tup (pv 1) pe_int (fun _ _ => rfl)) pe_str (nomark _)) (pv 3) (pe_ix ix_tup (pv 1) pe_int (fun _ _ => rfl))) pa_nil)))))),
      (sRet (sCall (sCons (sFldO (NS := NS_Query) (i := 1) T.cls_Query T.na_Query_widths rfl (by decide) sVar) (sCons sVar (sCons (sIf (sTest (sOp roEq (sOp roIxT sVar sInt) sStr)) sVar (sOp roIxT sVar sInt)) sNil)))))⟩) (fun ds μ Φ Ψ h => ?hv)
  case hv =>
    obtain ⟨ws, oc, t0, t, st, R, rfl, hw, h1, h2, h⟩ := h
    unfold qO
    cases t with
    | tell o =>
      rw [qD]
      have h1 : st ≤ R := h1
      have h2 : R ≤ 100 := h2
      walk_at "wps"
      refine ⟨⟨ws, st, R - st, by rw [show st + (R - st) = R by omega], hw, by omega, ret_same h⟩, fun z => absurd trivial z⟩
    | look p ts =>
      rw [qD]
      have h1 : st ≤ p := h1
      have h2 : p ≤ 100 := h2
      walk_at "wps"
      refine ⟨fun z => absurd z (by decide), fun _ => ⟨ws, st, p - st, by rw [show st + (p - st) = p by omega], hw, by omega, ret_same h⟩⟩
end
section
variable {P : Program} {w : World} {K : Fg} {mg : Str → Option Value} {base : Heap}
def c_tail_counts (C : Addr) (n : Nat) : Con := fun ds μ Φ _ => ∃ (ws : List Int) (oc : Nat) (t0 t : QT) (st R : Nat), ds = [qO C t0 ws oc, qD t, .int (st : Int), .int (R : Int)] ∧ WsOk ws ∧ oc ≤ 4 ∧ IsS ws oc st t ∧ qDep t < n ∧ (∀ q ∈ qPl t, q < R) ∧ st ≤ R ∧ R ≤ 100 ∧ Φ (.tup (nI ((List.range oc).map fun r => tc ws R r t st))) μ
theorem len_tail_counts {C n ds μ Φ Ψ} (h : c_tail_counts C n ds μ Φ Ψ) : ds.length = 4 := by obtain ⟨_, _, _, _, _, _, rfl, _⟩ := h; rfl
theorem nI_map {α : Type} (f : α → Nat) (l : List α) : nI (l.map f) = l.map fun a => D.int ((f a : Nat) : Int) := by unfold nI; rw [List.map_map]; rfl
theorem pw_bd {ws : List Int} (hw : WsOk ws) {k a : Nat} (hk : k ≤ 100) : ((pwk ws a k : Nat) : Int).natAbs < 2 ^ 201 := by
  have h1 := pwk_big hw a hk
  have h2 : (2 : Nat) ^ 200 < 2 ^ 201 := by decide
  omega
theorem step_tail_counts (T : Txt P w K mg) {k : Nat} (hk : 4 ≤ k) (n : Nat) (ih_tail_counts : FnOk P w K mg base (L2N.CX P w) k T.f_tail_counts T.d_tail_counts ["query", "term", "start", "reach"] (spOf K (c_tail_counts T.c_Query n))) : FnOk P w K mg base (L2N.CX P w) (k + 1) T.f_tail_counts T.d_tail_counts ["query", "term", "start", "reach"] (spOf K (c_tail_counts T.c_Query (n + 1))) := by
  refine def_okC T.F_tail_counts sc_tail_counts _ (fun ds μ Φ Ψ h => len_tail_counts h) (fun cdv A outer s H E B hW hr =>
    have tk : L2N.Takes (cxOf (L2N.CX P w) P w K mg base N_tail_counts "tail_counts" (defScope s_tail_counts) T.f_tail_counts cdv A outer s H E) (fun cls d _ H => E cls d H) := L2N.takes_of rfl rfl rfl rfl
    ⟨_, (pss_cons (ps_if (pt_cmpR op_eq (pe_ix ix_tup (pv 1) pe_int (fun _ _ => rfl)) pe_str (nomark _)) (pss_one (ps_setLc (i := 5) (own := [("outcome", 7)]) rfl sc_tail_counts.nd rfl rfl (sw_true rfl rfl rfl (by decide +kernel)) (pi_range1 rfl T.z_range (pa_cons (pe_fld (pv 0) rfl) pa_nil)) (blkOk_by (N := N_tail_counts) (sc := defScope s_tail_counts) (by decide +kernel)) (fun _ _ _ _ _ => (pg_name (i := 7) sc_tail_counts.nd rfl (Or.inl rfl))) (fun _ _ _ _ _ => pts_nil) (fun _ _ _ _ _ => (pe_ifExp (pt_cmpR op_eq (pv 7) (pe_ix ix_tup (pv 1) pe_int (fun _ _ => rfl)) (nomark _)) pe_int pe_int)))) (pss_cons (ps_set (i := 6) sc_tail_counts.nd rfl (Or.inr rfl) (pe_lc (own := [("below", 8)]) rfl sc_tail_counts.nd (pi_tup (pe_call (ok_terms_behind T) (hr.mono (by omega)) rfl T.g_terms_behind T.F_terms_behind.kp T.b_terms_behind .nil passN (pa_cons (pv 1) pa_nil))) (blkOk_by (N := N_tail_counts) (sc := defScope s_tail_counts) (by decide +kernel)) (fun _ _ _ _ _ => (pg_name (i := 8) sc_tail_counts.nd rfl (Or.inl rfl))) (fun _ _ _ _ _ => pts_nil) (fun _ _ _ _ _ => (pe_call ih_tail_counts hr rfl T.g_tail_counts T.F_tail_counts.kp T.b_tail_counts .nil passN (pa_cons (pv 0) (pa_cons (pv 8) (pa_cons (pe_op op_add (pe_ix ix_tup (pv 1) pe_int (fun _ _ => rfl)) pe_int) (pa_cons (pv 3) pa_nil))))))))
      (pss_one (ps_setLc (i := 5) (own := [("outcome", 7)]) rfl sc_tail_counts.nd rfl rfl (sw_true rfl rfl rfl (by decide +kernel)) (pi_range1 rfl T.z_range (pa_cons (pe_fld (pv 0) rfl) pa_nil)) (blkOk_by (N := N_tail_counts) (sc := defScope s_tail_counts) (by decide +kernel)) (fun _ _ _ _ _ => (pg_name (i := 7) sc_tail_counts.nd rfl (Or.inr rfl))) (fun _ _ _ _ _ => pts_nil) (fun _ _ _ _ _ => (pe_callB (cr_sum rfl) (by rfl) T.z_sum (by decide +kernel) (pa_cons (pe_lc (own := [("part", 10)]) rfl sc_tail_counts.nd (pi_list (pv 6)) (blkOk_by (N := N_tail_counts) (by exact rfl)) (fun _ _ _ _ _ => (pg_name (i := 10) sc_tail_counts.nd rfl (Or.inl rfl))) (fun _ _ _ _ _ => pts_nil) (fun _ _ _ _ _ => (pe_ix ix_tup (pv 10) (pv 7) (fun _ _ => rfl)))) pa_nil)))))))
      (pss_cons (ps_set (i := 4) sc_tail_counts.nd rfl (Or.inr rfl) (pe_call (ok_count_choices_T T) (hr.mono (by omega)) rfl T.g_count_choices T.F_count_choices.kp T.b_count_choices .nil passN (pa_cons (pe_call (ok_free_widths T) (hr.mono (by omega)) rfl T.g_free_widths T.F_free_widths.kp T.b_free_widths .nil passN (pa_cons (pv 0) (pa_cons (pv 1) (pa_cons (pv 2) (pa_cons (pv 3) pa_nil))))) pa_nil)))
      (pss_one (ps_ret (pe_callTy call_tupleN (by rfl) T.z_tuple (by decide +kernel) (pa_cons (pe_lc (own := [("count", 9)]) rfl sc_tail_counts.nd (pi_list (pv 5)) (blkOk_by (N := N_tail_counts) (sc := defScope s_tail_counts) (by decide +kernel)) (fun _ _ _ _ _ => (pg_name (i := 9) sc_tail_counts.nd rfl (Or.inl rfl))) (fun _ _ _ _ _ => pts_nil) (fun _ _ _ _ _ => (pe_op op_mulX (pv 4) (pv 9)))) pa_nil)))))),
      (sSeq (sIfS (sTest (sOp roEq (sOp roIxT sVar sInt) sStr)) (sAsg (sLc (siR1 (sFldO (NS := NS_Query) (i := 2) T.cls_Query T.na_Query_outcomes rfl (by decide) sVar)) (gwName List.mem_cons_self) (fun _ _ _ => sName) (fun _ _ _ => sYes) (fun _ _ _ => (sIf (sTest (sOp roEq sVar (sOp roIxT sVar sInt))) sInt sInt))) sName) (sSeq (sAsg (sLc (siT (sCall (sCons sVar sNil))) (gwName List.mem_cons_self) (fun _ _ _ => sName) (fun _ _ _ => sYes) (fun _ _ _ => (sCall (sCons sVar (sCons sVar (sCons (sOp roInt0 (sOp roIxT sVar sInt) sInt) (sCons sVar sNil))))))) sName)
      (sAsg (sLc (siR1 (sFldO (NS := NS_Query) (i := 2) T.cls_Query T.na_Query_outcomes rfl (by decide) sVar)) (gwName List.mem_cons_self) (fun _ _ _ => sName) (fun _ _ _ => sYes) (fun _ _ _ => (sCB rcSum (sCons (sLc (siL sVar) (gwName List.mem_cons_self) (fun _ _ _ => sName) (fun _ _ _ => sYes) (fun _ _ _ => (sOp roIxT sVar sVar))) sNil)))) sName)))
      (sSeq (sAsg (sCall (sCons (sCall (sCons sVar (sCons sVar (sCons sVar (sCons sVar sNil))))) sNil)) sName)
      (sRet (sCB rcTuple (sCons (sLc (siL sVar) (gwName List.mem_cons_self) (fun _ _ _ => sName) (fun _ _ _ => sYes) (fun _ _ _ => (sOp roInt sVar sVar))) sNil)))))⟩) (fun ds μ Φ Ψ h => ?hv)
  case hv =>
    obtain ⟨ws, oc, t0, t, st, R, rfl, hw, ho, ht, hn, hp, hR, h100, h⟩ := h
    have hE1 : st ≤ fE R t := by
      cases t with
      | tell o => exact hR
      | look p ts => exact ht.ge
    have hE2 : fE R t ≤ 100 := by
      cases t with
      | tell o => exact h100
      | look p ts => have := hp p (by rw [qPl]; exact List.mem_cons_self); show p ≤ 100; omega
    generalize hFd : pwk ws st (fE R t - st) = F at *
    refine seq_cut fun M hM => ?_
    have fin : ∀ (cs : List Nat) (x : Option D), (∀ c ∈ cs, c ≤ 2 ^ 202) → (cs.map fun c => F * c) = ((List.range oc).map fun r => tc ws R r t st) →
        M [some (qO T.c_Query t0 ws oc), some (qD t), some (.int (st : Int)), some (.int (R : Int)), none, some (.lst (nI cs)), x, none, none, none, none] μ := fun cs x hcs he => by
      rw [hM]; clear hM M
      refine seq_cut fun M hM => ?_
      walk_at "wp"
      refine ⟨ws, oc, t0, t, st, R, rfl, hw, hE1, hE2, ?_⟩
      show c_count_choices_T [.tup ((wls ws st (fE R t - st)).map .int)] μ _ _
      rw [w_count_choices_TC (WC.wls hw st (by omega)), prodI_wls, hFd]
      rw [hM]; clear hM M
      walk_at "wp"
      unfold nI
      refine lcM (l := cs) _ (fun (c : Nat) => .int ((F * c : Nat) : Int)) (by
        have := congrArg List.length he
        rw [List.length_map, List.length_map, List.length_range] at this
        omega) (fun c μ2 X hc hsub hx => ?_) ?_
      · walk_at "wps"
        refine ⟨?_, by rw [← Int.natCast_mul]; exact hx⟩
        have h1 := pw_bd hw (k := fE R t - st) (a := st) (by omega)
        rw [hFd] at h1
        have h2 := hcs c hc
        have h3 : (2 : Nat) ^ 202 < 2 ^ 203 := by decide
        exact mulx 201 203 h1 (by omega) (by decide)
      · rw [← nI_map, he]
        exact ⟨_, .lst _, ret_same h⟩
    cases t with
    | tell o =>
      rw [qD] at fin ⊢
      unfold qO at fin ⊢
      walk_at "wp"
      refine ⟨⟨by omega, by omega, ?_⟩, fun z => absurd trivial z⟩
      refine lcR (fun r => .int ((if r = o then 1 else 0 : Nat) : Int)) (by omega) (fun r μ2 X hr hsub hx => ?_) ?_
      · walk_at "wp"
        by_cases e : r = o
        · rw [if_pos e] at hx
          exact ⟨fun _ => hx, fun z => absurd (by rw [e]) z⟩
        · rw [if_neg e] at hx
          exact ⟨fun z => absurd (Int.ofNat.inj z) e, fun _ => hx⟩
      · rw [← nI_map]
        refine fin _ _ (fun c hc => ?_) ?_
        · obtain ⟨r, _, rfl⟩ := List.mem_map.mp hc
          split <;> omega
        · rw [List.map_map]
          refine List.map_congr_left fun r _ => ?_
          rw [tc, ← hFd]
          rfl
    | look p ts =>
      have hpR := hp p (by rw [qPl]; exact List.mem_cons_self)
      have hl := ht.len
      have hw1 := hw.wd1 p
      rw [qD] at fin ⊢
      unfold qO at fin ⊢
      rw [qDep] at hn
      walk_at "wp"
      refine ⟨fun z => absurd z (by decide), fun _ => ?_⟩
      refine seq_cut fun N hN => ?_
      walk_at "wp"
      refine ⟨_, rfl, ?_⟩
      rw [List.drop_succ_cons, List.drop_succ_cons, List.drop_zero, qDs_map]
      refine ⟨_, rfl, ?_⟩
      refine lcM (l := ts) _ (fun t => .tup (nI ((List.range oc).map fun r => tc ws R r t (p + 1)))) (by omega) (fun t μ2 X hu hsub hx => ?_) ?_
      · walk_at "wp"
        have := qdeps_le hu
        exact ⟨ws, oc, t0, t, p + 1, R, by rw [Int.natCast_add]; rfl, hw, ho, ht.sub hu, by omega, fun q hq => hp q (by rw [qPl]; exact List.mem_cons_of_mem _ (qpls_mem.mpr ⟨t, hu, hq⟩)), by omega, h100, hx⟩
      rw [hN]; clear hN N
      walk_at "wp"
      refine ⟨by omega, by omega, ?_⟩
      refine lcR (fun r => .int (((tc.tcs ws R r ts (p + 1)).sum : Nat) : Int)) (by omega) (fun r μ2 X hr hsub hx => ?_) ?_
      · walk_at "wp"
        refine lcM (l := ts) _ (fun t => .int ((tc ws R r t (p + 1) : Nat) : Int)) (by omega) (fun t μ2 X hu hsub hx => ?_) ?_
        · walk_at "wp"
          exact ⟨_, nI_at (by simpa using hr), by simpa using hx⟩
        · rw [← nI_map, nI_ints]
          refine w_sumL ?_
          rw [nI_sum, ← tcs_map]
          exact hx
      · rw [← nI_map]
        rw [qDs_map] at fin
        refine fin _ _ (fun c hc => ?_) ?_
        · obtain ⟨r, _, rfl⟩ := List.mem_map.mp hc
          exact tcs_le hw ht hp h100
        · rw [List.map_map]
          refine List.map_congr_left fun r _ => ?_
          rw [tc, ← hFd]
          rfl
end
section
variable {P : Program} {w : World} {K : Fg} {mg : Str → Option Value} {base : Heap}
section
variable {P : Program} {w : World} {K : Fg} {mg : Str → Option Value} {base : Heap}
theorem okN_tail_counts (T : Txt P w K mg) : ∀ n, FnOk P w K mg base (L2N.CX P w) (4 + n) T.f_tail_counts T.d_tail_counts ["query", "term", "start", "reach"] (spOf K (c_tail_counts T.c_Query n))
  | 0 => fn_never fun ds μ Φ Ψ h => by obtain ⟨_, _, _, _, _, _, _, _, _, _, h, _⟩ := h; omega
  | n + 1 => step_tail_counts T (k := 4 + n) (by omega) n (okN_tail_counts T n)
theorem ok_tail_counts (T : Txt P w K mg) : FnOk P w K mg base (L2N.CX P w) 30 T.f_tail_counts T.d_tail_counts ["query", "term", "start", "reach"] (spOf K (c_tail_counts T.c_Query 21)) := (okN_tail_counts T 21).mono (by decide)
end
def c_counts_behind (C : Addr) : Con := fun ds μ Φ _ => ∃ (ws : List Int) (oc : Nat) (t0 : QT) (p : Nat) (ts : List QT) (st R o : Nat), ds = [qO C t0 ws oc, qD (.look p ts), .int (R : Int), .int (o : Int)] ∧ WsOk ws ∧ oc ≤ 4 ∧ o < oc ∧ IsS ws oc st (.look p ts) ∧ qDep (.look p ts) < 21 ∧ (∀ q ∈ qPl (.look p ts), q < R) ∧ R ≤ 100 ∧ Φ (.lst (nI (tc.tcs ws R o ts (p + 1)))) μ
theorem len_counts_behind {C ds μ Φ Ψ} (h : c_counts_behind C ds μ Φ Ψ) : ds.length = 4 := by obtain ⟨_, _, _, _, _, _, _, _, rfl, _⟩ := h; rfl
theorem ok_counts_behind (T : Txt P w K mg) : FnOk P w K mg base (L2N.CX P w) 31 T.f_counts_behind T.d_counts_behind ["query", "term", "reach", "outcome"] (spOf K (c_counts_behind T.c_Query)) := by
  refine def_okC T.F_counts_behind sc_counts_behind _ (fun ds μ Φ Ψ h => len_counts_behind h) (fun cdv A outer s H E B hW hr =>
    have tk : L2N.Takes (cxOf (L2N.CX P w) P w K mg base N_counts_behind "counts_behind" (defScope s_counts_behind) T.f_counts_behind cdv A outer s H E) (fun cls d _ H => E cls d H) := L2N.takes_of rfl rfl rfl rfl
    ⟨_, (pss_one (ps_ret (pe_lc (own := [("below", 4)]) rfl sc_counts_behind.nd (pi_tup (pe_call (ok_terms_behind T) (hr.mono (by decide)) rfl T.g_terms_behind T.F_terms_behind.kp T.b_terms_behind .nil passN (pa_cons (pv 1) pa_nil))) (blkOk_by (N := N_counts_behind) (sc := defScope s_counts_behind) (by decide +kernel)) (fun _ _ _ _ _ => (pg_name (i := 4) sc_counts_behind.nd rfl (Or.inl rfl))) (fun _ _ _ _ _ => pts_nil) (fun _ _ _ _ _ => (pe_ix ix_tup (pe_call (ok_tail_counts T) hr rfl T.g_tail_counts T.F_tail_counts.kp T.b_tail_counts .nil passN (pa_cons (pv 0) (pa_cons (pv 4) (pa_cons (pe_op op_add (pe_ix ix_tup (pv 1) pe_int (fun _ _ => rfl)) pe_int) (pa_cons (pv 2) pa_nil))))) (pv 3) (fun _ _ => rfl)))))),
      (sRet (sLc (siT (sCall (sCons sVar sNil))) (gwName List.mem_cons_self) (fun _ _ _ => sName) (fun _ _ _ => sYes) (fun _ _ _ => (sOp roIxT (sCall (sCons sVar (sCons sVar (sCons (sOp roInt0 (sOp roIxT sVar sInt) sInt) (sCons sVar sNil))))) sVar))))⟩) (fun ds μ Φ Ψ h => ?hv)
  case hv =>
    obtain ⟨ws, oc, t0, p, ts, st, R, o, rfl, hw, ho4, ho, ht, hn, hp, h100, h⟩ := h
    have hpR := hp p (by rw [qPl]; exact List.mem_cons_self)
    have hl := ht.len
    have hw1 := hw.wd1 p
    rw [qDep] at hn
    rw [qD]
    unfold qO
    walk_at "wps"
    refine ⟨_, rfl, ?_⟩
    rw [List.drop_succ_cons, List.drop_succ_cons, List.drop_zero, qDs_map]
    refine ⟨_, rfl, ?_⟩
    refine lcM (l := ts) _ (fun t => .int ((tc ws R o t (p + 1) : Nat) : Int)) (by omega) (fun t μ2 X hu hsub hx => ?_) ?_
    · walk_at "wps"
      have := qdeps_le hu
      refine ⟨ws, oc, t0, t, p + 1, R, by rw [Int.natCast_add]; rfl, hw, ho4, ht.sub hu, by omega, fun q hq => hp q (by rw [qPl]; exact List.mem_cons_of_mem _ (qpls_mem.mpr ⟨t, hu, hq⟩)), by omega, h100, ?_⟩
      walk_at "wp"
      exact ⟨_, nI_at (by simpa using ho), by simpa using hx⟩
    · rw [← nI_map, ← tcs_map]
      exact ret_same h
def c_count_heads (C : Addr) : Con := fun ds μ Φ _ => ∃ (ws : List Int) (oc : Nat) (ps : List Nat) (t : QT), ds = [qO C t ws oc] ∧ QFit ws oc ps t ∧ Φ (.tup (nI ((List.range oc).map fun r => tc ws (rc ws t) r (stl ws t) 0))) μ
theorem len_count_heads {C ds μ Φ Ψ} (h : c_count_heads C ds μ Φ Ψ) : ds.length = 1 := by obtain ⟨_, _, _, _, rfl, _⟩ := h; rfl
theorem ok_count_heads (T : Txt P w K mg) : FnOk P w K mg base (L2N.CX P w) 62 T.f_count_heads T.d_count_heads ["query"] (spOf K (c_count_heads T.c_Query)) := by
  refine def_okC T.F_count_heads sc_count_heads _ (fun ds μ Φ Ψ h => len_count_heads h) (fun cdv A outer s H E B hW hr =>
    have tk : L2N.Takes (cxOf (L2N.CX P w) P w K mg base N_count_heads "count_heads" (defScope s_count_heads) T.f_count_heads cdv A outer s H E) (fun cls d _ H => E cls d H) := L2N.takes_of rfl rfl rfl rfl
    ⟨_, (pss_cons (ps_set (i := 1) sc_count_heads.nd rfl (Or.inl rfl) (pe_call (ok_settled_term T) hr rfl T.g_settled_term T.F_settled_term.kp T.b_settled_term .nil passN (pa_cons (pv 0) pa_nil)))
      (pss_one (ps_ret (pe_call (ok_tail_counts T) (hr.mono (by decide)) rfl T.g_tail_counts T.F_tail_counts.kp T.b_tail_counts .nil passN (pa_cons (pv 0) (pa_cons (pv 1) (pa_cons pe_int (pa_cons (pe_call (ok_term_reach T) (hr.mono (by decide)) rfl T.g_term_reach T.F_term_reach.kp T.b_term_reach .nil passN (pa_cons (pv 1) pa_nil)) pa_nil)))))))),
      (sSeq (sAsg (sCall (sCons sVar sNil)) sName)
      (sRet (sCall (sCons sVar (sCons sVar (sCons sInt (sCons (sCall (sCons sVar sNil)) sNil)))))))⟩) (fun ds μ Φ Ψ h => ?hv)
  case hv =>
    obtain ⟨ws, oc, ps, t, rfl, hf, h⟩ := h
    have S := stl_of hf
    have d8 := S.dp
    refine seq_cut fun M hM => ?_
    walk_at "wp"
    refine ⟨ws, oc, ps, t, rfl, hf, ?_⟩
    show M _ μ
    rw [hM]; clear hM M
    walk_at "wps"
    refine ⟨ws, oc, stl ws t, rfl, S.is.ok, by omega, by have := S.ln; omega, ?_⟩
    exact ⟨ws, oc, t, stl ws t, 0, rc ws t, rfl, hf.w, hf.o4, S.is, by omega, S.rlt, Nat.zero_le _, S.r100, ret_same h⟩
def c_head_at (C O : Addr) : Con := fun ds μ Φ Ψ => ∃ (ws : List Int) (oc : Nat) (ps : List Nat) (t : QT) (o i : Int), ds = [qO C t ws oc, .int o, .int i] ∧ QFit ws oc ps t ∧
  (¬ (0 ≤ o ∧ o < (oc : Int)) → Ψ (.mk O none) μ) ∧ ∀ r : Nat, o = (r : Int) → r < oc → (¬ (0 ≤ i ∧ i < ((tc ws (rc ws t) r (stl ws t) 0 : Nat) : Int)) → Ψ (.mk O none) μ) ∧ ∀ j : Nat, i = (j : Int) → j < tc ws (rc ws t) r (stl ws t) 0 → Φ (.tup (nI (ha ws (rc ws t) r (stl ws t) 0 j))) μ
theorem len_head_at {C O ds μ Φ Ψ} (h : c_head_at C O ds μ Φ Ψ) : ds.length = 3 := by obtain ⟨_, _, _, _, _, _, rfl, _⟩ := h; rfl
theorem w_choice_atC {O : Addr} {ws i} {μ Φ Ψ} (h : WC ws) (h0 : 0 ≤ i) (h1 : i < prodI ws) (q : Φ (.tup ((choA ws i).map .int)) μ) : c_choice_at O [.tup (ws.map .int), .int i] μ Φ Ψ := ⟨ws, i, rfl, h, fun _ => q, fun z => absurd ⟨h0, h1⟩ z⟩
theorem ok_head_at (T : Txt P w K mg) : FnOk P w K mg base (L2N.CX P w) 63 T.f_head_at T.d_head_at ["query", "outcome", "index"] (spOf K (c_head_at T.c_Query T.c_OutOfRange)) := by
  refine def_okC T.F_head_at sc_head_at _ (fun ds μ Φ Ψ h => len_head_at h) (fun cdv A outer s H E B hW hr =>
    have tk : L2N.Takes (cxOf (L2N.CX P w) P w K mg base N_head_at "head_at" (defScope s_head_at) T.f_head_at cdv A outer s H E) (fun cls d _ H => E cls d H) := L2N.takes_of rfl rfl rfl rfl
    ⟨_, (pss_cons (ps_expr (pe_callS (ok_require_outcome T) (hr.mono (by decide)) rfl T.g_require_outcome T.F_require_outcome.kp T.b_require_outcome (fun σ => L2N.passAt tk σ) (pa_cons (pv 0) (pa_cons (pv 1) pa_nil))))
      (pss_cons (ps_if (pt_not (pt_chain op_le op_lt pe_int (pv 2) (pe_ix ix_tup (pe_call (ok_count_heads T) hr rfl T.g_count_heads T.F_count_heads.kp T.b_count_heads .nil passN (pa_cons (pv 0) pa_nil)) (pv 1) (fun _ _ => rfl)))) (pss_one (L2N.ps_raise rfl tk (L2N.pmk_own PySem.F.excBase_ValueError T.x_OutOfRange T.g_OutOfRange T.k_OutOfRange (raises_own T.e_OutOfRange T.t_OutOfRange) rfl))) pss_nil)
      (pss_cons (ps_set (i := 3) sc_head_at.nd rfl (Or.inl rfl) (pe_call (ok_settled_term T) (hr.mono (by decide)) rfl T.g_settled_term T.F_settled_term.kp T.b_settled_term .nil passN (pa_cons (pv 0) pa_nil)))
      (pss_cons (ps_set (i := 4) sc_head_at.nd rfl (Or.inl rfl) (pe_call (ok_term_reach T) (hr.mono (by decide)) rfl T.g_term_reach T.F_term_reach.kp T.b_term_reach .nil passN (pa_cons (pv 3) pa_nil)))
      (pss_cons (ps_set (i := 5) sc_head_at.nd rfl (Or.inl rfl) (pe_tupN pa_nil))
      (pss_cons (ps_set (i := 6) sc_head_at.nd rfl (Or.inl rfl) (pv 2))
      (pss_cons (ps_while (passes_of rfl) (pt_cmpR op_eq (pe_ix ix_tup (pv 3) pe_int (fun _ _ => rfl)) pe_str (nomark _)) (pss_cons (ps_set (i := 7) sc_head_at.nd rfl (Or.inl rfl) (pe_call (ok_counts_behind T) (hr.mono (by decide)) rfl T.g_counts_behind T.F_counts_behind.kp T.b_counts_behind .nil passN (pa_cons (pv 0) (pa_cons (pv 3) (pa_cons (pv 4) (pa_cons (pv 1) pa_nil))))))
      (pss_cons (ps_asg (pe_callB call_divmodW (by rfl) T.z_divmod (by decide +kernel) (pa_cons (pv 6) (pa_cons (pe_callB (cr_sum rfl) (by rfl) T.z_sum (by decide +kernel) (pa_cons (pv 7) pa_nil)) pa_nil))) (pg_tup (n := 2) rfl (pgs_cons (pg_name (i := 8) sc_head_at.nd rfl (Or.inl rfl)) (pgs_cons (pg_name (i := 6) sc_head_at.nd rfl (Or.inl rfl)) pgs_nil))))
      (pss_cons (ps_asg (pe_callS (ok_split_option T) (hr.mono (by decide)) rfl T.g_split_option T.F_split_option.kp T.b_split_option (fun σ => L2N.passAt tk σ) (pa_cons (pv 7) (pa_cons (pv 6) pa_nil))) (pg_tup (n := 2) rfl (pgs_cons (pg_name (i := 9) sc_head_at.nd rfl (Or.inl rfl)) (pgs_cons (pg_name (i := 6) sc_head_at.nd rfl (Or.inl rfl)) pgs_nil))))
      (pss_cons (ps_set (i := 5) sc_head_at.nd rfl (Or.inl rfl) (pe_op op_catN (pe_op op_catN (pv 5) (pe_callS (ok_choice_at T) (hr.mono (by decide)) rfl T.g_choice_at T.F_choice_at.kp T.b_choice_at (fun σ => L2N.passAt tk σ) (pa_cons (pe_call (ok_free_widths T) (hr.mono (by decide)) rfl T.g_free_widths T.F_free_widths.kp T.b_free_widths .nil passN (pa_cons (pv 0) (pa_cons (pv 3) (pa_cons (pe_callB call_len_seq (by rfl) T.z_len PySem.boot_len (pa_cons (pv 5) pa_nil)) (pa_cons (pv 4) pa_nil))))) (pa_cons (pv 8) pa_nil)))) (pe_tupN (pa_cons (pv 9) pa_nil))))
      (pss_one (ps_set (i := 3) sc_head_at.nd rfl (Or.inl rfl) (pe_ix ix_tup (pv 3) (pe_op op_add (pe_glob (v := .int 2) rfl T.g_ITEMS_BEFORE.choose_spec ⟨_, rfl⟩) (pv 9)) (fun _ _ => rfl)))))))))
      (pss_one (ps_ret (pe_op op_catN (pv 5) (pe_callS (ok_choice_at T) (hr.mono (by decide)) rfl T.g_choice_at T.F_choice_at.kp T.b_choice_at (fun σ => L2N.passAt tk σ) (pa_cons (pe_call (ok_free_widths T) (hr.mono (by decide)) rfl T.g_free_widths T.F_free_widths.kp T.b_free_widths .nil passN (pa_cons (pv 0) (pa_cons (pv 3) (pa_cons (pe_callB call_len_seq (by rfl) T.z_len PySem.boot_len (pa_cons (pv 5) pa_nil)) (pa_cons (pv 4) pa_nil))))) (pa_cons (pv 6) pa_nil))))))))))))),
      (sSeq (sDrop (sCallSW (W := fun cls d _ H => E cls d H) (by exact hW) (sCons sVar (sCons sVar sNil))))
      (sSeq (sIfS (sNot (sTest (sChain roBl0 roBl0 sInt sVar (sOp roIxT (sCall (sCons sVar sNil)) sVar)))) (sRaise0W (W := fun cls d _ H => E cls d H) (C := T.c_OutOfRange) (by exact hW)) sNext)
      (sSeq (sAsg (sCall (sCons sVar sNil)) sName)
      (sSeq (sAsg (sCall (sCons sVar sNil)) sName)
      (sSeq (sAsg (sTup sNil) sName)
      (sSeq (sAsg sVar sName)
      (sSeq (sWhile (sTest (sOp roEq (sOp roIxT sVar sInt) sStr)) (sSeq (sAsg (sCall (sCons sVar (sCons sVar (sCons sVar (sCons sVar sNil))))) sName)
      (sSeq (sAsg (sCB rcDivmod (sCons sVar (sCons (sCB rcSum (sCons sVar sNil)) sNil))) (sgTup (sgCons sName (sgCons sName sgNil))))
      (sSeq (sAsg (sCallSW (W := fun cls d _ H => E cls d H) (by exact hW) (sCons sVar (sCons sVar sNil))) (sgTup (sgCons sName (sgCons sName sgNil))))
      (sSeq (sAsg (sOp roCatT (sOp roCatT sVar (sCallSW (W := fun cls d _ H => E cls d H) (by exact hW) (sCons (sCall (sCons sVar (sCons sVar (sCons (sCB rcLen (sCons sVar sNil)) (sCons sVar sNil))))) (sCons sVar sNil)))) (sTup (sCons sVar sNil))) sName)
      (sAsg (sOp roIxT sVar (sOp roInt0 sInt sVar)) sName))))))
      (sRet (sOp roCatT sVar (sCallSW (W := fun cls d _ H => E cls d H) (by exact hW) (sCons (sCall (sCons sVar (sCons sVar (sCons (sCB rcLen (sCons sVar sNil)) (sCons sVar sNil))))) (sCons sVar sNil))))))))))))⟩) (fun ds μ Φ Ψ h => ?hv)
  case hv =>
    obtain ⟨ws, oc, ps, t, o, i, rfl, hf, h1, h2⟩ := h
    have S := stl_of hf
    have d8 := S.dp
    have r100 := S.r100
    have hw := hf.w
    refine seq_cut fun M hM => ?_
    walk_at "wp"
    refine ⟨ws, oc, t, o, rfl, fun c => ?_, fun c => ⟨_, Sub.refl, h1 c⟩⟩
    obtain ⟨r, rfl⟩ : ∃ r : Nat, o = (r : Int) := ⟨o.toNat, by omega⟩
    have hr : r < oc := by omega
    obtain ⟨h2, h3⟩ := h2 r rfl hr
    show M _ μ
    rw [hM]; clear hM M
    refine seq_cut fun M hM => ?_
    walk_at "wp"
    refine ⟨fun c0 => ?_, fun c0 => ⟨_, Sub.refl, h2 fun z => c0 z.1⟩⟩
    obtain ⟨j, rfl⟩ : ∃ j : Nat, i = (j : Int) := ⟨i.toNat, by omega⟩
    refine ⟨ws, oc, ps, t, rfl, hf, ?_⟩
    walk_at "wp"
    refine ⟨_, nI_at (by simpa using hr), ?_⟩
    rw [List.getElem_map, List.getElem_range]
    walk_at "wp"
    refine ⟨fun c1 => ⟨_, Sub.refl, h2 fun z => ?_⟩, fun c1 => ?_⟩
    · simp at c1; omega
    have hj : j < tc ws (rc ws t) r (stl ws t) 0 := by simp at c1; omega
    have h3 := h3 j rfl hj
    rw [hM]; clear hM M
    refine seq_cut fun M hM => ?_
    walk_at "wp"
    refine ⟨ws, oc, ps, t, rfl, hf, ?_⟩
    show M _ μ
    rw [hM]; clear hM M
    refine seq_cut fun M hM => ?_
    walk_at "wp"
    refine ⟨ws, oc, stl ws t, rfl, S.is.ok, by omega, by have := S.ln; omega, ?_⟩
    show M _ μ
    rw [hM]; clear hM M
    refine seq_cut fun M hM => ?_
    walk_at "wp"
    refine ⟨by omega, ?_⟩
    rw [hM]; clear hM M
    refine seq_cut fun M hM => ?_
    walk_at "wp"
    rw [hM]; clear hM M
    refine seq_cut fun M hM => ?_
    walk_at "wp"
    refine ⟨fun m δ' μ' => μ' = μ ∧ ∃ (u : QT) (hd : List Nat) (k : Nat) (x7 x8 x9 : Option D), δ' = [some (qO T.c_Query t ws oc), some (.int (r : Int)), some (.int (j : Int)), some (qD u), some (.int (rc ws t : Int)), some (.tup (nI hd)), some (.int (k : Int)), x7, x8, x9] ∧
      IsS ws oc hd.length u ∧ (∀ q ∈ qPl u, q < rc ws t) ∧ hd.length ≤ rc ws t ∧ k < tc ws (rc ws t) r u hd.length ∧ qDep u = m ∧ qDep u ≤ 8 ∧ hd ++ ha ws (rc ws t) r u hd.length k = ha ws (rc ws t) r (stl ws t) 0 j,
      ⟨qDep (stl ws t), rfl, stl ws t, [], j, none, none, none, rfl, S.is, S.rlt, Nat.zero_le _, hj, rfl, d8, rfl⟩, ?_⟩
    rintro m δ' μ' ⟨rfl, u, hd, k, x7, x8, x9, rfl, w1, w2, w3, w4, w5, w6, w7⟩
    cases u with
    | tell o =>
      rw [tc] at w4
      have hro : r = o := Classical.byContradiction fun z => by rw [if_neg z, Nat.mul_zero] at w4; omega
      rw [if_pos hro, Nat.mul_one] at w4
      obtain ⟨g1, g2, g3, g4⟩ := chN_spec hw w4
      rw [ha] at w7
      rw [qD]
      walk_at "wp"
      rw [hM]; clear hM M
      walk_at "wps"
      refine ⟨fun z => absurd z (by decide), fun _ => ⟨ws, oc, t, .tell o, hd.length, rc ws t, by rw [nI_len]; rfl, hw, w3, r100, ?_⟩⟩
      refine w_choice_atC (WC.wls hw _ (by show rc ws t - hd.length ≤ 100; omega)) (by omega) (by rw [prodI_wls]; show (k : Int) < ((pwk ws hd.length (rc ws t - hd.length) : Nat) : Int); omega) ?_
      rw [show (choA (wls ws hd.length (fE (rc ws t) (.tell o) - hd.length)) (k : Int)).map D.int = nI (chN ws hd.length (rc ws t - hd.length) k) from by rw [nI_ints]; exact congrArg (List.map D.int) g3.symm]
      walk_at "wp"
      refine ⟨by rw [nI_len, nI_len]; omega, ret_same ?_⟩
      rw [← w7] at h3
      unfold nI at h3 ⊢
      rw [List.map_append] at h3
      exact h3
    | look p ts =>
      obtain ⟨o, i, u, et, esp, hi, pS, hm, hd1, hsum, eq⟩ := ha_look w4
      have hpR := w2 p (by rw [qPl]; exact List.mem_cons_self)
      have hpg := w1.ge
      have hl := w1.len
      have hum := List.mem_of_getElem? et
      have S2 := tcs_le (r := r) hw w1 w2 r100
      obtain ⟨g1, g2, g3, g4⟩ := chN_spec hw hd1
      have hdep : qDep u < qDep (.look p ts) := by have := qdeps_le hum; rw [qDep]; omega
      rw [eq] at w7
      rw [qD]
      walk_at "wp"
      refine ⟨?_, fun z => absurd trivial z⟩
      refine seq_cut fun N hN => ?_
      walk_at "wp"
      refine ⟨ws, oc, t, p, ts, hd.length, rc ws t, r, rfl, hw, hf.o4, hr, w1, by omega, w2, r100, ?_⟩
      show N _ μ'
      rw [hN]; clear hN N
      generalize hcs : tc.tcs ws (rc ws t) r ts (p + 1) = cs at *
      have hcl : cs.length = ts.length := by rw [← hcs, tcs_map, List.length_map]
      have hw4 := hw.wd1 p
      refine seq_cut fun N hN => ?_
      walk_at "wp"
      rw [nI_ints]
      refine w_sumL ?_
      rw [nI_sum, ← nI_ints]
      walk_at "wp"
      refine ⟨divp_small (by omega) (by have h3 : (2 : Nat) ^ 202 < 2 ^ 300 := by decide
                                        omega), ?_⟩
      rw [show (k : Int) / ((cs.sum : Nat) : Int) = ((k / cs.sum : Nat) : Int) from (Int.natCast_ediv _ _).symm, show (k : Int) % ((cs.sum : Nat) : Int) = ((k % cs.sum : Nat) : Int) from (Int.natCast_emod _ _).symm]
      rw [hN]; clear hN N
      refine seq_cut fun N hN => ?_
      walk_at "wp"
      refine ⟨cs, _, rfl, by omega, hm, ?_⟩
      rw [esp]
      unfold pairD
      walk_at "wp"
      rw [hN]; clear hN N
      refine seq_cut fun N hN => ?_
      walk_at "wp"
      refine ⟨ws, oc, t, .look p ts, hd.length, rc ws t, by rw [nI_len]; rfl, hw, hpg, by show p ≤ 100; omega, ?_⟩
      refine w_choice_atC (WC.wls hw _ (by show p - hd.length ≤ 100; omega)) (Int.natCast_nonneg _) (by rw [prodI_wls]; exact Int.ofNat_lt.mpr hd1) ?_
      rw [show (choA (wls ws hd.length (fE (rc ws t) (.look p ts) - hd.length)) ((k / cs.sum : Nat) : Int)).map D.int = nI (chN ws hd.length (p - hd.length) (k / cs.sum)) from by rw [nI_ints]; exact congrArg (List.map D.int) g3.symm]
      walk_at "wp"
      refine ⟨by rw [nI_len, nI_len]; omega, by omega, by rw [List.length_append, nI_len, nI_len]; omega, ?_⟩
      rw [hN]; clear hN N
      walk_at "wp"
      refine ⟨qD u, ?_, qDep u, by omega, u, hd ++ chN ws hd.length (p - hd.length) (k / cs.sum) ++ [o], i, some (.lst (nI cs)), some (.int ((k / cs.sum : Nat) : Int)), some (.int (o : Int)), ?_, ?_, fun q hq => w2 q (by rw [qPl]; exact List.mem_cons_of_mem _ (qpls_mem.mpr ⟨u, hum, hq⟩)), ?_, ?_, rfl, by omega, ?_⟩
      · rw [show (2 : Int) + (o : Int) = ((o + 1 + 1 : Nat) : Int) by omega]
        exact atI_nat (by rw [List.getElem?_cons_succ, List.getElem?_cons_succ, qDs_map, List.getElem?_map, et]; rfl)
      · unfold nI
        rw [List.map_append, List.map_append]
        rfl
      · rw [List.length_append, List.length_append, g1, List.length_singleton, show hd.length + (p - hd.length) + 1 = p + 1 by omega]
        exact w1.sub hum
      · rw [List.length_append, List.length_append, g1, List.length_singleton]; omega
      · rw [List.length_append, List.length_append, g1, List.length_singleton, show hd.length + (p - hd.length) + 1 = p + 1 by omega]
        exact hi
      · rw [List.length_append, List.length_append, g1, List.length_singleton, show hd.length + (p - hd.length) + 1 = p + 1 by omega, ← w7]
        simp
end
section
variable {P : Program} {w : World} {K : Fg} {mg : Str → Option Value} {base : Heap}
def c_tail_index (C O : Addr) (n : Nat) : Con := fun ds μ Φ _ => ∃ (ws : List Int) (oc : Nat) (t0 t : QT) (st R : Nat) (l : List Nat) (f : Nat → Nat), ds = [qO C t0 ws oc, qD t, .int (R : Int), .tup (nI l), .int (st : Int)] ∧ WsOk ws ∧ oc ≤ 4 ∧ IsS ws oc st t ∧ qDep t < n ∧ qDep t < 21 ∧ (∀ q ∈ qPl t, q < R) ∧ st ≤ R ∧ R ≤ 100 ∧ l.length = R ∧ HdA ws 0 l ∧ f = (fun q => l.getD q 0) ∧ Φ (.tup [.int (qA f t : Int), .int (ti ws R (qA f t) f t st : Int)]) μ
theorem len_tail_index {C O n ds μ Φ Ψ} (h : c_tail_index C O n ds μ Φ Ψ) : ds.length = 5 := by obtain ⟨_, _, _, _, _, _, _, _, rfl, _⟩ := h; rfl
theorem cut_mid {ds : List D} {a k : Nat} (h : a + k ≤ ds.length) : DW.cutD ds (some (a : Int)) (some ((a + k : Nat) : Int)) = (ds.drop a).take k := by
  unfold DW.cutD
  show (ds.drop (min (a : Int).toNat ds.length)).take (min ((a + k : Nat) : Int).toNat ds.length - min (a : Int).toNat ds.length) = _
  rw [Int.toNat_natCast, Int.toNat_natCast, Nat.min_eq_left (by omega), Nat.min_eq_left (by omega), Nat.add_sub_cancel_left]
theorem fi_lt {ws : List Int} {f : Nat → Nat} (hf : ∀ q, f q < wd ws q) : ∀ k a, fi ws f a k < pwk ws a k
  | 0, a => by rw [fi, pwk]; omega
  | k + 1, a => by
    have h1 := fi_lt hf k (a + 1)
    have h2 := hf a
    have h3 : (f a + 1) * pwk ws (a + 1) k ≤ wd ws a * pwk ws (a + 1) k := Nat.mul_le_mul_right _ h2
    rw [Nat.add_mul, Nat.one_mul] at h3
    rw [fi, pwk]
    omega
theorem ti_lt {ws : List Int} {oc : Nat} {R st : Nat} {t : QT} {f : Nat → Nat} (h : IsS ws oc st t) (hp : ∀ q ∈ qPl t, q < R) (hR : st ≤ R) (hf : ∀ q, f q < wd ws q) : ti ws R (qA f t) f t st < tc ws R (qA f t) t st := by
  have e1 := tc_cn (r := qA f t) (R - st) t st f h (fun q hq => by have := hp q hq; omega)
  have e2 := ti_rk (r := qA f t) (R - st) t st f h (fun q hq => by have := hp q hq; omega) hf rfl
  rw [show st + (R - st) = R by omega] at e1 e2
  rw [← e1, ← e2]
  exact rk_lt _ _ _ rfl hf
theorem qA_lt {ws : List Int} {oc : Nat} {f : Nat → Nat} (hf : ∀ q, f q < wd ws q) : ∀ (t : QT), QOk ws oc t → qA f t < oc := fun t => by
  induction t using QT.ind with
  | h1 o => intro h; exact h
  | h2 p ts ih =>
    intro h
    obtain ⟨_, h2, h3⟩ := h
    rw [qoks_iff] at h3
    have hx : f p < ts.length := by rw [h2]; exact hf p
    rw [qA_look (List.getElem?_eq_getElem hx)]
    exact ih _ (List.getElem_mem hx) (h3 _ (List.getElem_mem hx))
theorem hd_in {ws : List Int} (hw : WsOk ws) {l : List Nat} (hd : HdA ws 0 l) : ∀ q, (fun q => l.getD q 0) q < wd ws q := fun q => by
  show l.getD q 0 < _
  by_cases z : q < l.length
  · have := hd q z
    rw [Nat.zero_add] at this
    exact this
  · rw [List.getD_eq_getElem?_getD, List.getElem?_eq_none (by omega)]
    exact (hw.wd1 q).1
theorem step_tail_index (T : Txt P w K mg) {k : Nat} (hk : 32 ≤ k) (n : Nat) (ih_tail_index : FnOk P w K mg base (L2N.CX P w) k T.f_tail_index T.d_tail_index ["query", "term", "reach", "head", "start"] (spOf K (c_tail_index T.c_Query T.c_OutOfRange n))) : FnOk P w K mg base (L2N.CX P w) (k + 1) T.f_tail_index T.d_tail_index ["query", "term", "reach", "head", "start"] (spOf K (c_tail_index T.c_Query T.c_OutOfRange (n + 1))) := by
  refine def_okC T.F_tail_index sc_tail_index _ (fun ds μ Φ Ψ h => len_tail_index h) (fun cdv A outer s H E B hW hr =>
    have tk : L2N.Takes (cxOf (L2N.CX P w) P w K mg base N_tail_index "tail_index" (defScope s_tail_index) T.f_tail_index cdv A outer s H E) (fun cls d _ H => E cls d H) := L2N.takes_of rfl rfl rfl rfl
    ⟨_, (pss_cons (ps_set (i := 5) sc_tail_index.nd rfl (Or.inl rfl) (pe_call (ok_free_widths T) (hr.mono (by omega)) rfl T.g_free_widths T.F_free_widths.kp T.b_free_widths .nil passN (pa_cons (pv 0) (pa_cons (pv 1) (pa_cons (pv 4) (pa_cons (pv 2) pa_nil))))))
      (pss_cons (ps_set (i := 6) sc_tail_index.nd rfl (Or.inl rfl) (pe_op op_add (pv 4) (pe_callB call_len_seq (by rfl) T.z_len PySem.boot_len (pa_cons (pv 5) pa_nil))))
      (pss_cons (ps_set (i := 7) sc_tail_index.nd rfl (Or.inl rfl) (pe_callS (ok_choice_index T) (hr.mono (by omega)) rfl T.g_choice_index T.F_choice_index.kp T.b_choice_index (fun σ => L2N.passAt tk σ) (pa_cons (pv 5) (pa_cons (pe_slice sl_tupN (pv 3) (po_some (pv 4)) (po_some (pv 6))) pa_nil))))
      (pss_cons (ps_if (pt_cmpR op_eq (pe_ix ix_tup (pv 1) pe_int (fun _ _ => rfl)) pe_str (nomark _)) (pss_one (ps_ret (pe_tupN (pa_cons (pe_ix ix_tup (pv 1) pe_int (fun _ _ => rfl)) (pa_cons (pv 7) pa_nil))))) pss_nil)
      (pss_cons (ps_set (i := 8) sc_tail_index.nd rfl (Or.inl rfl) (pe_ix ix_tup (pv 3) (pv 6) (fun _ _ => rfl)))
      (pss_cons (ps_asg (pe_callS ih_tail_index hr rfl T.g_tail_index T.F_tail_index.kp T.b_tail_index (fun σ => L2N.passAt tk σ) (pa_cons (pv 0) (pa_cons (pe_ix ix_tup (pv 1) (pe_op op_add (pe_glob (v := .int 2) rfl T.g_ITEMS_BEFORE.choose_spec ⟨_, rfl⟩) (pv 8)) (fun _ _ => rfl)) (pa_cons (pv 2) (pa_cons (pv 3) (pa_cons (pe_op op_add (pv 6) pe_int) pa_nil)))))) (pg_tup (n := 2) rfl (pgs_cons (pg_name (i := 10) sc_tail_index.nd rfl (Or.inl rfl)) (pgs_cons (pg_name (i := 11) sc_tail_index.nd rfl (Or.inl rfl)) pgs_nil))))
      (pss_cons (ps_set (i := 9) sc_tail_index.nd rfl (Or.inl rfl) (pe_call (ok_counts_behind T) (hr.mono (by omega)) rfl T.g_counts_behind T.F_counts_behind.kp T.b_counts_behind .nil passN (pa_cons (pv 0) (pa_cons (pv 1) (pa_cons (pv 2) (pa_cons (pv 10) pa_nil))))))
      (pss_one (ps_ret (pe_tupN (pa_cons (pv 10) (pa_cons (pe_op op_add (pe_op op_mulX (pv 7) (pe_callB (cr_sum rfl) (by rfl) T.z_sum (by decide +kernel) (pa_cons (pv 9) pa_nil))) (pe_callS (ok_join_option T) (hr.mono (by omega)) rfl T.g_join_option T.F_join_option.kp T.b_join_option (fun σ => L2N.passAt tk σ) (pa_cons (pv 9) (pa_cons (pe_tupN (pa_cons (pv 8) (pa_cons (pv 11) pa_nil))) pa_nil)))) pa_nil)))))))))))),
      (sSeq (sAsg (sCall (sCons sVar (sCons sVar (sCons sVar (sCons sVar sNil))))) sName)
      (sSeq (sAsg (sOp roInt0 sVar (sCB rcLen (sCons sVar sNil))) sName)
      (sSeq (sAsg (sCallSW (W := fun cls d _ H => E cls d H) (by exact hW) (sCons sVar (sCons (sSlT sVar (sPart sVar) (sPart sVar)) sNil))) sName)
      (sSeq (sIfS (sTest (sOp roEq (sOp roIxT sVar sInt) sStr)) (sRet (sTup (sCons (sOp roIxT sVar sInt) (sCons sVar sNil)))) sNext)
      (sSeq (sAsg (sOp roIxT sVar sVar) sName)
      (sSeq (sAsg (sCallSW (W := fun cls d _ H => E cls d H) (by exact hW) (sCons sVar (sCons (sOp roIxT sVar (sOp roInt0 sInt sVar)) (sCons sVar (sCons sVar (sCons (sOp roInt0 sVar sInt) sNil)))))) (sgTup (sgCons sName (sgCons sName sgNil))))
      (sSeq (sAsg (sCall (sCons sVar (sCons sVar (sCons sVar (sCons sVar sNil))))) sName)
      (sRet (sTup (sCons sVar (sCons (sOp roInt0 (sOp roInt sVar (sCB rcSum (sCons sVar sNil))) (sCallSW (W := fun cls d _ H => E cls d H) (by exact hW) (sCons sVar (sCons (sTup (sCons sVar (sCons sVar sNil))) sNil)))) sNil)))))))))))⟩) (fun ds μ Φ Ψ h => ?hv)
  case hv =>
    obtain ⟨ws, oc, t0, t, st, R, l, f, rfl, hw, ho4, ht, hn, hn2, hp, hR, h100, hl, hd, hff, h⟩ := h
    have hE1 : st ≤ fE R t := by
      cases t with
      | tell o => exact hR
      | look p ts => exact ht.ge
    have hE3 : fE R t ≤ R := by
      cases t with
      | tell o => exact Nat.le_refl _
      | look p ts => have := hp p (by rw [qPl]; exact List.mem_cons_self); show p ≤ R; omega
    refine seq_cut fun M hM => ?_
    walk_at "wp"
    refine ⟨ws, oc, t0, t, st, R, rfl, hw, hE1, by omega, ?_⟩
    show M _ μ
    rw [hM]; clear hM M
    refine seq_cut fun M hM => ?_
    walk_at "wp"
    rw [hM]; clear hM M
    refine seq_cut fun M hM => ?_
    walk_at "wp"
    have hf := hd_in hw hd
    rw [← hff] at hf
    generalize hk : fE R t - st = k at *
    have hseg : ((l.drop st).take k).length = k := by rw [List.length_take, List.length_drop]; omega
    have hget : ∀ j, j < k → ((l.drop st).take k).getD j 0 = l.getD (st + j) 0 := fun j hj => by
      rw [List.getD_eq_getElem?_getD, List.getElem?_take_of_lt hj, List.getElem?_drop, List.getD_eq_getElem?_getD]
    have hidx := idxU_wls ((l.drop st).take k) st 0 f (ws := ws) (fun j hj => by
      rw [hget j (by omega)]
      have := hf (st + j)
      rw [hff] at this
      exact this) fun j hj => by rw [hget j (by omega), hff]
    rw [hseg, Nat.zero_mul, Nat.zero_add] at hidx
    have ecut : DW.cutD (nI l) (some (st : Int)) (some ((st : Int) + ((wls ws st k).length : Int))) = (zI ((l.drop st).take k)).map D.int := by
      rw [wls_len, ← Int.natCast_add, cut_mid (by rw [nI_len]; omega)]
      unfold nI zI
      rw [List.map_map, List.map_take, List.map_drop]
      rfl
    rw [ecut, wls_len]
    refine ⟨wls ws st k, _, rfl, WC.wls hw st (by omega), fun v h1 h2 => ?_, fun z => ?_⟩
    · rw [show (0 : Int) = ((0 : Nat) : Int) from rfl, hidx] at h2
      obtain rfl := Option.some.inj h2
      show M _ μ
      rw [hM]; clear hM M
      refine seq_cut fun M hM => ?_
      cases t with
      | tell o =>
        have hk : R - st = k := hk
        rw [ti, hk] at h
        rw [qD]
        walk_at "wp"
        exact ⟨⟨by omega, ret_same h⟩, fun z => absurd trivial z⟩
      | look p ts =>
        have hk : p - st = k := hk
        have hpR := hp p (by rw [qPl]; exact List.mem_cons_self)
        have hpg := ht.ge
        have hlen := ht.len
        have hop : f p < ts.length := by rw [hlen]; exact hf p
        have hfp : f p = l[p]'(by omega) := by rw [hff]; show l.getD p 0 = _; rw [List.getD_eq_getElem?_getD, List.getElem?_eq_getElem (by omega)]; rfl
        have hum := List.getElem_mem hop
        have eu : qA f (.look p ts) = qA f ts[f p] := qA_look (List.getElem?_eq_getElem hop)
        rw [qDep] at hn hn2
        have hdu := qdeps_le hum
        rw [qD]
        walk_at "wp"
        refine ⟨fun z => absurd z (by decide), fun _ => ?_⟩
        rw [hM]; clear hM M
        rw [show (st : Int) + (k : Int) = (p : Int) by omega]
        refine seq_cut fun M hM => ?_
        walk_at "wp"
        refine ⟨_, nI_at (i := p) (by omega), ?_⟩
        rw [← hfp]
        rw [hM]; clear hM M
        refine seq_cut fun M hM => ?_
        walk_at "wp"
        refine ⟨qD ts[f p], ?_, ws, oc, t0, ts[f p], p + 1, R, l, f, by rw [Int.natCast_add]; rfl, hw, ho4, ht.sub hum, by omega, by omega, fun q hq => hp q (by rw [qPl]; exact List.mem_cons_of_mem _ (qpls_mem.mpr ⟨_, hum, hq⟩)), by omega, h100, hl, hd, hff, ?_⟩
        · rw [show (2 : Int) + (f p : Int) = ((f p + 1 + 1 : Nat) : Int) by omega]
          exact atI_nat (by rw [List.getElem?_cons_succ, List.getElem?_cons_succ, qDs_map, List.getElem?_map, List.getElem?_eq_getElem hop]; rfl)
        have tl := ti_lt (ht.sub hum) (fun q hq => hp q (by rw [qPl]; exact List.mem_cons_of_mem _ (qpls_mem.mpr ⟨_, hum, hq⟩))) (by omega) hf
        have ol := qA_lt hf _ (IsS.ok _ (ht.sub hum))
        rw [eu] at h
        have S2 := tcs_le (r := qA f ts[f p]) hw ht hp h100
        have fl := fi_lt hf k st
        have pb := pwk_big hw st (k := k) (by omega)
        rw [ti, hk, tis_map, List.getD_eq_getElem?_getD, List.getElem?_map, List.getElem?_eq_getElem hop] at h
        have h : Φ (.tup [.int (qA f ts[f p] : Int), .int ((fi ws f st k * (tc.tcs ws R (qA f ts[f p]) ts (p + 1)).sum + (((tc.tcs ws R (qA f ts[f p]) ts (p + 1)).take (f p)).sum + ti ws R (qA f ts[f p]) f ts[f p] (p + 1)) : Nat) : Int)]) μ := h
        generalize ti ws R (qA f ts[f p]) f ts[f p] (p + 1) = v at *
        generalize qA f ts[f p] = r at *
        walk_at "wp"
        rw [hM]; clear hM M
        refine seq_cut fun M hM => ?_
        walk_at "wp"
        refine ⟨ws, oc, t0, p, ts, st, R, r, rfl, hw, ho4, ol, ht, by rw [qDep]; omega, hp, h100, ?_⟩
        show M _ μ
        rw [hM]; clear hM M
        generalize hcs : tc.tcs ws R r ts (p + 1) = cs at *
        have hcl : cs.length = ts.length := by rw [← hcs, tcs_map, List.length_map]
        have hw4 := hw.wd1 p
        walk_at "wps"
        rw [nI_ints]
        refine w_sumL ?_
        rw [nI_sum, ← nI_ints]
        walk_at "wps"
        have b2 : (2 : Nat) ^ 202 < 2 ^ 203 := by decide
        have b1 : (2 : Nat) ^ 200 < 2 ^ 201 := by decide
        refine ⟨mulx 201 203 (by omega) (by omega) (by decide), by omega, cs, f p, v, tc ws R r ts[f p] (p + 1), rfl, by omega, ?_, tl, ?_⟩
        · rw [← hcs, tcs_map, List.getElem?_map, List.getElem?_eq_getElem hop]; rfl
        · walk_at "wp"
          refine ⟨by omega, ret_same ?_⟩
          rw [Int.natCast_add, Int.natCast_mul] at h
          exact h
    · rw [show (0 : Int) = ((0 : Nat) : Int) from rfl, hidx] at z
      rcases z with z | z
      · exact absurd (by rw [wls_len, zI, List.length_map, hseg]) z
      · cases z
section
variable {P : Program} {w : World} {K : Fg} {mg : Str → Option Value} {base : Heap}
theorem okN_tail_index (T : Txt P w K mg) : ∀ n, FnOk P w K mg base (L2N.CX P w) (32 + n) T.f_tail_index T.d_tail_index ["query", "term", "reach", "head", "start"] (spOf K (c_tail_index T.c_Query T.c_OutOfRange n))
  | 0 => fn_never fun ds μ Φ Ψ h => by obtain ⟨_, _, _, _, _, _, _, _, _, _, _, _, h, _⟩ := h; omega
  | n + 1 => step_tail_index T (k := 32 + n) (by omega) n (okN_tail_index T n)
theorem ok_tail_index (T : Txt P w K mg) : FnOk P w K mg base (L2N.CX P w) 60 T.f_tail_index T.d_tail_index ["query", "term", "reach", "head", "start"] (spOf K (c_tail_index T.c_Query T.c_OutOfRange 21)) := (okN_tail_index T 21).mono (by decide)
end
def c_head_index (C O : Addr) : Con := fun ds μ Φ Ψ => ∃ (ws : List Int) (oc : Nat) (ps : List Nat) (t : QT) (cs : List Int), ds = [qO C t ws oc, .tup (cs.map .int)] ∧ QFit ws oc ps t ∧
  (∀ l : List Nat, cs = zI l → l.length = rc ws t → HdA ws 0 l → Φ (.int (ti ws (rc ws t) (qA (fun q => l.getD q 0) (stl ws t)) (fun q => l.getD q 0) (stl ws t) 0 : Int)) μ) ∧
  (cs.length ≠ rc ws t ∨ idxU 0 (wls ws 0 (rc ws t)) cs = none → Ψ (.mk O none) μ)
theorem len_head_index {C O ds μ Φ Ψ} (h : c_head_index C O ds μ Φ Ψ) : ds.length = 2 := by obtain ⟨_, _, _, _, _, rfl, _⟩ := h; rfl
theorem ok_head_index (T : Txt P w K mg) : FnOk P w K mg base (L2N.CX P w) 62 T.f_head_index T.d_head_index ["query", "head"] (spOf K (c_head_index T.c_Query T.c_OutOfRange)) := by
  refine def_okC T.F_head_index sc_head_index _ (fun ds μ Φ Ψ h => len_head_index h) (fun cdv A outer s H E B hW hr =>
    have tk : L2N.Takes (cxOf (L2N.CX P w) P w K mg base N_head_index "head_index" (defScope s_head_index) T.f_head_index cdv A outer s H E) (fun cls d _ H => E cls d H) := L2N.takes_of rfl rfl rfl rfl
    ⟨_, (pss_cons (ps_set (i := 2) sc_head_index.nd rfl (Or.inl rfl) (pe_call (ok_settled_term T) hr rfl T.g_settled_term T.F_settled_term.kp T.b_settled_term .nil passN (pa_cons (pv 0) pa_nil)))
      (pss_cons (ps_set (i := 3) sc_head_index.nd rfl (Or.inl rfl) (pe_call (ok_term_reach T) (hr.mono (by decide)) rfl T.g_term_reach T.F_term_reach.kp T.b_term_reach .nil passN (pa_cons (pv 2) pa_nil)))
      (pss_cons (ps_expr (pe_callS (ok_choice_index T) (hr.mono (by decide)) rfl T.g_choice_index T.F_choice_index.kp T.b_choice_index (fun σ => L2N.passAt tk σ) (pa_cons (pe_call (ok_span_widths T) (hr.mono (by decide)) rfl T.g_span_widths T.F_span_widths.kp T.b_span_widths .nil passN (pa_cons (pe_fld (pv 0) rfl) (pa_cons pe_int (pa_cons (pv 3) pa_nil)))) (pa_cons (pv 1) pa_nil))))
      (pss_one (ps_ret (pe_ix ix_tup (pe_callS (ok_tail_index T) (hr.mono (by decide)) rfl T.g_tail_index T.F_tail_index.kp T.b_tail_index (fun σ => L2N.passAt tk σ) (pa_cons (pv 0) (pa_cons (pv 2) (pa_cons (pv 3) (pa_cons (pv 1) (pa_cons pe_int pa_nil)))))) pe_int (fun _ _ => rfl))))))),
      (sSeq (sAsg (sCall (sCons sVar sNil)) sName)
      (sSeq (sAsg (sCall (sCons sVar sNil)) sName)
      (sSeq (sDrop (sCallSW (W := fun cls d _ H => E cls d H) (by exact hW) (sCons (sCall (sCons (sFldO (NS := NS_Query) (i := 1) T.cls_Query T.na_Query_widths rfl (by decide) sVar) (sCons sInt (sCons sVar sNil)))) (sCons sVar sNil))))
      (sRet (sOp roIxT (sCallSW (W := fun cls d _ H => E cls d H) (by exact hW) (sCons sVar (sCons sVar (sCons sVar (sCons sVar (sCons sInt sNil)))))) sInt)))))⟩) (fun ds μ Φ Ψ h => ?hv)
  case hv =>
    obtain ⟨ws, oc, ps, t, cs, rfl, hf, h1, h2⟩ := h
    have S := stl_of hf
    have d8 := S.dp
    have r100 := S.r100
    have hw := hf.w
    refine seq_cut fun M hM => ?_
    walk_at "wp"
    refine ⟨ws, oc, ps, t, rfl, hf, ?_⟩
    show M _ μ
    rw [hM]; clear hM M
    refine seq_cut fun M hM => ?_
    walk_at "wp"
    refine ⟨ws, oc, stl ws t, rfl, S.is.ok, by omega, by have := S.ln; omega, ?_⟩
    show M _ μ
    rw [hM]; clear hM M
    refine seq_cut fun M hM => ?_
    unfold qO
    walk_at "wp"
    refine ⟨ws, 0, rc ws t, by rw [Nat.zero_add]; rfl, hw, by omega, ?_⟩
    refine ⟨wls ws 0 (rc ws t), cs, rfl, WC.wls hw 0 r100, fun v e1 e2 => ?_, fun z => ⟨_, Sub.refl, h2 (by rw [wls_len] at z; exact z)⟩⟩
    rw [wls_len] at e1
    obtain ⟨l, e3, hd⟩ := idxU_inv _ _ _ _ _ e1 e2
    have el : l.length = rc ws t := by rw [e3, zI, List.length_map] at e1; exact e1
    have h3 := h1 l e3 el hd
    subst e3
    show M _ μ
    rw [hM]; clear hM M
    walk_at "wps"
    refine ⟨ws, oc, t, stl ws t, 0, rc ws t, l, _, by unfold nI zI; rw [List.map_map]; rfl, hw, hf.o4, S.is, by omega, by omega, S.rlt, Nat.zero_le _, r100, el, hd, rfl, ?_⟩
    walk_at "wps"
    exact ret_same h3
end
section
variable {P : Program} {w : World} {K : Fg} {mg : Str → Option Value} {base : Heap}
def c__law_tell : Con := fun ds μ Φ _ => ∃ (ws : List Int) (oc : Nat) (t : QT) (ps l : List Nat), ds = [qD t, .lst (nI ps), .lst (nI l)] ∧ WsOk ws ∧ QOk ws oc t ∧ qDep t ≤ 20 ∧ ps.Nodup ∧ ps.length ≤ 8 ∧ l ∈ hs ws ps ∧ Φ (.int (tl t ps l : Int)) μ
theorem len__law_tell {ds μ Φ Ψ} (h : c__law_tell ds μ Φ Ψ) : ds.length = 3 := by obtain ⟨_, _, _, _, _, rfl, _⟩ := h; rfl
theorem ok__law_tell {cx : CXT} (T : Txt P w K mg) : FnOk P w K mg base cx 1 T.f__law_tell T.d__law_tell ["_law_term", "_law_places", "_law_head"] (spOf K c__law_tell) := by
  refine def_okC T.F__law_tell sc__law_tell _ (fun ds μ Φ Ψ h => len__law_tell h) (fun cdv A outer s H E B hW hr =>
    ⟨_, (pss_cons (ps_for (passes_of rfl) rfl (pi_range1 rfl T.z_range (pa_cons pe_int pa_nil)) (pg_name (i := 3) sc__law_tell.nd rfl (Or.inl rfl)) (pss_cons (ps_if (pt_cmpR op_eq (pe_ix ix_tup (pv 0) pe_int (fun _ _ => rfl)) pe_str (nomark _)) (pss_one (ps_ret (pe_ix ix_tup (pv 0) pe_int (fun _ _ => rfl)))) pss_nil)
      (pss_cons (ps_set (i := 4) sc__law_tell.nd rfl (Or.inl rfl) pe_int)
      (pss_cons (ps_if (pt_cmpR op_in_seq (pe_ix ix_tup (pv 0) pe_int (fun _ _ => rfl)) (pv 1) (by with_unfolding_all rfl)) (pss_one (ps_set (i := 4) sc__law_tell.nd rfl (Or.inl rfl) (pe_ix ix_list (pv 2) (pe_bm PySem.F.plainAttrs_list PySem.F.slot_list_index PySem.F.type_list_index mt_index (pv 1) (pa_cons (pe_ix ix_tup (pv 0) pe_int (fun _ _ => rfl)) pa_nil)) (fun _ _ => rfl)))) pss_nil)
      (pss_one (ps_set (i := 0) sc__law_tell.nd rfl (Or.inl rfl) (pe_ix ix_tup (pv 0) (pe_op op_add pe_int (pv 4)) (fun _ _ => rfl))))))))
      (pss_one (ps_ret pe_non))),
      (sSeq (sFor (siR1 sInt) (fun _ _ _ => sName) (fun _ _ _ => (sSeq (sIfS (sTest (sOp roEq (sOp roIxT sVar sInt) sStr)) (sRet (sOp roIxT sVar sInt)) sNext)
      (sSeq (sAsg sInt sName)
      (sSeq (sIfS (sTest (sOp (roIn (neg := false)) (sOp roIxT sVar sInt) sVar)) (sAsg (sOp roIxL sVar (sIdx sVar (sOp roIxT sVar sInt))) sName) sNext)
      (sAsg (sOp roIxT sVar (sOp roInt0 sInt sVar)) sName))))))
      (sRet sNon))⟩) (fun ds μ Φ Ψ h => ?hv)
  case hv =>
    obtain ⟨ws, oc, t, ps, l, rfl, hw, ht, hd, hnd, h8, hl, h⟩ := h
    have hlt := rd_lt hw hl
    have hll := (hs_mem.mp hl).1
    refine seq_cut fun M0 hM0 => ?_
    walk_at "wp"
    refine ⟨by omega, by omega, fun i δ' μ' => μ' = μ ∧ ∃ (s : QT) (x y : Option D), δ' = [some (qD s), some (.lst (nI ps)), some (.lst (nI l)), x, y] ∧ QOk ws oc s ∧ qA (rd ps l) s = tl t ps l ∧ qDep s + i ≤ 20, ⟨rfl, t, none, none, rfl, ht, rfl, by omega⟩, ?_, ?_⟩
    · rintro i d δ' μ' hi ⟨rfl, s, x, y, rfl, hs, ha, hds⟩
      obtain ⟨hj, rfl⟩ := rngD_get hi
      cases s with
      | tell o =>
        rw [qD]
        refine seq_cut fun M hM => ?_
        walk_at "wp"
        exact ⟨ret_same (by rw [← ha] at h; exact h), fun z => absurd trivial z⟩
      | look p ts =>
        obtain ⟨hp1, hlen, hts⟩ := hs
        rw [qoks_iff] at hts
        rw [qDep] at hds
        have hop : rd ps l p < ts.length := by rw [hlen]; exact hlt p
        have hdl := qdeps_le (List.getElem_mem hop)
        have ei : (2 : Int) + ((rd ps l p : Nat) : Int) = ((rd ps l p + 1 + 1 : Nat) : Int) := by omega
        have fin : ∃ d, atI (D.str "look" :: D.int (p : Int) :: qDs ts) (2 + ((rd ps l p : Nat) : Int)) = some d ∧ ∃ s, d = qD s ∧ QOk ws oc s ∧ qA (rd ps l) s = tl t ps l ∧ qDep s + (i + 1) ≤ 20 :=
          ⟨qD ts[rd ps l p], by
            rw [ei]
            exact atI_nat (by rw [List.getElem?_cons_succ, List.getElem?_cons_succ, qDs_map, List.getElem?_map, List.getElem?_eq_getElem hop]; rfl), _, rfl, hts _ (List.getElem_mem hop), by rw [← ha]; exact (qA_look (List.getElem?_eq_getElem hop)).symm, by omega⟩
        rw [qD]
        refine seq_cut fun M hM => ?_
        walk_at "wp"
        refine ⟨fun q => absurd q (by decide), fun _ => ?_⟩
        rw [hM]; clear hM M
        refine seq_cut fun M hM => ?_
        walk_at "wp"
        rw [hM]; clear hM M
        refine seq_cut fun M hM => ?_
        have go : M [some (qD (.look p ts)), some (.lst (nI ps)), some (.lst (nI l)), some (.int (i : Int)), some (.int ((rd ps l p : Nat) : Int))] μ' := by
          rw [hM]
          rw [qD]
          walk_at "wp"
          obtain ⟨d, h1, s2, rfl, h2⟩ := fin
          exact ⟨_, h1, s2, _, _, rfl, h2⟩
        walk_at "wp"
        rw [qD] at go
        refine in_N ⟨.lst _, ?_⟩
        refine ⟨_, rfl, fun q => ?_, fun q => ?_⟩
        · have hpin : p ∈ ps := by simpa using q
          have hj2 := List.idxOf_lt_length_iff.mpr hpin
          have hpj := List.getElem_idxOf hj2
          have hjl : ps.idxOf p < l.length := by rw [hll]; exact hj2
          refine ⟨rfl, by rw [nI_ints]; exact flat_I _, ps.idxOf p, .int (p : Int), by unfold nI; rw [List.getElem?_map, List.getElem?_eq_getElem hj2, hpj]; rfl, by simp [eqF], fun m z' hm hz => ?_, .int ((rd ps l p : Nat) : Int), ?_, go⟩
          · obtain ⟨hm2, rfl⟩ := nI_get hz
            have : ps[m] ≠ p := fun e => List.pairwise_iff_getElem.mp hnd m _ hm2 hj2 hm (by rw [e, hpj])
            have : ¬ ((ps[m] : Nat) : Int) = (p : Int) := fun e => this (Int.ofNat.inj e)
            simp [eqF, this]
          · refine atI_nat ?_
            unfold nI rd
            rw [List.getElem?_map, List.getD_eq_getElem?_getD, List.getElem?_eq_getElem hjl]; rfl
        · have hpn : p ∉ ps := by simpa using q
          have e0 : rd ps l p = 0 := by
            unfold rd
            have hn : ¬ ps.idxOf p < ps.length := fun y => hpn (List.idxOf_lt_length_iff.mp y)
            rw [List.getD_eq_getElem?_getD, List.getElem?_eq_none (by omega)]
            rfl
          rw [e0] at go
          exact go
    · rintro δ' μ' ⟨rfl, s, x, y, rfl, hs, ha, hds⟩
      exact absurd hds (by have : Int.toNat 120 = 120 := rfl; omega)
section
variable {P : Program} {w : World} {K : Fg} {mg : Str → Option Value} {base : Heap}
theorem okN__law_query_term (T : Txt P w K mg) : ∀ n, FnOk P w K mg base (L2N.CX P w) (2 + n) T.f__law_query_term T.d__law_query_term ["_law_state", "_law_size", "_law_places", "_law_levels"] (spOf K (c__law_query_term n))
  | 0 => fn_never fun ds μ Φ Ψ h => by obtain ⟨_, _, _, _, _, _, _, _, _, _, _, _, _, _, _, _, h, _⟩ := h; omega
  | n + 1 => step__law_query_term T (k := 2 + n) (by omega) n (okN__law_query_term T n)
theorem ok__law_query_term (T : Txt P w K mg) : FnOk P w K mg base (L2N.CX P w) 8 T.f__law_query_term T.d__law_query_term ["_law_state", "_law_size", "_law_places", "_law_levels"] (spOf K (c__law_query_term 6)) := okN__law_query_term T 6
theorem okN__law_full_query (T : Txt P w K mg) : ∀ n, FnOk P w K mg base (L2N.CX P w) (2 + n) T.f__law_full_query T.d__law_full_query ["_law_state", "_law_size", "_law_order", "_law_marked", "_law_total"] (spOf K (c__law_full_query n))
  | 0 => fn_never fun ds μ Φ Ψ h => by obtain ⟨_, _, _, _, _, _, _, _, _, _, _, _, _, _, _, _, _, h, _⟩ := h; omega
  | n + 1 => step__law_full_query T (k := 2 + n) (by omega) n (okN__law_full_query T n)
theorem ok__law_full_query (T : Txt P w K mg) : FnOk P w K mg base (L2N.CX P w) 12 T.f__law_full_query T.d__law_full_query ["_law_state", "_law_size", "_law_order", "_law_marked", "_law_total"] (spOf K (c__law_full_query 10)) := okN__law_full_query T 10
end
def c__law_drawn_term : Con := fun ds μ Φ _ => ∃ (st : Addr) (ns : List Int) (c : List D) (ws : List Int) (oc : Nat) (ps : List Nat), ds = [.hd (.ref st), .lst [.tup (ws.map .int), .int (oc : Int)], .lst (nI ps)] ∧ μ st = some (.lst c) ∧ StC ns c ∧ WsOk ws ∧ 1 ≤ oc ∧ oc ≤ 4 ∧ ps ≠ [] ∧ ps.length ≤ 5 ∧ (∀ p ∈ ps, p < 100) ∧ (hs ws ps).length ≤ 64 ∧
  ∀ t c', QOk ws oc t → qDep t ≤ 8 → (∀ q ∈ qPl t, q ∈ ps) → (qPl t).length ≤ 300 → StC ns c' → Φ (qD t) (sset μ st (.lst c'))
theorem len__law_drawn_term {ds μ Φ Ψ} (h : c__law_drawn_term ds μ Φ Ψ) : ds.length = 3 := by obtain ⟨_, _, _, _, _, _, rfl, _⟩ := h; rfl
theorem lkO_le {ws : List Int} (hw : WsOk ws) : ∀ (ps : List Nat), ps ≠ [] → lkO ws ps ≤ (ps.length - 1) * (hs ws ps).length + 1
  | [], h => absurd rfl h
  | [p], _ => by simp [lkO]
  | p :: q :: ps, _ => by
    have ih := lkO_le hw (q :: ps) (by simp)
    have h1 := hs_pos hw (q :: ps)
    rw [lkO.eq_2 ws p, hs_len_cons p, show (p :: q :: ps).length - 1 = ((q :: ps).length - 1) + 1 by simp]
    generalize (q :: ps).length - 1 = n at *
    generalize (hs ws (q :: ps)).length = P at *
    generalize wd ws p = w at *
    generalize lkO ws (q :: ps) = L at *
    have h2 : w * L ≤ w * (n * P + 1) := Nat.mul_le_mul_left _ ih
    have h3 : w * 1 ≤ w * P := Nat.mul_le_mul_left _ h1
    rw [Nat.mul_add] at h2
    have h4 : w * (n * P) = n * (w * P) := by rw [← Nat.mul_assoc, ← Nat.mul_assoc, Nat.mul_comm w n]
    rw [Nat.add_mul, Nat.one_mul]
    omega
theorem hs_perm {ws : List Int} {l l' : List Nat} (h : l.Perm l') : (hs ws l).length = (hs ws l').length := by
  induction h with
  | nil => rfl
  | cons a _ ih => rw [hs_len_cons, hs_len_cons, ih]
  | swap a b l => rw [hs_len_cons, hs_len_cons, hs_len_cons, hs_len_cons, ← Nat.mul_assoc, ← Nat.mul_assoc, Nat.mul_comm (wd ws _)]
  | trans _ _ a b => exact a.trans b
theorem ok__law_drawn_term (T : Txt P w K mg) : FnOk P w K mg base (L2N.CX P w) 14 T.f__law_drawn_term T.d__law_drawn_term ["_law_state", "_law_size", "_law_places"] (spOf K c__law_drawn_term) := by
  refine def_okC T.F__law_drawn_term sc__law_drawn_term _ (fun ds μ Φ Ψ h => len__law_drawn_term h) (fun cdv A outer s H E B hW hr =>
    have tk : L2N.Takes (cxOf (L2N.CX P w) P w K mg base N__law_drawn_term "_law_drawn_term" (defScope s__law_drawn_term) T.f__law_drawn_term cdv A outer s H E) (fun cls d _ H => E cls d H) := L2N.takes_of rfl rfl rfl rfl
    ⟨_, (pss_cons (ps_if (pt_cmpR op_eq (pe_call (ok__law_pick T) (hr.mono (by decide)) rfl T.g__law_pick T.F__law_pick.kp T.b__law_pick .nil passN (pa_cons (pv 0) (pa_cons pe_int pa_nil))) pe_int (nomark _)) (pss_one (ps_ret (pe_call (ok__law_query_term T) (hr.mono (by decide)) rfl T.g__law_query_term T.F__law_query_term.kp T.b__law_query_term .nil passN (pa_cons (pv 0) (pa_cons (pv 1) (pa_cons (pv 2) (pa_cons (pe_op op_add pe_int (pe_call (ok__law_pick T) (hr.mono (by decide)) rfl T.g__law_pick T.F__law_pick.kp T.b__law_pick .nil passN (pa_cons (pv 0) (pa_cons pe_int pa_nil)))) pa_nil))))))) pss_nil)
      (pss_cons (ps_setLc (i := 3) (own := [("_law_place", 4)]) rfl sc__law_drawn_term.nd rfl rfl (sw_true rfl rfl rfl (by decide +kernel)) (pi_list (pv 2)) (blkOk_by (N := N__law_drawn_term) (sc := defScope s__law_drawn_term) (by decide +kernel)) (fun _ _ _ _ _ => (pg_name (i := 4) sc__law_drawn_term.nd rfl (Or.inl rfl))) (fun _ _ _ _ _ => (pts_one (pt_cmpR op_gt (pe_call (ok__law_pick T) (hr.mono (by decide)) rfl T.g__law_pick T.F__law_pick.kp T.b__law_pick .nil passN (pa_cons (pv 0) (pa_cons pe_int pa_nil))) pe_int (nomark _)))) (fun _ _ _ _ _ => (pv 4)))
      (pss_one (ps_ret (pe_call (ok__law_full_query T) (hr.mono (by decide)) rfl T.g__law_full_query T.F__law_full_query.kp T.b__law_full_query .nil passN (pa_cons (pv 0) (pa_cons (pv 1) (pa_cons (pe_call (ok__law_shuffled T) (hr.mono (by decide)) rfl T.g__law_shuffled T.F__law_shuffled.kp T.b__law_shuffled .nil passN (pa_cons (pv 0) (pa_cons (pv 2) pa_nil))) (pa_cons (pv 3) (pa_cons (pe_call (ok__law_pick T) (hr.mono (by decide)) rfl T.g__law_pick T.F__law_pick.kp T.b__law_pick .nil passN (pa_cons (pv 0) (pa_cons pe_int pa_nil))) pa_nil)))))))))),
      (sSeq (sIfS (sTest (sOp roEq (sCall (sCons sVar (sCons sInt sNil))) sInt)) (sRet (sCall (sCons sVar (sCons sVar (sCons sVar (sCons (sOp roInt0 sInt (sCall (sCons sVar (sCons sInt sNil)))) sNil)))))) sNext)
      (sSeq (sAsg (sLc (siL sVar) (gwName List.mem_cons_self) (fun _ _ _ => sName) (fun _ _ _ => (sTest (sOp roBl0 (sCall (sCons sVar (sCons sInt sNil))) sInt))) (fun _ _ _ => sVar)) sName)
      (sRet (sCall (sCons sVar (sCons sVar (sCons (sCall (sCons sVar (sCons sVar sNil))) (sCons sVar (sCons (sCall (sCons sVar (sCons sInt sNil))) sNil)))))))))⟩) (fun ds μ Φ Ψ h => ?hv)
  case hv =>
    obtain ⟨st, ns, c, ws, oc, ps, rfl, hc, sc, hw, o1, o4, hne, h5, h100, h64, h⟩ := h
    refine seq_cut fun M hM => ?_
    walk_at "wp"
    refine ⟨st, ns, c, 4, rfl, hc, sc, by omega, log_small (n := 4) (by omega), fun y c1 y0 y1 sc1 => ?_⟩
    walk_at "wp"
    refine ⟨fun _ => ⟨st, ns, c1, 3, rfl, sset_same, sc1, by omega, log_small (n := 3) (by omega), fun z c2 z0 z1 sc2 => ?_⟩, fun _ => ?_⟩
    · walk_at "wp"
      obtain ⟨z, rfl⟩ : ∃ n : Nat, z = (n : Int) := ⟨z.toNat, by omega⟩
      refine ⟨st, ns, c2, ws, oc, 1 + z, ps, by rw [Int.natCast_add]; rfl, sset_same, sc2, hw, o1, o4, hne, by omega, h100, by omega, by omega, fun t c3 q1 q2 q3 q4 sc3 => ?_⟩
      have hk : lkN (1 + z) ≤ 300 := by
        rcases (show z = 0 ∨ z = 1 ∨ z = 2 by omega) with rfl | rfl | rfl <;> decide
      have := h t c3 q1 (by omega) q3 (by omega) sc3
      simp only [sset_sset]
      exact ret_same this
    · rw [hM]; clear hM M
      refine seq_cut fun M hM => ?_
      walk_at "wp"
      refine lcG_drawG (StC ns) (fun i acc => ∃ ms : List Nat, acc = nI ms ∧ ms.length ≤ i) (by rw [nI_len]; omega) sset_same sc1 ⟨[], rfl, by simp⟩ (fun i d μ2 X Y acc c3 hi hs2 sc ⟨ms, e, hl⟩ hla hx hy => ?_) (fun acc c3 ⟨ms, e, hl⟩ hla sc3 => ?_)
      · obtain ⟨hil, rfl⟩ := nI_get hi
        walk_at "wp"
        refine ⟨st, ns, c3, 4, rfl, hs2, sc, by omega, log_small (n := 4) (by omega), fun z c4 z0 z1 sc4 => ?_⟩
        walk_at "wp"
        subst e
        refine ⟨fun _ => hx _ _ sc4 ⟨ms ++ [ps[i]], by unfold nI; rw [List.map_append]; rfl, by rw [List.length_append]; simp; omega⟩, fun _ => hy _ sc4 ⟨ms, rfl, by omega⟩⟩
      · subst e
        rw [nI_len] at hl
        rw [hM]; clear hM M
        walk_at "wps"
        refine ⟨st, ns, c3, ps, rfl, sset_same, sc3, by omega, fun qs c4 hq sc4 => ?_⟩
        refine ⟨st, ns, c4, 4, rfl, sset_same, sc4, by omega, log_small (n := 4) (by omega), fun z c5 z0 z1 sc5 => ?_⟩
        have hql := hq.length_eq
        refine ⟨st, ns, c5, ws, oc, qs, ms, z, rfl, sset_same, sc5, hw, o1, o4, by omega, by omega, fun p hp => h100 p (hq.mem_iff.mp hp), by omega, fun t c6 q1 q2 q3 q4 sc6 => ?_⟩
        have hqn : qs ≠ [] := fun z => by rw [z] at hql; exact hne (List.eq_nil_of_length_eq_zero hql.symm)
        have hk := lkO_le hw qs hqn
        rw [hs_perm hq, hql] at hk
        have h5' : (ps.length - 1) * (hs ws ps).length ≤ 4 * 64 := Nat.mul_le_mul (by omega) h64
        have := h t c6 q1 (by omega) (fun q hq2 => hq.mem_iff.mp (q3 q hq2)) (by omega) sc6
        simp only [sset_sset]
        exact ret_same this
end
section
variable {P : Program} {w : World} {K : Fg} {mg : Str → Option Value} {base : Heap}
/-- the needed places, as the law finds them -/
def ndl (ws : List Int) (T : List Nat) : List Nat → List Nat
  | [] => []
  | p :: B => if (List.range T.length).any (ndB (fun q => T.getD q 0) (wd ws p) (hs ws B).length) then p :: ndl ws T B else ndl ws T B
def c__law_needed : Con := fun ds μ Φ _ => ∃ (ws : List Int) (ps T : List Nat), ds = [.tup (ws.map .int), .lst (nI ps), .lst (nI T)] ∧ WsOk ws ∧ ps.length ≤ 8 ∧ T.length = (hs ws ps).length ∧ T.length ≤ 256 ∧ Φ (.lst (nI (ndl ws T ps))) μ
theorem len__law_needed {ds μ Φ Ψ} (h : c__law_needed ds μ Φ Ψ) : ds.length = 3 := by obtain ⟨_, _, _, rfl, _⟩ := h; rfl
theorem nd_in {q n w A : Nat} (hn : 0 < n) (hw : 0 < w) (hq : q < A * (w * n)) (hx : (q / n) % w < w - 1) : q + n < A * (w * n) := by
  have h1 : q / n < A * w := by rw [Nat.div_lt_iff_lt_mul hn, Nat.mul_assoc]; exact hq
  have h2 : q / n / w < A := (Nat.div_lt_iff_lt_mul hw).mpr h1
  have e1 := Nat.div_add_mod q n
  have e2 := Nat.div_add_mod (q / n) w
  have h3 := Nat.mod_lt q hn
  generalize q / n = Q at *
  generalize q % n = b at *
  generalize Q / w = D at *
  have h4 : w * (D + 1) ≤ w * A := Nat.mul_le_mul_left _ h2
  rw [Nat.mul_add, Nat.mul_one] at h4
  have h5 : n * (Q + 2) ≤ n * (w * A) := Nat.mul_le_mul_left _ (by omega)
  rw [Nat.mul_add] at h5
  have e3 : A * (w * n) = n * (w * A) := by rw [Nat.mul_comm A, Nat.mul_comm w n, Nat.mul_assoc]
  rw [e3]
  omega
theorem any_lc {n : Nat} {p : Nat → Bool} {μ : Sto} {Φ : DK} (h : Φ (.bl ((List.range n).any p)) μ) : cAny [.lst ((List.range n).map fun q => D.bl (p q))] μ Φ := by
  rw [show ((List.range n).map fun q => D.bl (p q)) = ((List.range n).map p).map D.bl by rw [List.map_map]; rfl, w_any, List.any_map]
  exact h
theorem ok__law_needed {cx : CXT} (T : Txt P w K mg) : FnOk P w K mg base cx 2 T.f__law_needed T.d__law_needed ["_law_widths_here", "_law_places", "_law_told"] (spOf K c__law_needed) := by
  refine def_okC T.F__law_needed sc__law_needed _ (fun ds μ Φ Ψ h => len__law_needed h) (fun cdv A outer s H E B hW hr =>
    ⟨_, (pss_cons (ps_set (i := 3) sc__law_needed.nd rfl (Or.inl rfl) (pe_lst pa_nil))
      (pss_cons (ps_set (i := 4) sc__law_needed.nd rfl (Or.inr rfl) (pe_callB call_len_seq (by rfl) T.z_len PySem.boot_len (pa_cons (pv 2) pa_nil)))
      (pss_cons (ps_for (passes_of rfl) rfl (pi_list (pv 1)) (pg_name (i := 5) sc__law_needed.nd rfl (Or.inl rfl)) (pss_cons (ps_set (i := 6) sc__law_needed.nd rfl (Or.inr rfl) (pe_call (ok__law_width T) hr rfl T.g__law_width T.F__law_width.kp T.b__law_width .nil passN (pa_cons (pv 0) (pa_cons (pv 5) pa_nil))))
      (pss_cons (ps_set (i := 4) sc__law_needed.nd rfl (Or.inr rfl) (pe_op op_fdivW (pv 4) (pv 6)))
      (pss_one (ps_if (pt_val (pe_callB (cr_any rfl) (by rfl) T.z_any (by decide +kernel) (pa_cons (pe_lc (own := [("_law_p", 7)]) rfl sc__law_needed.nd (pi_range1 rfl T.z_range (pa_cons (pe_callB call_len_seq (by rfl) T.z_len PySem.boot_len (pa_cons (pv 2) pa_nil)) pa_nil)) (blkOk_by (N := N__law_needed) (sc := defScope s__law_needed) (by decide +kernel)) (fun _ _ _ _ _ => (pg_name (i := 7) sc__law_needed.nd rfl (Or.inl rfl))) (fun _ _ _ _ _ => pts_nil) (fun _ _ _ _ _ => (pe_and (pe_cmpR op_lt (pe_op op_mod (pe_callTy call_int1 (by rfl) T.z_int (by decide +kernel) (pa_cons (pe_op op_fdivW (pv 7) (pv 4)) pa_nil)) (pv 6)) (pe_op op_sub (pv 6) pe_int) (nomark _)) (pe_one (pe_cmpR op_ne (pe_ix ix_list (pv 2) (pv 7) (fun _ _ => rfl)) (pe_ix ix_list (pv 2) (pe_op op_add (pv 7) (pv 4)) (fun _ _ => rfl)) (nomark _)))))) pa_nil))) (pss_one (ps_expr (pe_bm PySem.F.plainAttrs_list PySem.F.slot_list_append PySem.F.type_list_append mt_append (pv 3) (pa_cons (pv 5) pa_nil)))) pss_nil)))))
      (pss_one (ps_ret (pv 3)))))),
      (sSeq (sAsg (sOwn sNil) sName)
      (sSeq (sAsg (sCB rcLen (sCons sVar sNil)) sName)
      (sSeq (sFor (siL sVar) (fun _ _ _ => sName) (fun _ _ _ => (sSeq (sAsg (sCall (sCons sVar (sCons sVar sNil))) sName)
      (sSeq (sAsg (sOp roInt sVar sVar) sName)
      (sIfS (sB (sCB rcAny (sCons (sLc (siR1 (sCB rcLen (sCons sVar sNil))) (gwName List.mem_cons_self) (fun _ _ _ => sName) (fun _ _ _ => sYes) (fun _ _ _ => (sAndV (sOp roBl0 (sOp roInt (sCB rcInt (sCons (sOp roInt sVar sVar) sNil)) sVar) (sOp roInt0 sVar sInt)) (sOp roNe (sOp roIxL sVar sVar) (sOp roIxL sVar (sOp roInt0 sVar sVar)))))) sNil))) (sDrop (sApp sVar sVar)) sNext)))))
      (sRet sRest))))⟩) (fun ds μ Φ Ψ h => ?hv)
  case hv =>
    obtain ⟨ws, ps, T', rfl, hw, h8, hT, hT2, h⟩ := h
    refine seq_cut fun M hM => ?_
    walk_at "wp"
    refine ⟨by omega, fun a ha => ?_⟩
    rw [hM]; clear hM M
    refine seq_cut fun M hM => ?_
    walk_at "wp"
    rw [hM]; clear hM M
    refine seq_cut fun M hM => ?_
    walk_at "wp"
    refine ⟨fun i δ' μ' => ∃ (acc : List Nat) (x5 x6 x7 : Option D), δ' = [some (.tup (ws.map .int)), some (.lst (nI ps)), some (.lst (nI T')), some (.hd (.ref a)), some (.int ((hs ws (ps.drop i)).length : Int)), x5, x6, x7] ∧ μ' = sset μ a (.lst (nI acc)) ∧ acc ++ ndl ws T' (ps.drop i) = ndl ws T' ps ∧ acc.length ≤ i,
      ⟨[], none, none, none, by rw [List.drop_zero, nI_len, hT], rfl, rfl, Nat.le_refl _⟩, ?_, ?_⟩
    · rintro i d δ' μ' hi ⟨acc, x5, x6, x7, rfl, rfl, he, hal⟩
      obtain ⟨hil, rfl⟩ := nI_get hi
      have ed : ps.drop i = ps[i] :: ps.drop (i + 1) := List.drop_eq_getElem_cons hil
      have hw1 := hw.wd1 ps[i]
      have pB := hs_pos hw (ps.drop (i + 1))
      have hN : T'.length = (hs ws (ps.take i)).length * (wd ws ps[i] * (hs ws (ps.drop (i + 1))).length) := by
        rw [hT, ← hs_len_cons, ← ed, ← hs_len_app, List.take_append_drop]
      rw [ed, hs_len_cons]
      rw [ed, ndl] at he
      generalize hB : (hs ws (ps.drop (i + 1))).length = n at *
      generalize hwd : wd ws ps[i] = wp at *
      have hmul : wp * n ≤ 256 := by
        have h1 : 1 * (wp * n) ≤ (hs ws (ps.take i)).length * (wp * n) := Nat.mul_le_mul_right _ (hs_pos hw _)
        omega
      have hn256 : n ≤ 256 := Nat.le_trans (Nat.le_mul_of_pos_left n (by omega)) hmul
      have hdiv : ((wp * n : Nat) : Int) / (wp : Int) = (n : Int) := by
        rw [← Int.natCast_ediv, Nat.mul_div_cancel_left _ (by omega)]
      refine seq_cut fun N hN2 => ?_
      walk_at "wp"
      refine ⟨ws, ps[i], rfl, hw, ?_⟩
      rw [hwd]
      show N _ _
      rw [hN2]; clear hN2 N
      refine seq_cut fun N hN2 => ?_
      walk_at "wp"
      rw [hdiv]
      refine ⟨⟨by omega, log_small (by omega)⟩, ?_⟩
      rw [hN2]; clear hN2 N
      walk_at "wp"
      rw [nI_len]
      refine ⟨by omega, by omega, ?_⟩
      refine lcR (fun q => .bl (ndB (fun q => T'.getD q 0) wp n q)) (by omega) (fun q μ2 X hq hsub hx => ?_) ?_
      · walk_at "wp"
        have ec : ((q : Int) / (n : Int)) % (wp : Int) = (((q / n) % wp : Nat) : Int) := by rw [Int.natCast_emod, Int.natCast_ediv]
        rw [ec]
        refine ⟨⟨by omega, log_small (n := n) (by omega)⟩, by omega, fun c1 => ?_, fun c1 => ?_⟩
        · have c2 : (q / n) % wp < wp - 1 := by omega
          have hq2 : q + n < T'.length := by rw [hN] at hq ⊢; exact nd_in pB (by omega) hq c2
          refine ⟨_, nI_at hq, _, by rw [← Int.natCast_add]; exact nI_at hq2, ?_⟩
          rw [ndB, decide_eq_true c2, Bool.true_and, List.getD_eq_getElem?_getD, List.getElem?_eq_getElem hq, List.getD_eq_getElem?_getD, List.getElem?_eq_getElem hq2] at hx
          walk_at "wp"
          rw [show decide (((T'[q] : Nat) : Int) = ((T'[q + n] : Nat) : Int)) = decide (T'[q] = T'[q + n]) by rw [decide_eq_decide]; exact Int.ofNat_inj]
          simpa using hx
        · have c2 : ¬ (q / n) % wp < wp - 1 := fun z => c1 (by omega)
          rw [ndB, decide_eq_false c2, Bool.false_and] at hx
          exact hx
      · refine any_lc ?_
        refine ⟨_, rfl, fun c1 => ⟨_, sset_same, _, sset_same, by rw [nI_len]; omega, acc ++ [ps[i]], _, _, _, by rw [hB], ?_, ?_, by rw [List.length_append, List.length_singleton]; omega⟩, fun c1 => ⟨acc, _, _, _, by rw [hB], rfl, ?_, by omega⟩⟩
        · rw [sset_sset]
          unfold nI
          rw [List.map_append]
          rfl
        · rw [if_pos c1] at he
          rw [← he]
          simp
        · rw [if_neg (by rw [c1]; decide)] at he
          exact he
    · rintro δ' μ' ⟨acc, x5, x6, x7, rfl, rfl, he, hal⟩
      rw [nI_len, List.drop_length, ndl, List.append_nil] at he
      subst he
      rw [hM]; clear hM M
      walk_at "wps"
      exact ⟨μ, Sub.set Sub.refl ha, h⟩
end
section
variable {P : Program} {w : World} {K : Fg} {mg : Str → Option Value} {base : Heap}
/-- the needed places -/
noncomputable def nsOf (ws : List Int) (t : QT) (ps : List Nat) : List Nat := ps.filter fun p => decide (p ∈ qPl (stl ws t))
theorem tl_both {ws : List Int} {oc : Nat} {ps qs : List Nat} {t : QT} (h : QFit ws oc ps t) {c : List Nat} (hc : c ∈ hs ws qs) : tl t qs c = tl (stl ws t) qs c := tl_eq h.w (stl_of h).an hc
theorem ndl_ns {ws : List Int} {oc : Nat} {ps : List Nat} {t : QT} (h : QFit ws oc ps t) {T : List Nat} (hT : T = (hs ws ps).map (tl t ps)) : ∀ (B A : List Nat), A ++ B = ps → ndl ws T B = B.filter fun p => decide (p ∈ qPl (stl ws t))
  | [], A, e => rfl
  | p :: B, A, e => by
    have S := stl_of h
    have hTl : T.length = (hs ws ps).length := by rw [hT, List.length_map]
    have hnd : (A ++ p :: B).Nodup := by rw [e]; exact h.sorted.imp (fun z => by omega)
    have key := needed_iff (T := fun q => T.getD q 0) h.w S.is hnd (fun q hq => by rw [e]; exact h.pl q (S.pl q hq)) fun i c hc => by
      rw [e] at hc ⊢
      show T.getD i 0 = _
      rw [hT, List.getD_eq_getElem?_getD, List.getElem?_map, hc]
      exact tl_both h (List.mem_of_getElem? hc)
    rw [ndl, List.filter_cons, ndl_ns h hT B (A ++ [p]) (by rw [← e]; simp)]
    have e2 : (List.range T.length).any (ndB (fun q => T.getD q 0) (wd ws p) (hs ws B).length) = decide (p ∈ qPl (stl ws t)) := by
      rw [Bool.eq_iff_iff, decide_eq_true_eq, ← key, List.any_eq_true]
      constructor
      · rintro ⟨q, hq, hd⟩
        exact ⟨q, by rw [e, ← hTl]; exact List.mem_range.mp hq, hd⟩
      · rintro ⟨q, hq, hd⟩
        exact ⟨q, List.mem_range.mpr (by rw [hTl, ← e]; exact hq), hd⟩
    rw [e2]
theorem hs_filter {ws : List Int} (hw : WsOk ws) (p : Nat → Bool) : ∀ ps : List Nat, (hs ws (ps.filter p)).length ≤ (hs ws ps).length
  | [] => Nat.le_refl _
  | a :: ps => by
    have ih := hs_filter hw p ps
    rw [List.filter_cons, hs_len_cons]
    have h1 := (hw.wd1 a).1
    split
    · rw [hs_len_cons]; exact Nat.mul_le_mul_left _ ih
    · exact Nat.le_trans ih (Nat.le_mul_of_pos_left _ h1)
theorem hs_take {ws : List Int} (hw : WsOk ws) (ps : List Nat) (i : Nat) : wpl ws (ps.take i) ≤ (hs ws ps).length := by
  rw [← heads_len, heads_hs]
  have e := hs_len_app (ws := ws) (ps.take i) (ps.drop i)
  rw [List.take_append_drop] at e
  rw [e]
  exact Nat.le_mul_of_pos_right _ (hs_pos hw _)
theorem bh_le {ws : List Int} (hw : WsOk ws) (ns : List Nat) : ∀ k st, bh ws ns st k ≤ 4 ^ k
  | 0, st => Nat.le_refl _
  | k + 1, st => by
    have := (hw.wd1 st).2
    rw [bh, Nat.pow_succ]
    exact Nat.mul_le_mul (bh_le hw ns k (st + 1)) (by split <;> omega)
theorem bh_big {ws : List Int} (hw : WsOk ws) (ns : List Nat) {k : Nat} (hk : k ≤ 100) (st : Nat) : bh ws ns st k ≤ 2 ^ 200 := Nat.le_trans (bh_le hw ns k st) (Nat.le_trans (Nat.pow_le_pow_right (by decide) hk) (by decide))
/-- what the law knows of a query -/
def mdD (ws : List Int) (t : QT) (ns : List Nat) (R : Nat) : D := .lst [.tup (ws.map .int), .lst (nI ns), .lst (headsD (hs ws ns)), .lst (nI ((hs ws ns).map (tl t ns))), .lst (nI ((List.range (R + 1)).map fun i => bh ws ns i (R - i))), .int (R : Int)]
structure NsOk (ws : List Int) (ps : List Nat) (t : QT) : Prop where
  sorted : (nsOf ws t ps).Pairwise (· < ·)
  len : (nsOf ws t ps).length ≤ 8
  most : (hs ws (nsOf ws t ps)).length ≤ 64
  pl : ∀ q ∈ qPl (stl ws t), q ∈ nsOf ws t ps
  lt : ∀ q ∈ nsOf ws t ps, q < rc ws t
  reach : rch (nsOf ws t ps) = rc ws t
theorem ns_of {ws : List Int} {oc : Nat} {ps : List Nat} {t : QT} (h : QFit ws oc ps t) (h64 : (hs ws ps).length ≤ 64) : NsOk ws ps t := by
  have S := stl_of h
  have m : ∀ q, q ∈ nsOf ws t ps ↔ q ∈ qPl (stl ws t) := fun q => by
    unfold nsOf
    rw [List.mem_filter, decide_eq_true_eq]
    exact ⟨fun z => z.2, fun z => ⟨h.pl q (S.pl q z), z⟩⟩
  exact ⟨h.sorted.filter _, Nat.le_trans (List.length_filter_le _ _) h.most, Nat.le_trans (hs_filter h.w _ _) h64, fun q hq => (m q).mpr hq, fun q hq => S.rlt q ((m q).mp hq), rch_eq m⟩
def c__law_model : Con := fun ds μ Φ _ => ∃ (ws : List Int) (oc : Nat) (t : QT) (ps : List Nat), ds = [qD t, .tup (ws.map .int), .lst (nI ps)] ∧ QFit ws oc ps t ∧ (hs ws ps).length ≤ 64 ∧ Φ (mdD ws t (nsOf ws t ps) (rc ws t)) μ
theorem len__law_model {ds μ Φ Ψ} (h : c__law_model ds μ Φ Ψ) : ds.length = 3 := by obtain ⟨_, _, _, _, rfl, _⟩ := h; rfl
theorem ok__law_model {cx : CXT} (T : Txt P w K mg) : FnOk P w K mg base cx 3 T.f__law_model T.d__law_model ["_law_term", "_law_widths_here", "_law_places"] (spOf K c__law_model) := by
  refine def_okC T.F__law_model sc__law_model _ (fun ds μ Φ Ψ h => len__law_model h) (fun cdv A outer s H E B hW hr =>
    ⟨_, (pss_cons (ps_setLc (i := 3) (own := [("_law_head", 11)]) rfl sc__law_model.nd rfl rfl (sw_true rfl rfl rfl (by decide +kernel)) (pi_list (pe_call (ok__law_heads T) hr rfl T.g__law_heads T.F__law_heads.kp T.b__law_heads .nil passN (pa_cons (pv 1) (pa_cons (pv 2) pa_nil)))) (blkOk_by (N := N__law_model) (sc := defScope s__law_model) (by decide +kernel)) (fun _ _ _ _ _ => (pg_name (i := 11) sc__law_model.nd rfl (Or.inl rfl))) (fun _ _ _ _ _ => pts_nil) (fun _ _ _ _ _ => (pe_call (ok__law_tell T) (hr.mono (by decide)) rfl T.g__law_tell T.F__law_tell.kp T.b__law_tell .nil passN (pa_cons (pv 0) (pa_cons (pv 2) (pa_cons (pv 11) pa_nil))))))
      (pss_cons (ps_set (i := 4) sc__law_model.nd rfl (Or.inr rfl) (pe_call (ok__law_needed T) hr rfl T.g__law_needed T.F__law_needed.kp T.b__law_needed .nil passN (pa_cons (pv 1) (pa_cons (pv 2) (pa_cons (pv 3) pa_nil)))))
      (pss_cons (ps_set (i := 5) sc__law_model.nd rfl (Or.inl rfl) (pe_call (ok__law_heads T) hr rfl T.g__law_heads T.F__law_heads.kp T.b__law_heads .nil passN (pa_cons (pv 1) (pa_cons (pv 4) pa_nil))))
      (pss_cons (ps_set (i := 6) sc__law_model.nd rfl (Or.inl rfl) pe_int)
      (pss_cons (ps_if (pt_cmpR op_gt (pe_callB call_len_seq (by rfl) T.z_len PySem.boot_len (pa_cons (pv 4) pa_nil)) pe_int (nomark _)) (pss_one (ps_set (i := 6) sc__law_model.nd rfl (Or.inl rfl) (pe_op op_add (pe_ix ix_list (pv 4) (pe_un un_neg pe_int) (fun _ _ => rfl)) pe_int))) pss_nil)
      (pss_cons (ps_set (i := 7) sc__law_model.nd rfl (Or.inl rfl) (pe_lst (pa_cons pe_int pa_nil)))
      (pss_cons (ps_for (passes_of rfl) rfl (pi_range1 rfl T.z_range (pa_cons (pv 6) pa_nil)) (pg_name (i := 8) sc__law_model.nd rfl (Or.inl rfl)) (pss_cons (ps_set (i := 9) sc__law_model.nd rfl (Or.inl rfl) (pe_op op_sub (pe_op op_sub (pv 6) pe_int) (pv 8)))
      (pss_cons (ps_set (i := 10) sc__law_model.nd rfl (Or.inl rfl) pe_int)
      (pss_cons (ps_if (pt_cmpR op_notIn_seq (pv 9) (pv 4) (by with_unfolding_all rfl)) (pss_one (ps_set (i := 10) sc__law_model.nd rfl (Or.inl rfl) (pe_call (ok__law_width T) (hr.mono (by decide)) rfl T.g__law_width T.F__law_width.kp T.b__law_width .nil passN (pa_cons (pv 1) (pa_cons (pv 9) pa_nil))))) pss_nil)
      (pss_one (ps_set (i := 7) sc__law_model.nd rfl (Or.inl rfl) (pe_op op_cat (pe_lst (pa_cons (pe_op op_mulX (pe_ix ix_list (pv 7) pe_int (fun _ _ => rfl)) (pv 10)) pa_nil)) (pv 7))))))))
      (pss_one (ps_ret (pe_lst (pa_cons (pv 1) (pa_cons (pv 4) (pa_cons (pv 5) (pa_cons (pe_lc (own := [("_law_choice", 12)]) rfl sc__law_model.nd (pi_list (pv 5)) (blkOk_by (N := N__law_model) (sc := defScope s__law_model) (by decide +kernel)) (fun _ _ _ _ _ => (pg_name (i := 12) sc__law_model.nd rfl (Or.inl rfl))) (fun _ _ _ _ _ => pts_nil) (fun _ _ _ _ _ => (pe_call (ok__law_tell T) (hr.mono (by decide)) rfl T.g__law_tell T.F__law_tell.kp T.b__law_tell .nil passN (pa_cons (pv 0) (pa_cons (pv 4) (pa_cons (pv 12) pa_nil)))))) (pa_cons (pv 7) (pa_cons (pv 6) pa_nil)))))))))))))))),
      (sSeq (sAsg (sLc (siL (sCall (sCons sVar (sCons sVar sNil)))) (gwName List.mem_cons_self) (fun _ _ _ => sName) (fun _ _ _ => sYes) (fun _ _ _ => (sCall (sCons sVar (sCons sVar (sCons sVar sNil)))))) sName)
      (sSeq (sAsg (sCall (sCons sVar (sCons sVar (sCons sVar sNil)))) sName)
      (sSeq (sAsg (sCall (sCons sVar (sCons sVar sNil))) sName)
      (sSeq (sAsg sInt sName)
      (sSeq (sIfS (sTest (sOp roBl0 (sCB rcLen (sCons sVar sNil)) sInt)) (sAsg (sOp roInt0 (sOp roIxL sVar (sUn ruInt sInt)) sInt) sName) sNext)
      (sSeq (sAsg (sLst (sCons sInt sNil)) sName)
      (sSeq (sFor (siR1 sVar) (fun _ _ _ => sName) (fun _ _ _ => (sSeq (sAsg (sOp roInt0 (sOp roInt0 sVar sInt) sVar) sName)
      (sSeq (sAsg sInt sName)
      (sSeq (sIfS (sTest (sOp (roIn (neg := true)) sVar sVar)) (sAsg (sCall (sCons sVar (sCons sVar sNil))) sName) sNext)
      (sAsg (sOp roCatL (sLst (sCons (sOp roInt (sOp roIxL sVar sInt) sVar) sNil)) sVar) sName))))))
      (sRet (sLst (sCons sVar (sCons sVar (sCons sVar (sCons (sLc (siL sVar) (gwName List.mem_cons_self) (fun _ _ _ => sName) (fun _ _ _ => sYes) (fun _ _ _ => (sCall (sCons sVar (sCons sVar (sCons sVar sNil)))))) (sCons sVar (sCons sVar sNil)))))))))))))))⟩) (fun ds μ Φ Ψ h => ?hv)
  case hv =>
    obtain ⟨ws, oc, t, ps, rfl, hf, h64, h⟩ := h
    have S := stl_of hf
    have NS := ns_of hf h64
    have hw := hf.w
    have r100 := S.r100
    have ndp : ps.Nodup := hf.sorted.imp fun z => by omega
    have h8 := hf.most
    have hd20 := hf.dep
    refine seq_cut fun M hM => ?_
    walk_at "wp"
    refine ⟨ws, ps, rfl, hw, h8, fun i hi => by have := hs_take hw ps i; omega, ?_⟩
    rw [heads_hs]
    walk_at "wp"
    refine lcM (l := hs ws ps) _ (fun c => .int (tl t ps c : Int)) (by omega) (fun c μ2 X hc hsub hx => ?_) ?_
    · walk_at "wp"
      exact ⟨ws, oc, t, ps, c, rfl, hw, hf.ok, hd20, ndp, h8, hc, hx⟩
    rw [← nI_map]
    rw [hM]; clear hM M
    refine seq_cut fun M hM => ?_
    walk_at "wp"
    refine ⟨ws, ps, (hs ws ps).map (tl t ps), rfl, hw, h8, by rw [List.length_map], by rw [List.length_map]; omega, ?_⟩
    rw [ndl_ns hf rfl ps [] rfl]
    show M _ μ
    rw [hM]; clear hM M
    rw [show (ps.filter fun p => decide (p ∈ qPl (stl ws t))) = nsOf ws t ps from rfl]
    obtain ⟨hns, hnl, hnm, hnp, hnlt, hnr⟩ := NS
    generalize nsOf ws t ps = ns at *
    have ndn : ns.Nodup := hns.imp fun z => by omega
    refine seq_cut fun M hM => ?_
    walk_at "wp"
    refine ⟨ws, ns, rfl, hw, hnl, fun i hi => by have := hs_take hw ns i; omega, ?_⟩
    rw [heads_hs]
    show M _ μ
    rw [hM]; clear hM M
    refine seq_cut fun M hM => ?_
    walk_at "wp"
    rw [hM]; clear hM M
    refine seq_cut fun M hM => ?_
    have mid : M [some (qD t), some (.tup (ws.map .int)), some (.lst (nI ps)), some (.lst (nI ((hs ws ps).map (tl t ps)))), some (.lst (nI ns)), some (.lst (headsD (hs ws ns))), some (.int (rc ws t : Int)), none, none, none, none, none, none] μ := by
      rw [hM]
      refine seq_cut fun N hN => ?_
      walk_at "wp"
      refine ⟨by omega, ?_⟩
      rw [hN]; clear hN N
      refine seq_cut fun N hN => ?_
      walk_at "wp"
      refine ⟨by omega, by omega, ?_⟩
      refine ⟨fun i δ' μ' => μ' = μ ∧ ∃ (x8 x9 x10 : Option D), δ' = [some (qD t), some (.tup (ws.map .int)), some (.lst (nI ps)), some (.lst (nI ((hs ws ps).map (tl t ps)))), some (.lst (nI ns)), some (.lst (headsD (hs ws ns))), some (.int (rc ws t : Int)), some (.lst (nI ((List.range (i + 1)).map fun j => bh ws ns (rc ws t - i + j) (i - j)))), x8, x9, x10, none, none], ⟨rfl, none, none, none, rfl⟩, ?_, ?_⟩
      · rintro i d δ' μ' hi ⟨rfl, x8, x9, x10, rfl⟩
        obtain ⟨hj, rfl⟩ := rngD_get hi
        have ep : ((rc ws t : Nat) : Int) - 1 - (i : Int) = ((rc ws t - (i + 1) : Nat) : Int) := by omega
        have es : rc ws t - (i + 1) + 1 = rc ws t - i := by omega
        have step : nI ((List.range (i + 1 + 1)).map fun j => bh ws ns (rc ws t - (i + 1) + j) (i + 1 - j)) = .int ((bh ws ns (rc ws t - (i + 1)) (i + 1) : Nat) : Int) :: nI ((List.range (i + 1)).map fun j => bh ws ns (rc ws t - i + j) (i - j)) := by
          rw [List.range_succ_eq_map, List.map_cons, List.map_map]
          unfold nI
          rw [List.map_cons]
          congr 2
          refine List.map_congr_left fun j _ => ?_
          show bh ws ns (rc ws t - (i + 1) + (j + 1)) (i + 1 - (j + 1)) = _
          rw [show rc ws t - (i + 1) + (j + 1) = rc ws t - i + j by omega, show i + 1 - (j + 1) = i - j by omega]
        have bb := bh_big hw ns (k := i) (by omega) (rc ws t - i)
        have b1 : (2 : Nat) ^ 200 < 2 ^ 201 := by decide
        refine seq_cut fun O hO => ?_
        walk_at "wp"
        rw [ep, hO]; clear hO O
        refine seq_cut fun O hO => ?_
        walk_at "wp"
        rw [hO]; clear hO O
        refine seq_cut fun O hO => ?_
        have go : ∀ v : Nat, v ≤ 4 → bh ws ns (rc ws t - i) i * v = bh ws ns (rc ws t - (i + 1)) (i + 1) → O [some (qD t), some (.tup (ws.map .int)), some (.lst (nI ps)), some (.lst (nI ((hs ws ps).map (tl t ps)))), some (.lst (nI ns)), some (.lst (headsD (hs ws ns))), some (.int (rc ws t : Int)), some (.lst (nI ((List.range (i + 1)).map fun j => bh ws ns (rc ws t - i + j) (i - j)))), some (.int (i : Int)), some (.int ((rc ws t - (i + 1) : Nat) : Int)), some (.int (v : Int)), none, none] μ' := fun v hv e => by
          rw [hO]
          walk_at "wp"
          refine ⟨_, nI_at (i := 0) (by simp), ?_⟩
          rw [List.getElem_map, List.getElem_range, Nat.add_zero, Nat.sub_zero]
          walk_at "wp"
          refine ⟨mulx 201 3 (by omega) (by omega) (by decide), by omega, by rw [nI_len, List.length_map, List.length_range]; omega, some (.int (i : Int)), some (.int ((rc ws t - (i + 1) : Nat) : Int)), some (.int (v : Int)), ?_⟩
          rw [step, ← Int.natCast_mul, e]
        walk_at "wp"
        refine nin_N ⟨.lst _, ?_⟩
        refine ⟨_, rfl, fun q => ?_, fun q => ?_⟩
        · have q : rc ws t - (i + 1) ∉ ns := by simpa using q
          have := (hw.wd1 (rc ws t - (i + 1))).2
          refine ⟨ws, _, rfl, hw, go _ this ?_⟩
          rw [bh, if_neg q, es]
        · have q : rc ws t - (i + 1) ∈ ns := by simpa using q
          refine go 1 (by omega) ?_
          rw [bh, if_pos q, es]
      · rintro δ' μ' ⟨rfl, x8, x9, x10, rfl⟩
        rw [hN]; clear hN N
        walk_at "wps"
        refine lcM (l := hs ws ns) _ (fun c => .int (tl t ns c : Int)) (by omega) (fun c μ2 X hc hsub hx => ?_) ?_
        · walk_at "wp"
          exact ⟨ws, oc, t, ns, c, rfl, hw, hf.ok, hd20, ndn, hnl, hc, hx⟩
        rw [← nI_map]
        refine ⟨by omega, ret_same ?_⟩
        unfold mdD at h
        rw [Nat.sub_self]
        simp only [Nat.zero_add]
        exact h
    walk_at "wp"
    rw [nI_len]
    refine ⟨fun c => ?_, fun c => ?_⟩
    · have hne : ns ≠ [] := fun z => by rw [z] at c; simp at c
      have e := List.dropLast_concat_getLast hne
      generalize ns.getLast hne = m at e
      have em : rch ns = m + 1 := rch_max (by rw [← e]; simp) fun q hq => by
        rw [← e] at hns hq
        rcases List.mem_append.mp hq with z | z
        · have := (List.pairwise_append.mp hns).2.2 q z m (by simp)
          omega
        · have := List.mem_singleton.mp z
          omega
      refine ⟨.int (m : Int), by rw [← e]; unfold nI; rw [List.map_append]; exact DW.atI_last, ?_⟩
      walk_at "wp"
      rw [show (m : Int) + 1 = ((rc ws t : Nat) : Int) by omega]
      exact mid
    · have hz : ns = [] := by cases ns with
        | nil => rfl
        | cons a l => exact absurd (by simp) c
      have e0 : rc ws t = 0 := by rw [← hnr, hz]; rfl
      rw [e0] at mid
      exact mid
end
section
variable {P : Program} {w : World} {K : Fg} {mg : Str → Option Value} {base : Heap}
theorem units65 {k : Nat} {A : Around} (r : Room k A) : A.units + 65 < cLine := by have := r.un; omega
theorem eqD_nI (a b : List Nat) : eqD (.lst (nI a)) (.lst (nI b)) = true ↔ a = b := by
  unfold eqD nI
  simp only [toPy, PyData.eqv]
  exact eqvAll_map (f := fun (n : Nat) => D.int (n : Int)) (fun a b => (eqv_int _ _).trans Int.ofNat_inj) a b
theorem eqD_nI_ne {a b : List Nat} (h : a ≠ b) : eqD (.lst (nI a)) (.lst (nI b)) = false := by
  cases e : eqD (.lst (nI a)) (.lst (nI b)) with
  | false => rfl
  | true => exact absurd ((eqD_nI a b).mp e) h
theorem eqSide_nI (l : List Nat) : EqSide (.lst (nI l)) := ⟨eqOks_all fun d hd => by
  obtain ⟨n, _, rfl⟩ := List.mem_map.mp hd
  rfl, by
  show dpts (nI l) + 1 ≤ 60
  have := dpts_all (m := 0) (ds := nI l) fun d hd => by
    obtain ⟨n, _, rfl⟩ := List.mem_map.mp hd
    exact Nat.le_refl _
  omega⟩
theorem eqSide_heads (L : List (List Nat)) : EqSide (.lst (headsD L)) := ⟨eqOks_all fun d hd => by
  obtain ⟨l, _, rfl⟩ := List.mem_map.mp hd
  exact (eqSide_nI l).1, by
  show dpts (headsD L) + 1 ≤ 60
  have := dpts_all (m := 1) (ds := headsD L) fun d hd => by
    obtain ⟨l, _, rfl⟩ := List.mem_map.mp hd
    show dpts (nI l) + 1 ≤ 1
    have := dpts_all (m := 0) (ds := nI l) fun d hd => by
      obtain ⟨n, _, rfl⟩ := List.mem_map.mp hd
      exact Nat.le_refl _
    omega
  omega⟩
theorem idx_first {α : Type} [BEq α] [LawfulBEq α] {l : List α} {x : α} {m : Nat} {y : α} (hm : m < l.idxOf x) (hy : l[m]? = some y) : y ≠ x := fun e => by
  subst e
  have := List.not_of_lt_findIdx (p := (· == y)) (xs := l) hm
  obtain ⟨h1, h2⟩ := List.getElem?_eq_some_iff.mp hy
  simp [h2] at this
/-- what the law and the program know of one query and one head -/
structure HdOk (ws : List Int) (oc : Nat) (ps : List Nat) (t : QT) (l : List Nat) : Prop where
  fit : QFit ws oc ps t
  most : (hs ws ps).length ≤ 64
  len : l.length = rc ws t
  ok : HdA ws 0 l
def hF (l : List Nat) : Nat → Nat := fun q => l.getD q 0
theorem HdOk.lt {ws : List Int} {oc : Nat} {ps : List Nat} {t : QT} {l : List Nat} (h : HdOk ws oc ps t l) : ∀ q, hF l q < wd ws q := hd_in h.fit.w h.ok
def c__law_outcome : Con := fun ds μ Φ _ => ∃ (ws : List Int) (oc : Nat) (t : QT) (ps l : List Nat), ds = [mdD ws t (nsOf ws t ps) (rc ws t), .tup (nI l)] ∧ HdOk ws oc ps t l ∧ Φ (.int (qA (hF l) (stl ws t) : Int)) μ
theorem len__law_outcome {ds μ Φ Ψ} (h : c__law_outcome ds μ Φ Ψ) : ds.length = 2 := by obtain ⟨_, _, _, _, _, rfl, _⟩ := h; rfl
theorem ok__law_outcome {cx : CXT} (T : Txt P w K mg) : FnOk P w K mg base cx 1 T.f__law_outcome T.d__law_outcome ["_law_model_here", "_law_head"] (spOf K c__law_outcome) := by
  refine def_okC T.F__law_outcome sc__law_outcome _ (fun ds μ Φ Ψ h => len__law_outcome h) (fun cdv A outer s H E B hW hr =>
    ⟨_, (pss_one (ps_ret (pe_ix ix_list (pe_ix ix_list (pv 0) pe_int (fun _ _ => rfl)) (pe_bm PySem.F.plainAttrs_list PySem.F.slot_list_index PySem.F.type_list_index (mt_indexD (units65 hr)) (pe_ix ix_list (pv 0) pe_int (fun _ _ => rfl)) (pa_cons (pe_lc (own := [("_law_place", 2)]) rfl sc__law_outcome.nd (pi_list (pe_ix ix_list (pv 0) pe_int (fun _ _ => rfl))) (blkOk_by (N := N__law_outcome) (sc := defScope s__law_outcome) (by decide +kernel)) (fun _ _ _ _ _ => (pg_name (i := 2) sc__law_outcome.nd rfl (Or.inl rfl))) (fun _ _ _ _ _ => pts_nil) (fun _ _ _ _ _ => (pe_ix ix_tup (pv 1) (pv 2) (fun _ _ => rfl)))) pa_nil)) (fun _ _ => rfl)))),
      (sRet (sOp roIxL (sOp roIxL sVar sInt) (sIdxD (sOp roIxL sVar sInt) (sLc (siL (sOp roIxL sVar sInt)) (gwName List.mem_cons_self) (fun _ _ _ => sName) (fun _ _ _ => sYes) (fun _ _ _ => (sOp roIxT sVar sVar))))))⟩) (fun ds μ Φ Ψ h => ?hv)
  case hv =>
    obtain ⟨ws, oc, t, ps, l, rfl, hh, h⟩ := h
    have hf := hh.fit
    have S := stl_of hf
    have NS := ns_of hf hh.most
    have hlt := hh.lt
    obtain ⟨hns, hnl, hnm, hnp, hnlt, hnr⟩ := NS
    have etl : tl t (nsOf ws t ps) ((nsOf ws t ps).map (hF l)) = qA (hF l) (stl ws t) := by
      rw [tl_both hf (hs_map hlt), tl_map hnp]
    generalize nsOf ws t ps = ns at *
    unfold mdD
    walk_at "wps"
    refine lcM (l := ns) (G := fun (p : Nat) => D.int (p : Int)) (fun p => .int (hF l p : Int)) (by omega) (fun p μ2 X hp hsub hx => ?_) ?_
    · have hpl : p < l.length := by rw [hh.len]; exact hnlt p hp
      have e : hF l p = l[p] := by unfold hF; rw [List.getD_eq_getElem?_getD, List.getElem?_eq_getElem hpl]; rfl
      rw [e] at hx
      walk_at "wp"
      exact ⟨_, nI_at hpl, hx⟩
    rw [← nI_map]
    have hm : ns.map (hF l) ∈ hs ws ns := hs_map hlt
    have hi := List.idxOf_lt_length_iff.mpr hm
    have ej := List.getElem_idxOf hi
    have hj : (hs ws ns)[(hs ws ns).idxOf (ns.map (hF l))]? = some (ns.map (hF l)) := by rw [List.getElem?_eq_getElem hi, ej]
    refine ⟨eqSide_nI _, eqSide_heads _, (hs ws ns).idxOf (ns.map (hF l)), .lst (nI (ns.map (hF l))), ?_, (eqD_nI _ _).mpr rfl, fun m z' hm2 hz => ?_, ?_⟩
    · unfold headsD
      rw [List.getElem?_map, hj]
      rfl
    · unfold headsD at hz
      rw [List.getElem?_map] at hz
      cases e : (hs ws ns)[m]? with
      | none => rw [e] at hz; cases hz
      | some y =>
        rw [e] at hz
        cases hz
        exact eqD_nI_ne (idx_first hm2 e)
    · refine ⟨_, nI_at (by rw [List.length_map]; exact hi), ?_⟩
      rw [List.getElem_map, ej, etl]
      exact ret_same h
def c__law_rank : Con := fun ds μ Φ _ => ∃ (ws : List Int) (oc : Nat) (t : QT) (ps l : List Nat) (r : Nat), ds = [mdD ws t (nsOf ws t ps) (rc ws t), .tup (nI l), .int (r : Int)] ∧ HdOk ws oc ps t l ∧ Φ (.int (rk ws (fun f => qA f (stl ws t)) r (rc ws t) 0 (hF l) : Int)) μ
theorem len__law_rank {ds μ Φ Ψ} (h : c__law_rank ds μ Φ Ψ) : ds.length = 3 := by obtain ⟨_, _, _, _, _, _, rfl, _⟩ := h; rfl
theorem ns_split (ns : List Nat) (st : Nat) : (nsLt ns st).length + (nsGe ns st).length = ns.length := by
  induction ns with
  | nil => rfl
  | cons a ns ih =>
    unfold nsLt nsGe at ih ⊢
    rw [List.filter_cons, List.filter_cons]
    by_cases c : a < st
    · rw [if_pos (by simpa using c), if_neg (by simp; omega), List.length_cons, List.length_cons]; omega
    · rw [if_neg (by simpa using c), if_pos (by simp; omega), List.length_cons, List.length_cons]; omega
theorem Lf_mlen {ws : List Int} {t : QT} {ns : List Nat} {r st : Nat} {f : Nat → Nat} {c : List Nat} (h : c ∈ Lf ws t ns r st f) : c.length = ns.length := by
  unfold Lf at h
  obtain ⟨c', h1, rfl⟩ := List.mem_map.mp h
  rw [List.length_append, List.length_map, (hs_mem.mp (List.mem_filter.mp h1).1).1, ns_split]
theorem Lf_len {ws : List Int} (hw : WsOk ws) {t : QT} {ns : List Nat} {r st : Nat} {f : Nat → Nat} : (Lf ws t ns r st f).length ≤ (hs ws ns).length := by
  unfold Lf
  rw [List.length_map]
  exact Nat.le_trans (List.length_filter_le _ _) (hs_filter hw _ _)
theorem ok__law_rank {cx : CXT} (T : Txt P w K mg) : FnOk P w K mg base cx 1 T.f__law_rank T.d__law_rank ["_law_model_here", "_law_head", "_law_outcome_here"] (spOf K c__law_rank) := by
  refine def_okC T.F__law_rank sc__law_rank _ (fun ds μ Φ Ψ h => len__law_rank h) (fun cdv A outer s H E B hW hr =>
    ⟨_, (pss_cons (ps_set (i := 3) sc__law_rank.nd rfl (Or.inl rfl) (pe_ix ix_list (pv 0) pe_int (fun _ _ => rfl)))
      (pss_cons (ps_set (i := 4) sc__law_rank.nd rfl (Or.inl rfl) (pe_ix ix_list (pv 0) pe_int (fun _ _ => rfl)))
      (pss_cons (ps_setLc (i := 5) (own := [("_law_p", 8)]) rfl sc__law_rank.nd rfl rfl (sw_true rfl rfl rfl (by decide +kernel)) (pi_range1 rfl T.z_range (pa_cons (pe_callB call_len_seq (by rfl) T.z_len PySem.boot_len (pa_cons (pe_ix ix_list (pv 0) pe_int (fun _ _ => rfl)) pa_nil)) pa_nil)) (blkOk_by (N := N__law_rank) (sc := defScope s__law_rank) (by decide +kernel)) (fun _ _ _ _ _ => (pg_name (i := 8) sc__law_rank.nd rfl (Or.inl rfl))) (fun _ _ _ _ _ => (pts_one (pt_cmpR op_eq (pe_ix ix_list (pe_ix ix_list (pv 0) pe_int (fun _ _ => rfl)) (pv 8) (fun _ _ => rfl)) (pv 2) (nomark _)))) (fun _ _ _ _ _ => (pe_ix ix_list (pe_ix ix_list (pv 0) pe_int (fun _ _ => rfl)) (pv 8) (fun _ _ => rfl))))
      (pss_cons (ps_set (i := 6) sc__law_rank.nd rfl (Or.inl rfl) pe_int)
      (pss_cons (ps_for (passes_of rfl) rfl (pi_range1 rfl T.z_range (pa_cons (pe_ix ix_list (pv 0) pe_int (fun _ _ => rfl)) pa_nil)) (pg_name (i := 7) sc__law_rank.nd rfl (Or.inr rfl)) (pss_one (ps_if (pt_cmpR op_in_seq (pv 7) (pv 3) (by with_unfolding_all rfl)) (pss_cons (ps_set (i := 9) sc__law_rank.nd rfl (Or.inr rfl) (pe_bm PySem.F.plainAttrs_list PySem.F.slot_list_index PySem.F.type_list_index mt_index (pv 3) (pa_cons (pv 7) pa_nil)))
      (pss_cons (ps_set (i := 6) sc__law_rank.nd rfl (Or.inl rfl) (pe_op op_add (pv 6) (pe_op op_mulX (pe_callB call_len_seq (by rfl) T.z_len PySem.boot_len (pa_cons (pe_lc (own := [("_law_choice", 10)]) rfl sc__law_rank.nd (pi_list (pv 5)) (blkOk_by (N := N__law_rank) (sc := defScope s__law_rank) (by decide +kernel)) (fun _ _ _ _ _ => (pg_name (i := 10) sc__law_rank.nd rfl (Or.inl rfl))) (fun _ _ _ _ _ => (pts_one (pt_cmpR op_lt (pe_ix ix_list (pv 10) (pv 9) (fun _ _ => rfl)) (pe_ix ix_tup (pv 1) (pv 7) (fun _ _ => rfl)) (nomark _)))) (fun _ _ _ _ _ => (pv 10))) pa_nil)) (pe_ix ix_list (pv 4) (pe_op op_add (pv 7) pe_int) (fun _ _ => rfl)))))
      (pss_one (ps_setLc (i := 5) (own := [("_law_choice", 10)]) rfl sc__law_rank.nd rfl rfl (sw_true rfl rfl rfl (by decide +kernel)) (pi_list (pv 5)) (blkOk_by (N := N__law_rank) (sc := defScope s__law_rank) (by decide +kernel)) (fun _ _ _ _ _ => (pg_name (i := 10) sc__law_rank.nd rfl (Or.inl rfl))) (fun _ _ _ _ _ => (pts_one (pt_cmpR op_eq (pe_ix ix_list (pv 10) (pv 9) (fun _ _ => rfl)) (pe_ix ix_tup (pv 1) (pv 7) (fun _ _ => rfl)) (nomark _)))) (fun _ _ _ _ _ => (pv 10)))))) (pss_one (ps_set (i := 6) sc__law_rank.nd rfl (Or.inl rfl) (pe_op op_add (pv 6) (pe_op op_mulX (pe_op op_mulX (pe_ix ix_tup (pv 1) (pv 7) (fun _ _ => rfl)) (pe_callB call_len_seq (by rfl) T.z_len PySem.boot_len (pa_cons (pv 5) pa_nil))) (pe_ix ix_list (pv 4) (pe_op op_add (pv 7) pe_int) (fun _ _ => rfl)))))))))
      (pss_one (ps_ret (pv 6)))))))),
      (sSeq (sAsg (sOp roIxL sVar sInt) sName)
      (sSeq (sAsg (sOp roIxL sVar sInt) sName)
      (sSeq (sAsg (sLc (siR1 (sCB rcLen (sCons (sOp roIxL sVar sInt) sNil))) (gwName List.mem_cons_self) (fun _ _ _ => sName) (fun _ _ _ => (sTest (sOp roEq (sOp roIxL (sOp roIxL sVar sInt) sVar) sVar))) (fun _ _ _ => (sOp roIxL (sOp roIxL sVar sInt) sVar))) sName)
      (sSeq (sAsg sInt sName)
      (sSeq (sFor (siR1 (sOp roIxL sVar sInt)) (fun _ _ _ => sName) (fun _ _ _ => (sIfS (sTest (sOp (roIn (neg := false)) sVar sVar)) (sSeq (sAsg (sIdx sVar sVar) sName)
      (sSeq (sAsg (sOp roInt0 sVar (sOp roInt (sCB rcLen (sCons (sLc (siL sVar) (gwName List.mem_cons_self) (fun _ _ _ => sName) (fun _ _ _ => (sTest (sOp roBl0 (sOp roIxL sVar sVar) (sOp roIxT sVar sVar)))) (fun _ _ _ => sVar)) sNil)) (sOp roIxL sVar (sOp roInt0 sVar sInt)))) sName)
      (sAsg (sLc (siL sVar) (gwName List.mem_cons_self) (fun _ _ _ => sName) (fun _ _ _ => (sTest (sOp roEq (sOp roIxL sVar sVar) (sOp roIxT sVar sVar)))) (fun _ _ _ => sVar)) sName))) (sAsg (sOp roInt0 sVar (sOp roInt (sOp roInt (sOp roIxT sVar sVar) (sCB rcLen (sCons sVar sNil))) (sOp roIxL sVar (sOp roInt0 sVar sInt)))) sName))))
      (sRet sVar))))))⟩) (fun ds μ Φ Ψ h => ?hv)
  case hv =>
    obtain ⟨ws, oc, t, ps, l, r, rfl, hh, h⟩ := h
    have hf := hh.fit
    have S := stl_of hf
    have NS := ns_of hf hh.most
    have hlt := hh.lt
    have hw := hf.w
    have hlen := hh.len
    have r100 := S.r100
    obtain ⟨hns, hnl, hnm, hnp, hnlt, hnr⟩ := NS
    generalize nsOf ws t ps = ns at *
    have et : ∀ c ∈ hs ws ns, tl t ns c = tl (stl ws t) ns c := fun c hc => tl_both hf hc
    unfold mdD
    refine seq_cut fun M hM => ?_
    walk_at "wp"
    rw [hM]; clear hM M
    refine seq_cut fun M hM => ?_
    walk_at "wp"
    refine ⟨_, atI_nat (j := 4) rfl, ?_⟩
    rw [hM]; clear hM M
    refine seq_cut fun M hM => ?_
    walk_at "wp"
    have hdl : ∀ L : List (List Nat), (headsD L).length = L.length := fun L => List.length_map ..
    rw [hdl]
    refine ⟨by omega, by omega, ?_⟩
    have hne : ∀ q, hF l q < wd ws q := hlt
    refine lcG_pure (fun i => decide (tl t ns ((hs ws ns).getD i []) = r)) (fun i => .lst (nI ((hs ws ns).getD i []))) (by rw [rngD_len]; omega) (fun i d μ2 X Y hi hsub hx hy => ?_) ?_
    · obtain ⟨hj, rfl⟩ := rngD_get hi
      have hj2 : (hs ws ns)[i]? = some (hs ws ns)[i] := List.getElem?_eq_getElem hj
      rw [List.getD_eq_getElem?_getD, hj2] at hx hy
      walk_at "wp"
      refine ⟨_, nI_at (by rw [List.length_map]; exact hj), ?_⟩
      rw [List.getElem_map]
      have ha : atI (headsD (hs ws ns)) (i : Int) = some (.lst (nI (hs ws ns)[i])) := atI_nat (by unfold headsD; rw [List.getElem?_map, hj2]; rfl)
      walk_at "wp"
      refine ⟨fun c => ⟨_, ha, hx (decide_eq_true ?_)⟩, fun c => hy (decide_eq_false fun z => ?_)⟩
      · have c : ((tl t ns (hs ws ns)[i] : Nat) : Int) = (r : Int) := by simpa using c
        exact Int.ofNat_inj.mp c
      · have z : tl t ns (hs ws ns)[i] = r := z
        simp [z] at c
    rw [rngD_len, given_filter (f := fun c => D.lst (nI c)) (p := fun c => decide (tl t ns c = r)) (a0 := [])]
    have eL : ((hs ws ns).filter fun c => decide (tl t ns c = r)) = Lf ws (stl ws t) ns r 0 (hF l) := by
      unfold Lf
      rw [nsGe_0, nsLt_0]
      show _ = List.map (fun c => c) _
      rw [List.map_id']
      exact List.filter_congr fun c hc => by rw [et c hc]; rfl
    rw [eL]
    show M [_, _, _, _, _, some (.lst (headsD (Lf ws (stl ws t) ns r 0 (hF l)))), _, _, _, _, _] μ
    rw [hM]; clear hM M
    refine seq_cut fun M hM => ?_
    walk_at "wp"
    rw [hM]; clear hM M
    refine seq_cut fun M hM => ?_
    walk_at "wp"
    refine ⟨_, atI_nat (j := 5) rfl, _, rfl, by omega, by omega, ?_⟩
    rw [Int.toNat_natCast]
    generalize hmd : D.lst [.tup (ws.map .int), .lst (nI ns), .lst (headsD (hs ws ns)), .lst (nI ((hs ws ns).map (tl t ns))), .lst (nI ((List.range (rc ws t + 1)).map fun i => bh ws ns i (rc ws t - i))), .int (rc ws t : Int)] = md
    generalize hbl : D.lst (nI ((List.range (rc ws t + 1)).map fun i => bh ws ns i (rc ws t - i))) = bl
    refine ⟨fun i δ' μ' => μ' = μ ∧ ∃ (v : Nat) (x7 x8 x9 x10 : Option D), δ' = [some md, some (.tup (nI l)), some (.int (r : Int)), some (.lst (nI ns)), some bl, some (.lst (headsD (Lf ws (stl ws t) ns r i (hF l)))), some (.int (v : Int)), x7, x8, x9, x10] ∧ v + rk ws (fun f => qA f (stl ws t)) r (rc ws t - i) i (hF l) = rk ws (fun f => qA f (stl ws t)) r (rc ws t) 0 (hF l),
      ⟨rfl, 0, none, none, none, none, rfl, Nat.zero_add _⟩, ?_, ?_⟩
    · rintro i d δ' μ' hi ⟨rfl, v, x7, x8, x9, x10, rfl, hv⟩
      obtain ⟨hj, rfl⟩ := rngD_get hi
      have hil : i < l.length := by omega
      have ehl : l[i] = hF l i := by unfold hF; rw [List.getD_eq_getElem?_getD, List.getElem?_eq_getElem hil]; rfl
      have hbat : atI (nI ((List.range (rc ws t + 1)).map fun i => bh ws ns i (rc ws t - i))) ((i : Int) + 1) = some (.int ((bh ws ns (i + 1) (rc ws t - (i + 1)) : Nat) : Int)) := by
        have := nI_at (ss := (List.range (rc ws t + 1)).map fun i => bh ws ns i (rc ws t - i)) (i := i + 1) (by simp; omega)
        rw [List.getElem_map, List.getElem_range, Int.natCast_add] at this
        exact this
      have hLm := Lf_len hw (t := stl ws t) (ns := ns) (r := r) (st := i) (f := hF l)
      have st := rk_step (r := r) hns hnp hnlt (k := rc ws t - (i + 1)) (st := i) (f := hF l) hlt (by omega)
      rw [show rc ws t - (i + 1) + 1 = rc ws t - i by omega] at st
      rw [st] at hv
      have bb := bh_big hw ns (k := rc ws t - (i + 1)) (by omega) (i + 1)
      have b1 : (2 : Nat) ^ 200 < 2 ^ 201 := by decide
      subst hbl
      walk_at "wp"
      refine in_N ⟨.lst _, ?_⟩
      refine ⟨_, rfl, fun q => ?_, fun q => ?_⟩
      · have q : i ∈ ns := by simpa using q
        rw [if_pos q] at hv
        have hi2 := List.idxOf_lt_length_iff.mpr q
        have hget := List.getElem_idxOf hi2
        have hat : ∀ c ∈ Lf ws (stl ws t) ns r i (hF l), atI (nI c) ((ns.idxOf i : Nat) : Int) = some (.int ((c.getD (ns.idxOf i) 0 : Nat) : Int)) := fun c hc => by
          have hcl : ns.idxOf i < c.length := by rw [Lf_mlen hc]; exact hi2
          rw [List.getD_eq_getElem?_getD, List.getElem?_eq_getElem hcl]
          exact nI_at hcl
        have hless := List.length_filter_le (fun c : List Nat => decide (c.getD (ns.idxOf i) 0 < hF l i)) (Lf ws (stl ws t) ns r i (hF l))
        refine seq_cut fun N hN => ?_
        walk_at "wp"
        refine ⟨rfl, by rw [nI_ints]; exact flat_I _, ns.idxOf i, .int (i : Int), by unfold nI; rw [List.getElem?_map, List.getElem?_eq_getElem hi2, hget]; rfl, by simp [eqF], fun m z' hm hz => ?_, ?_⟩
        · obtain ⟨hm2, rfl⟩ := nI_get hz
          have : ns[m] ≠ i := idx_first hm (List.getElem?_eq_getElem hm2)
          have : ¬ ((ns[m] : Nat) : Int) = (i : Int) := fun e => this (Int.ofNat.inj e)
          simp [eqF, this]
        rw [hN]; clear hN N
        refine seq_cut fun N hN => ?_
        walk_at "wp"
        refine lcMf (l := Lf ws (stl ws t) ns r i (hF l)) (G := fun c => D.lst (nI c)) (fun c => decide (c.getD (ns.idxOf i) 0 < hF l i)) (fun c => .lst (nI c)) (by omega) (fun c μ2 X Y hc hsub hx hy => ?_) ?_
        · walk_at "wp"
          refine ⟨_, hat c hc, _, nI_at hil, ?_⟩
          rw [ehl]
          walk_at "wp"
          exact ⟨fun z => hx (decide_eq_true (by omega)), fun z => hy (decide_eq_false (by omega))⟩
        refine ⟨_, .lst _, _, hbat, ?_⟩
        rw [List.length_map]
        generalize hcnt : ((Lf ws (stl ws t) ns r i (hF l)).filter fun c => decide (c.getD (ns.idxOf i) 0 < hF l i)).length = cnt at *
        walk_at "wp"
        refine ⟨mulx 10 201 (by omega) (by omega) (by decide), ?_⟩
        rw [hN]; clear hN N
        walk_at "wp"
        refine lcMf (l := Lf ws (stl ws t) ns r i (hF l)) (G := fun c => D.lst (nI c)) (fun c => decide (c.getD (ns.idxOf i) 0 = hF l i)) (fun c => .lst (nI c)) (by omega) (fun c μ2 X Y hc hsub hx hy => ?_) ?_
        · walk_at "wp"
          refine ⟨_, hat c hc, _, nI_at hil, ?_⟩
          rw [ehl]
          walk_at "wp"
          exact ⟨fun z => hx (decide_eq_true (Int.ofNat_inj.mp z)), fun z => hy (decide_eq_false fun y => z (by rw [y]))⟩
        rw [Lf_same hns q _ (hlt i)]
        refine ⟨rfl, v + cnt * bh ws ns (i + 1) (rc ws t - (i + 1)), some (.int (i : Int)), x8, some (.int ((ns.idxOf i : Nat) : Int)), x10, ?_, by omega⟩
        rw [← Int.natCast_mul, ← Int.natCast_add]
        rfl
      · have q : i ∉ ns := by simpa using q
        rw [if_neg q] at hv
        have hfi := hlt i
        have hw4 := (hw.wd1 i).2
        have hm4 : hF l i * (Lf ws (stl ws t) ns r i (hF l)).length ≤ 4 * 64 := Nat.mul_le_mul (by omega) (by omega)
        refine ⟨_, nI_at hil, ?_⟩
        rw [ehl, hdl]
        walk_at "wp"
        refine ⟨mulx 10 10 (by omega) (by omega) (by decide), _, hbat, ?_⟩
        walk_at "wp"
        rw [← Int.natCast_mul]
        refine ⟨mulx 10 201 (by omega) (by omega) (by decide), v + hF l i * (Lf ws (stl ws t) ns r i (hF l)).length * bh ws ns (i + 1) (rc ws t - (i + 1)), some (.int (i : Int)), x8, x9, x10, ?_, by omega⟩
        rw [← Int.natCast_mul, ← Int.natCast_add, Lf_out q]
    · rintro δ' μ' ⟨rfl, v, x7, x8, x9, x10, rfl, hv⟩
      rw [hM]; clear hM M
      walk_at "wps"
      rw [Nat.sub_self] at hv
      have hv : v = rk ws (fun f => qA f (stl ws t)) r (rc ws t) 0 (hF l) := by rw [← hv]; rfl
      rw [← hv] at h
      exact ret_same h
end
section
variable {P : Program} {w : World} {K : Fg} {mg : Str → Option Value} {base : Heap}
def c__law_is_head : Con := fun ds μ Φ _ => ∃ (ws : List Int) (oc : Nat) (t : QT) (ps l : List Nat), ds = [mdD ws t (nsOf ws t ps) (rc ws t), .tup (nI l)] ∧ HdOk ws oc ps t l ∧ Φ (.bl true) μ
theorem len__law_is_head {ds μ Φ Ψ} (h : c__law_is_head ds μ Φ Ψ) : ds.length = 2 := by obtain ⟨_, _, _, _, _, rfl, _⟩ := h; rfl
theorem ok__law_is_head {cx : CXT} (T : Txt P w K mg) : FnOk P w K mg base cx 2 T.f__law_is_head T.d__law_is_head ["_law_model_here", "_law_head"] (spOf K c__law_is_head) := by
  refine def_okC T.F__law_is_head sc__law_is_head _ (fun ds μ Φ Ψ h => len__law_is_head h) (fun cdv A outer s H E B hW hr =>
    ⟨_, (pss_cons (ps_if (PW.pt (pw_or (pt_not (pt_val (pe_callB call_isi (by rfl) T.z_isinstance (by decide +kernel) (pa_cons (pv 1) (pa_cons (pe_bltn (v := .ty "tuple") rfl T.z_tuple (by decide +kernel) rfl) pa_nil))))) (pw_or1 (pt_cmpR op_ne (pe_callB call_len_seq (by rfl) T.z_len PySem.boot_len (pa_cons (pv 1) pa_nil)) (pe_ix ix_list (pv 0) pe_int (fun _ _ => rfl)) (nomark _))))) (pss_one (ps_ret pe_bl)) pss_nil)
      (pss_cons (ps_if (pt_val (pe_callB (cr_any rfl) (by rfl) T.z_any (by decide +kernel) (pa_cons (pe_lc (own := [("_law_entry", 2)]) rfl sc__law_is_head.nd (pi_tup (pv 1)) (blkOk_by (N := N__law_is_head) (sc := defScope s__law_is_head) (by decide +kernel)) (fun _ _ _ _ _ => (pg_name (i := 2) sc__law_is_head.nd rfl (Or.inl rfl))) (fun _ _ _ _ _ => pts_nil) (fun _ _ _ _ _ => (pe_or (pe_not (pe_callB call_isi (by rfl) T.z_isinstance (by decide +kernel) (pa_cons (pv 2) (pa_cons (pe_bltn (v := .ty "int") rfl T.z_int (by decide +kernel) rfl) pa_nil)))) (pe_one (pe_callB call_isi (by rfl) T.z_isinstance (by decide +kernel) (pa_cons (pv 2) (pa_cons (pe_bltn (v := .ty "bool") rfl T.z_bool (by decide +kernel) rfl) pa_nil))))))) pa_nil))) (pss_one (ps_ret pe_bl)) pss_nil)
      (pss_one (ps_ret (pe_callB (cr_all rfl) (by rfl) T.z_all (by decide +kernel) (pa_cons (pe_lc (own := [("_law_place", 3)]) rfl sc__law_is_head.nd (pi_range1 rfl T.z_range (pa_cons (pe_callB call_len_seq (by rfl) T.z_len PySem.boot_len (pa_cons (pv 1) pa_nil)) pa_nil)) (blkOk_by (N := N__law_is_head) (sc := defScope s__law_is_head) (by decide +kernel)) (fun _ _ _ _ _ => (pg_name (i := 3) sc__law_is_head.nd rfl (Or.inl rfl))) (fun _ _ _ _ _ => pts_nil) (fun _ _ _ _ _ => (pe_chain op_le op_lt pe_int (pe_ix ix_tup (pv 1) (pv 3) (fun _ _ => rfl)) (pe_call (ok__law_width T) hr rfl T.g__law_width T.F__law_width.kp T.b__law_width .nil passN (pa_cons (pe_ix ix_list (pv 0) pe_int (fun _ _ => rfl)) (pa_cons (pv 3) pa_nil)))))) pa_nil)))))),
      (sSeq (sIfS (sOr (sNot (sB (sCB (rcIsi (T := "tuple")) (sCons sVar (sCons sHd sNil))))) (sTest (sOp roNe (sCB rcLen (sCons sVar sNil)) (sOp roIxL sVar sInt)))) (sRet sBl) sNext)
      (sSeq (sIfS (sB (sCB rcAny (sCons (sLc (siT sVar) (gwName List.mem_cons_self) (fun _ _ _ => sName) (fun _ _ _ => sYes) (fun _ _ _ => (sOrV (sNotV (sCB (rcIsi (T := "int")) (sCons sVar (sCons sHd sNil)))) (sCB (rcIsi (T := "bool")) (sCons sVar (sCons sHd sNil)))))) sNil))) (sRet sBl) sNext)
      (sRet (sCB rcAll (sCons (sLc (siR1 (sCB rcLen (sCons sVar sNil))) (gwName List.mem_cons_self) (fun _ _ _ => sName) (fun _ _ _ => sYes) (fun _ _ _ => (sChain roBl0 roBl0 sInt (sOp roIxT sVar sVar) (sCall (sCons (sOp roIxL sVar sInt) (sCons sVar sNil)))))) sNil)))))⟩) (fun ds μ Φ Ψ h => ?hv)
  case hv =>
    obtain ⟨ws, oc, t, ps, l, rfl, hh, h⟩ := h
    have hw := hh.fit.w
    have hlt := hh.lt
    have hlen := hh.len
    have r100 := (stl_of hh.fit).r100
    generalize nsOf ws t ps = ns at *
    unfold mdD
    refine seq_cut fun M hM => ?_
    walk_at "wp"
    refine ⟨_, atI_nat (j := 5) rfl, ?_⟩
    rw [nI_len, hlen]
    walk_at "wp"
    refine ⟨fun z => by simp at z, fun _ => ?_⟩
    rw [hM]; clear hM M
    refine seq_cut fun M hM => ?_
    walk_at "wp"
    refine lcM (l := l) (G := fun (n : Nat) => D.int (n : Int)) (fun _ => .bl false) (by omega) (fun a μ2 X ha hsub hx => ?_) ?_
    · walk_at "wp"
      exact hx
    rw [show (l.map fun _ => D.bl false) = (l.map fun _ => false).map D.bl by rw [List.map_map]; rfl, w_any]
    rw [show (l.map fun _ => false).any id = false by rw [List.any_map]; exact List.any_eq_false.mpr fun x _ => by simp]
    walk_at "wp"
    rw [hM]; clear hM M
    walk_at "wps"
    rw [nI_len]
    refine ⟨by omega, by omega, ?_⟩
    refine lcR (fun _ => .bl true) (by omega) (fun i μ2 X hi hsub hx => ?_) ?_
    · have e : l[i] = hF l i := by unfold hF; rw [List.getD_eq_getElem?_getD, List.getElem?_eq_getElem hi]; rfl
      have hlti := hlt i
      walk_at "wp"
      refine ⟨_, nI_at hi, ?_⟩
      rw [e]
      walk_at "wp"
      refine ⟨fun _ => ⟨ws, i, rfl, hw, ?_⟩, fun z => absurd (by omega) z⟩
      walk_at "wp"
      rw [decide_eq_true (show ((hF l i : Nat) : Int) < (wd ws i : Int) by omega)]
      exact hx
    · refine w_allB (P := (List.range l.length).map fun _ => true) (by rw [List.map_map]; rfl) (ret_same ?_)
      rw [show ((List.range l.length).map fun _ => true).all id = true by rw [List.all_map]; exact List.all_eq_true.mpr fun x _ => rfl]
      exact h
def c__law_great : Con := fun ds μ Φ _ => ∃ (st : Addr) (ns : List Int) (c : List D) (n : Nat), ds = [.hd (.ref st), .int (n : Int)] ∧ μ st = some (.lst c) ∧ StC ns c ∧ 0 < n ∧ n ≤ 2 ^ 210 ∧ ∀ r c', r < n → StC ns c' → Φ (.int ((r : Nat) : Int)) (sset μ st (.lst c'))
theorem len__law_great {ds μ Φ Ψ} (h : c__law_great ds μ Φ Ψ) : ds.length = 2 := by obtain ⟨_, _, _, _, rfl, _⟩ := h; rfl
theorem ok__law_great {cx : CXT} (T : Txt P w K mg) : FnOk P w K mg base cx 2 T.f__law_great T.d__law_great ["_law_state", "_law_limit"] (spOf K c__law_great) := by
  refine def_okC T.F__law_great sc__law_great _ (fun ds μ Φ Ψ h => len__law_great h) (fun cdv A outer s H E B hW hr =>
    ⟨_, (pss_cons (ps_set (i := 2) sc__law_great.nd rfl (Or.inl rfl) pe_int)
      (pss_cons (ps_for (passes_of rfl) rfl (pi_range1 rfl T.z_range (pa_cons pe_int pa_nil)) (pg_name (i := 3) sc__law_great.nd rfl (Or.inl rfl)) (pss_one (ps_set (i := 2) sc__law_great.nd rfl (Or.inl rfl) (pe_op op_add (pe_op op_mulX (pv 2) (pe_op op_pow pe_int pe_int)) (pe_call (ok__law_pick T) hr rfl T.g__law_pick T.F__law_pick.kp T.b__law_pick .nil passN (pa_cons (pv 0) (pa_cons (pe_op op_pow pe_int pe_int) pa_nil)))))))
      (pss_one (ps_ret (pe_op op_mod (pe_callTy call_int1 (by rfl) T.z_int (by decide +kernel) (pa_cons (pv 2) pa_nil)) (pv 1)))))),
      (sSeq (sAsg sInt sName)
      (sSeq (sFor (siR1 sInt) (fun _ _ _ => sName) (fun _ _ _ => (sAsg (sOp roInt0 (sOp roInt sVar (sOp roInt sInt sInt)) (sCall (sCons sVar (sCons (sOp roInt sInt sInt) sNil)))) sName)))
      (sRet (sOp roInt (sCB rcInt (sCons sVar sNil)) sVar))))⟩) (fun ds μ Φ Ψ h => ?hv)
  case hv =>
    obtain ⟨st, ns, c, n, rfl, hc, sc, hn, hn2, h⟩ := h
    refine seq_cut fun M hM => ?_
    walk_at "wp"
    rw [hM]; clear hM M
    refine seq_cut fun M hM => ?_
    walk_at "wp"
    refine ⟨by omega, by omega, fun i δ' μ' => ∃ (v : Nat) (c2 : List D) (x : Option D), δ' = [some (.hd (.ref st)), some (.int (n : Int)), some (.int (v : Int)), x] ∧ μ' = sset μ st (.lst c2) ∧ StC ns c2 ∧ v < 10 ^ (9 * i), ⟨0, c, none, rfl, (sset_idl hc).symm, sc, by decide⟩, ?_, ?_⟩
    · rintro i d δ' μ' hi ⟨v, c2, x, rfl, rfl, sc2, hv⟩
      obtain ⟨hj, rfl⟩ := rngD_get hi
      have hj : i < 7 := hj
      have hv2 : (10 : Nat) ^ (9 * i) ≤ 10 ^ 54 := Nat.pow_le_pow_right (by decide) (by omega)
      have hv3 : (10 : Nat) ^ 54 < 2 ^ 210 := by decide
      have he : (10 : Int) ^ Int.toNat 9 = 1000000000 := by decide
      walk_at "wp"
      rw [he]
      refine ⟨⟨by decide, by decide, by decide⟩, mulx 211 31 (by omega) (by decide) (by decide), ⟨by decide, by decide, by decide⟩, st, ns, c2, 1000000000, rfl, sset_same, sc2, by omega, log_mid (n := 1000000000) (by omega), fun y c3 y0 y1 sc3 => ?_⟩
      obtain ⟨y, rfl⟩ : ∃ m : Nat, y = (m : Int) := ⟨y.toNat, by omega⟩
      walk_at "wp"
      refine ⟨v * 1000000000 + y, c3, some (.int (i : Int)), by rw [Int.natCast_add, Int.natCast_mul]; rfl, rfl, sc3, ?_⟩
      have e2 : (10 : Nat) ^ (9 * (i + 1)) = 10 ^ (9 * i) * 1000000000 := by rw [Nat.mul_add, Nat.pow_add]
      omega
    · rintro δ' μ' ⟨v, c2, x, rfl, rfl, sc2, hv⟩
      rw [hM]; clear hM M
      walk_at "wps"
      refine ⟨by omega, ret_same ?_⟩
      rw [show (v : Int) % (n : Int) = ((v % n : Nat) : Int) from (Int.natCast_emod _ _).symm]
      exact h _ _ (Nat.mod_lt v hn) sc2
def c__law_ask (C O : Addr) : Con := fun ds μ Φ Ψ => ∃ (how : Int) (q : D) (o i : Int) (hd : D), ds = [.int how, q, .int o, .int i, hd] ∧ ((how = 0 → c_head_at C O [q, .int o, .int i] μ Φ Ψ) ∧ (how ≠ 0 → c_head_index C O [q, hd] μ Φ Ψ))
theorem len__law_ask {C O ds μ Φ Ψ} (h : c__law_ask C O ds μ Φ Ψ) : ds.length = 5 := by obtain ⟨_, _, _, _, _, rfl, _⟩ := h; rfl
theorem ok__law_ask (T : Txt P w K mg) : FnOk P w K mg base (L2N.CX P w) 64 T.f__law_ask T.d__law_ask ["_law_how", "_law_query", "_law_outcome_here", "_law_index", "_law_head"] (spOf K (c__law_ask T.c_Query T.c_OutOfRange)) := by
  refine def_okC T.F__law_ask sc__law_ask _ (fun ds μ Φ Ψ h => len__law_ask h) (fun cdv A outer s H E B hW hr =>
    have tk : L2N.Takes (cxOf (L2N.CX P w) P w K mg base N__law_ask "_law_ask" (defScope s__law_ask) T.f__law_ask cdv A outer s H E) (fun cls d _ H => E cls d H) := L2N.takes_of rfl rfl rfl rfl
    ⟨_, (pss_cons (ps_if (pt_cmpR op_eq (pv 0) pe_int (nomark _)) (pss_one (ps_ret (pe_callS (ok_head_at T) hr rfl T.g_head_at T.F_head_at.kp T.b_head_at (fun σ => L2N.passAt tk σ) (pa_cons (pv 1) (pa_cons (pv 2) (pa_cons (pv 3) pa_nil)))))) pss_nil)
      (pss_one (ps_ret (pe_callS (ok_head_index T) (hr.mono (by decide)) rfl T.g_head_index T.F_head_index.kp T.b_head_index (fun σ => L2N.passAt tk σ) (pa_cons (pv 1) (pa_cons (pv 4) pa_nil)))))),
      (sSeq (sIfS (sTest (sOp roEq sVar sInt)) (sRet (sCallSW (W := fun cls d _ H => E cls d H) (by exact hW) (sCons sVar (sCons sVar (sCons sVar sNil))))) sNext)
      (sRet (sCallSW (W := fun cls d _ H => E cls d H) (by exact hW) (sCons sVar (sCons sVar sNil)))))⟩) (fun ds μ Φ Ψ h => ?hv)
  case hv =>
    obtain ⟨how, q, o, i, hd, rfl, h1, h2⟩ := h
    walk_at "wps"
    refine ⟨fun z => ?_, fun z => ?_⟩
    · obtain ⟨ws, oc, ps, t, o', i', e, hf, a1, a2⟩ := h1 z
      refine ⟨ws, oc, ps, t, o', i', e, hf, fun c => ⟨_, Sub.refl, a1 c⟩, fun r er hr => ⟨fun c => ⟨_, Sub.refl, (a2 r er hr).1 c⟩, fun j ej hj => ret_same ((a2 r er hr).2 j ej hj)⟩⟩
    · obtain ⟨ws, oc, ps, t, cs, e, hf, a1, a2⟩ := h2 z
      exact ⟨ws, oc, ps, t, cs, e, hf, fun l e1 e2 e3 => ret_same (a1 l e1 e2 e3), fun c => ⟨_, Sub.refl, a2 c⟩⟩
def c__law_refused (C O : Addr) : Con := fun ds μ Φ _ => ∃ (how : Int) (q : D) (o i : Int) (hd : D) (b : Bool), ds = [.int how, q, .int o, .int i, hd] ∧ c__law_ask C O [.int how, q, .int o, .int i, hd] μ (fun _ μ' => b = false ∧ μ' = μ) (fun x μ' => b = true ∧ x = .mk O none ∧ μ' = μ) ∧ Φ (.str (if b then "range" else "let")) μ
theorem len__law_refused {C O ds μ Φ Ψ} (h : c__law_refused C O ds μ Φ Ψ) : ds.length = 5 := by obtain ⟨_, _, _, _, _, _, rfl, _⟩ := h; rfl
theorem ask_mono {C O : Addr} {ds : List D} {μ : Sto} {Φ Φ2 : D → Sto → Prop} {Ψ Ψ2 : XD → Sto → Prop} (h : c__law_ask C O ds μ Φ Ψ) (hp : ∀ d μ', Φ d μ' → Φ2 d μ') (hx : ∀ x μ', Ψ x μ' → Ψ2 x μ') : c__law_ask C O ds μ Φ2 Ψ2 := by
  obtain ⟨how, q, o, i, hd, rfl, h1, h2⟩ := h
  refine ⟨how, q, o, i, hd, rfl, fun z => ?_, fun z => ?_⟩
  · obtain ⟨ws, oc, ps, t, o', i', e, hf, a1, a2⟩ := h1 z
    exact ⟨ws, oc, ps, t, o', i', e, hf, fun c => hx _ _ (a1 c), fun r er hr => ⟨fun c => hx _ _ ((a2 r er hr).1 c), fun j ej hj => hp _ _ ((a2 r er hr).2 j ej hj)⟩⟩
  · obtain ⟨ws, oc, ps, t, cs, e, hf, a1, a2⟩ := h2 z
    exact ⟨ws, oc, ps, t, cs, e, hf, fun l e1 e2 e3 => hp _ _ (a1 l e1 e2 e3), fun c => hx _ _ (a2 c)⟩
theorem ok__law_refused (T : Txt P w K mg) : FnOk P w K mg base (L2N.CX P w) 65 T.f__law_refused T.d__law_refused ["_law_how", "_law_query", "_law_outcome_here", "_law_index", "_law_head"] (spOf K (c__law_refused T.c_Query T.c_OutOfRange)) := by
  refine def_okC T.F__law_refused sc__law_refused _ (fun ds μ Φ Ψ h => len__law_refused h) (fun cdv A outer s H E B hW hr =>
    have tk : L2N.Takes (cxOf (L2N.CX P w) P w K mg base N__law_refused "_law_refused" (defScope s__law_refused) T.f__law_refused cdv A outer s H E) (fun cls d _ H => E cls d H) := L2N.takes_of rfl rfl rfl rfl
    ⟨_, (pss_cons (L2N.ps_try_as (i := 5) rfl rfl sc__law_refused.nd rfl rfl ⟨rfl, by decide, .inl T.g_ChoosersError⟩ tk (fun W pn xe tk pown => (pss_one (ps_expr (pe_callS (ok__law_ask T) hr rfl T.g__law_ask T.F__law_ask.kp T.b__law_ask (fun σ => L2N.passAt tk σ) (pa_cons (pv 0) (pa_cons (pv 1) (pa_cons (pv 2) (pa_cons (pv 3) (pa_cons (pv 4) pa_nil)))))))))
      (fun a oe cls d pn hz hf => (pss_cons (ps_if (PW.pt (pw_or (pt_val (pe_callB (call_isH hz hf) (by rfl) T.z_isinstance (by decide +kernel) (pa_cons (pv 5) (pa_cons (pe_glob (v := .ref T.c_SizeMismatch) rfl T.g_SizeMismatch rfl) pa_nil)))) (pw_or (pt_val (pe_callB (call_isH hz hf) (by rfl) T.z_isinstance (by decide +kernel) (pa_cons (pv 5) (pa_cons (pe_glob (v := .ref T.c_TooLarge) rfl T.g_TooLarge rfl) pa_nil)))) (pw_or1 (pt_val (pe_callB (call_isH hz hf) (by rfl) T.z_isinstance (by decide +kernel) (pa_cons (pv 5) (pa_cons (pe_glob (v := .ref T.c_InvalidPlan) rfl T.g_InvalidPlan rfl) pa_nil)))))))) (pss_one (ps_ret pe_str)) pss_nil)
      (pss_cons (ps_if (PW.pt (pw_or (pt_val (pe_callB (call_isH hz hf) (by rfl) T.z_isinstance (by decide +kernel) (pa_cons (pv 5) (pa_cons (pe_glob (v := .ref T.c_InvalidTerm) rfl T.g_InvalidTerm rfl) pa_nil)))) (pw_or1 (pt_not (pt_val (pe_callB (call_isH hz hf) (by rfl) T.z_isinstance (by decide +kernel) (pa_cons (pv 5) (pa_cons (pe_bltn (v := .ty "ValueError") rfl T.z_ValueError (by decide +kernel) rfl) pa_nil)))))))) (pss_one (ps_ret pe_str)) pss_nil)
      (pss_one (ps_ret (pe_ix ix_list (pe_lst (pa_cons pe_str (pa_cons pe_str pa_nil))) (pe_callTy call_int1 (by rfl) T.z_int (by decide +kernel) (pa_cons (pe_callB (call_isH hz hf) (by rfl) T.z_isinstance (by decide +kernel) (pa_cons (pv 5) (pa_cons (pe_glob (v := .ref T.c_OutOfRange) rfl T.g_OutOfRange rfl) pa_nil))) pa_nil)) (fun _ _ => rfl))))))))
      (pss_one (ps_ret pe_str))),
      (sSeq (sTryAs (c := .ref T.c_ChoosersError) (i := 5) hW (fun W B hW => (sDrop (sCallSW (W := W) (by exact hW) (sCons sVar (sCons sVar (sCons sVar (sCons sVar (sCons sVar sNil))))))))
      (fun a cls dd x B hW rx => (sSeq (sIfS (sOr (sB (sIsE rx (sCons sVar (sCons sHd sNil)))) (sOr (sB (sIsE rx (sCons sVar (sCons sHd sNil)))) (sB (sIsE rx (sCons sVar (sCons sHd sNil)))))) (sRet sStr) sNext)
      (sSeq (sIfS (sOr (sB (sIsE rx (sCons sVar (sCons sHd sNil)))) (sNot (sB (sIsE rx (sCons sVar (sCons sHd sNil)))))) (sRet sStr) sNext)
      (sRet (sOp roIxL (sLst (sCons sStr (sCons sStr sNil))) (sCB rcInt (sCons (sIsE rx (sCons sVar (sCons sHd sNil))) sNil))))))))
      (sRet sStr))⟩) (fun ds μ Φ Ψ h => ?hv)
  case hv =>
    obtain ⟨how, q, o, i, hd, b, rfl, ha, h⟩ := h
    refine seq_cut fun M hM => ?_
    walk_at "wp"
    refine ask_mono ha (fun d μ' ⟨e, em⟩ => ?_) (fun x μ' ⟨e, ex, em⟩ => ?_)
    · subst e em
      rw [hM]; clear hM M
      walk_at "wps"
      exact ret_same h
    · subst e ex em
      refine ⟨true, T.m_OutOfRange_ChoosersError, fun _ a hfree => ?_, fun z => by cases z⟩
      refine seq_cut fun N hN => ?_
      walk_at "wp"
      refine ⟨false, T.i_OutOfRange_SizeMismatch, T.ec_OutOfRange, nofun, fun _ => ⟨false, T.i_OutOfRange_TooLarge, T.ec_OutOfRange, nofun, fun _ => ⟨false, T.i_OutOfRange_InvalidPlan, T.ec_OutOfRange, nofun, fun _ => ?_⟩⟩⟩
      rw [hN]; clear hN N
      refine seq_cut fun N hN => ?_
      walk_at "wp"
      refine ⟨false, T.i_OutOfRange_InvalidTerm, T.ec_OutOfRange, nofun, fun _ => ⟨true, T.i_OutOfRange_ValueError, T.ec_OutOfRange, nofun, fun _ => ?_⟩⟩
      rw [hN]; clear hN N
      walk_at "wps"
      refine ⟨by omega, true, T.i_OutOfRange_OutOfRange, T.ec_OutOfRange, 0, .inr ⟨true, rfl, ?_⟩⟩
      walk_at "wp"
      exact ⟨_, atI_nat (j := 1) rfl, ret_same h⟩
end
section
variable {P : Program} {w : World} {K : Fg} {mg : Str → Option Value} {base : Heap}
section
variable {P : Program} {w : World} {K : Fg} {mg : Str → Option Value} {base : Heap}
theorem okN__law_same (T : Txt P w K mg) : ∀ n, FnOk P w K mg base (L2N.CX P w) n T.f__law_same T.d__law_same ["_law_actual", "_law_due"] (spOf K (c__law_same n))
  | 0 => fn_never fun ds μ Φ Ψ h => h
  | n + 1 => step__law_same T (Nat.zero_le _) n (okN__law_same T n)
theorem ok__law_same (T : Txt P w K mg) : FnOk P w K mg base (L2N.CX P w) 30 T.f__law_same T.d__law_same ["_law_actual", "_law_due"] (spOf K (c__law_same 30)) := okN__law_same T 30
end
theorem many_eq {ws : List Int} {oc : Nat} {ps : List Nat} {t : QT} (h : QFit ws oc ps t) (h64 : (hs ws ps).length ≤ 64) (r : Nat) :
    ((hs ws (nsOf ws t ps)).map (tl t (nsOf ws t ps))).count r * bh ws (nsOf ws t ps) 0 (rc ws t) = tc ws (rc ws t) r (stl ws t) 0 := by
  have S := stl_of h
  obtain ⟨hns, hnl, hnm, hnp, hnlt, hnr⟩ := ns_of h h64
  have et : ∀ c ∈ hs ws (nsOf ws t ps), tl t (nsOf ws t ps) c = tl (stl ws t) (nsOf ws t ps) c := fun c hc => tl_both h hc
  generalize nsOf ws t ps = ns at *
  have e1 := tc_cn (r := r) (rc ws t) (stl ws t) 0 (fun _ => 0) S.is (fun q hq => by rw [Nat.zero_add]; exact S.rlt q hq)
  rw [Nat.zero_add] at e1
  rw [← e1, cn_Lf hns hnp hnlt (rc ws t) 0 _ (Nat.zero_add _)]
  congr 1
  unfold Lf
  rw [nsGe_0, nsLt_0, List.length_map, List.count, List.countP_map, List.countP_eq_length_filter]
  congr 1
  refine List.filter_congr fun c hc => ?_
  show (tl t ns c == r) = decide (tl (stl ws t) ns ([] ++ c) = r)
  rw [et c hc]
  rfl
theorem ha_all {ws : List Int} {oc : Nat} {ps : List Nat} {t : QT} (h : QFit ws oc ps t) (h64 : (hs ws ps).length ≤ 64) {r j : Nat} (hj : j < tc ws (rc ws t) r (stl ws t) 0) :
    HdOk ws oc ps t (ha ws (rc ws t) r (stl ws t) 0 j) ∧ qA (hF (ha ws (rc ws t) r (stl ws t) 0 j)) (stl ws t) = r ∧ rk ws (fun f => qA f (stl ws t)) r (rc ws t) 0 (hF (ha ws (rc ws t) r (stl ws t) 0 j)) = j := by
  have S := stl_of h
  obtain ⟨a, b, c⟩ := ha_spec h.w (stl ws t) 0 j S.is S.rlt (Nat.zero_le _) hj
  rw [Nat.sub_zero] at a c
  have H : HdOk ws oc ps t (ha ws (rc ws t) r (stl ws t) 0 j) := ⟨h, h64, a, b⟩
  obtain ⟨c1, c2⟩ := c (hF (ha ws (rc ws t) r (stl ws t) 0 j)) fun z hz => by rw [Nat.zero_add]; rfl
  refine ⟨H, c1, ?_⟩
  have e := ti_rk (r := r) (rc ws t) (stl ws t) 0 (hF (ha ws (rc ws t) r (stl ws t) 0 j)) S.is (fun q hq => by rw [Nat.zero_add]; exact S.rlt q hq) H.lt c1
  rw [Nat.zero_add] at e
  rw [e, c2]
theorem cnt_cast (r : Nat) : ∀ l : List Nat, (l.map fun (n : Nat) => (n : Int)).count (r : Int) = l.count r
  | [] => rfl
  | a :: l => by
    rw [List.map_cons, List.count_cons, List.count_cons, cnt_cast r l]
    congr 1
    by_cases c : a = r
    · rw [c]; simp
    · have c2 : ¬ (a : Int) = (r : Int) := fun z => c (Int.ofNat.inj z)
      simp [c, c2]
theorem at4 {x0 x1 x2 x3 x4 : D} {xs : List D} {P : D → Prop} : (∃ d, atI (x0 :: x1 :: x2 :: x3 :: x4 :: xs) 4 = some d ∧ P d) = P x4 := propext ⟨fun ⟨d, e, q⟩ => by
  rw [show (4 : Int) = ((4 : Nat) : Int) from rfl, atI_nat (j := 4) (v := x4) rfl] at e
  cases e; exact q, fun q => ⟨_, atI_nat (j := 4) rfl, q⟩⟩
theorem at5 {x0 x1 x2 x3 x4 x5 : D} {xs : List D} {P : D → Prop} : (∃ d, atI (x0 :: x1 :: x2 :: x3 :: x4 :: x5 :: xs) 5 = some d ∧ P d) = P x5 := propext ⟨fun ⟨d, e, q⟩ => by
  rw [show (5 : Int) = ((5 : Nat) : Int) from rfl, atI_nat (j := 5) (v := x5) rfl] at e
  cases e; exact q, fun q => ⟨_, atI_nat (j := 5) rfl, q⟩⟩
section
variable {ws : List Int} {t : QT} {ns : List Nat} {R : Nat} {μ : Sto} {X : DK}
theorem md0 : oIxL (mdD ws t ns R) (.int 0) μ X = X (.tup (ws.map .int)) μ := by rw [mdD, w_ixL, at0]
theorem md3 : oIxL (mdD ws t ns R) (.int 3) μ X = X (.lst (nI ((hs ws ns).map (tl t ns)))) μ := by rw [mdD, w_ixL, at3]
theorem md4 : oIxL (mdD ws t ns R) (.int 4) μ X = X (.lst (nI ((List.range (R + 1)).map fun i => bh ws ns i (R - i)))) μ := by rw [mdD, w_ixL, at4]
theorem md5 : oIxL (mdD ws t ns R) (.int 5) μ X = X (.int (R : Int)) μ := by rw [mdD, w_ixL, at5]
end
def c__law_numbers (C O : Addr) : Con := fun ds μ Φ _ => ∃ (st : Addr) (ns : List Int) (c : List D) (ws : List Int) (oc : Nat) (t : QT) (ps : List Nat), ds = [.hd (.ref st), qO C t ws oc, mdD ws t (nsOf ws t ps) (rc ws t), .int (oc : Int)] ∧ μ st = some (.lst c) ∧ StC ns c ∧ QFit ws oc ps t ∧ (hs ws ps).length ≤ 64 ∧ ∀ c', StC ns c' → Φ (.bl true) (sset μ st (.lst c'))
theorem len__law_numbers {C O ds μ Φ Ψ} (h : c__law_numbers C O ds μ Φ Ψ) : ds.length = 4 := by obtain ⟨_, _, _, _, _, _, _, rfl, _⟩ := h; rfl
theorem ask_bad {C O : Addr} {ws : List Int} {oc : Nat} {ps : List Nat} {t : QT} {hd : D} {μ : Sto} (hf : QFit ws oc ps t) {o i : Int} (h : ∀ r : Nat, o = (r : Int) → r < oc → ¬ (0 ≤ i ∧ i < ((tc ws (rc ws t) r (stl ws t) 0 : Nat) : Int))) :
    c__law_ask C O [.int 0, qO C t ws oc, .int o, .int i, hd] μ (fun _ μ' => true = false ∧ μ' = μ) (fun x μ' => true = true ∧ x = .mk O none ∧ μ' = μ) :=
  ⟨0, _, o, i, hd, rfl, fun _ => ⟨ws, oc, ps, t, o, i, rfl, hf, fun _ => ⟨rfl, rfl, rfl⟩, fun r er hr => ⟨fun _ => ⟨rfl, rfl, rfl⟩, fun j ej hj => absurd ⟨by omega, by omega⟩ (h r er hr)⟩⟩, fun z => absurd rfl z⟩
theorem ok__law_numbers (T : Txt P w K mg) : FnOk P w K mg base (L2N.CX P w) 66 T.f__law_numbers T.d__law_numbers ["_law_state", "_law_query", "_law_model_here", "_law_outcomes"] (spOf K (c__law_numbers T.c_Query T.c_OutOfRange)) := by
  refine def_okC T.F__law_numbers sc__law_numbers _ (fun ds μ Φ Ψ h => len__law_numbers h) (fun cdv A outer s H E B hW hr =>
    have tk : L2N.Takes (cxOf (L2N.CX P w) P w K mg base N__law_numbers "_law_numbers" (defScope s__law_numbers) T.f__law_numbers cdv A outer s H E) (fun cls d _ H => E cls d H) := L2N.takes_of rfl rfl rfl rfl
    ⟨_, (pss_cons (ps_for (passes_of rfl) rfl (pi_range1 rfl T.z_range (pa_cons (pv 3) pa_nil)) (pg_name (i := 4) sc__law_numbers.nd rfl (Or.inl rfl)) (pss_cons (ps_set (i := 5) sc__law_numbers.nd rfl (Or.inl rfl) (pe_op op_mulX (pe_bm PySem.F.plainAttrs_list PySem.F.slot_list_count PySem.F.type_list_count mt_lcount (pe_ix ix_list (pv 2) pe_int (fun _ _ => rfl)) (pa_cons (pv 4) pa_nil)) (pe_ix ix_list (pe_ix ix_list (pv 2) pe_int (fun _ _ => rfl)) pe_int (fun _ _ => rfl))))
      (pss_cons (ps_set (i := 6) sc__law_numbers.nd rfl (Or.inl rfl) (pe_lst pa_nil))
      (pss_cons (ps_if (pt_cmpR op_gt (pv 5) pe_int (nomark _)) (pss_one (ps_set (i := 6) sc__law_numbers.nd rfl (Or.inl rfl) (pe_slice sl_list (pe_lst (pa_cons (pe_call (ok__law_great T) (hr.mono (by decide)) rfl T.g__law_great T.F__law_great.kp T.b__law_great .nil passN (pa_cons (pv 0) (pa_cons (pv 5) pa_nil))) (pa_cons (pe_op op_mulX (pe_op op_sub (pv 5) pe_int) (pe_call (ok__law_pick T) (hr.mono (by decide)) rfl T.g__law_pick T.F__law_pick.kp T.b__law_pick .nil passN (pa_cons (pv 0) (pa_cons pe_int pa_nil)))) pa_nil))) (po_some (pe_call (ok__law_pick T) (hr.mono (by decide)) rfl T.g__law_pick T.F__law_pick.kp T.b__law_pick .nil passN (pa_cons (pv 0) (pa_cons pe_int pa_nil)))) po_none))) pss_nil)
      (pss_cons (ps_for (passes_of rfl) rfl (pi_list (pv 6)) (pg_name (i := 7) sc__law_numbers.nd rfl (Or.inl rfl)) (pss_cons (ps_set (i := 8) sc__law_numbers.nd rfl (Or.inl rfl) (pe_callS (ok_head_at T) (hr.mono (by decide)) rfl T.g_head_at T.F_head_at.kp T.b_head_at (fun σ => L2N.passAt tk σ) (pa_cons (pv 1) (pa_cons (pv 4) (pa_cons (pv 7) pa_nil)))))
      (pss_one (ps_if (PW.pt (pw_or (pt_not (pt_val (pe_call (ok__law_is_head T) (hr.mono (by decide)) rfl T.g__law_is_head T.F__law_is_head.kp T.b__law_is_head .nil passN (pa_cons (pv 2) (pa_cons (pv 8) pa_nil))))) (pw_or (pt_cmpR op_ne (pe_call (ok__law_outcome T) (hr.mono (by decide)) rfl T.g__law_outcome T.F__law_outcome.kp T.b__law_outcome .nil passN (pa_cons (pv 2) (pa_cons (pv 8) pa_nil))) (pv 4) (nomark _)) (pw_or1 (pt_cmpR op_ne (pe_call (ok__law_rank T) (hr.mono (by decide)) rfl T.g__law_rank T.F__law_rank.kp T.b__law_rank .nil passN (pa_cons (pv 2) (pa_cons (pv 8) (pa_cons (pv 4) pa_nil)))) (pv 7) (nomark _)))))) (pss_one (ps_ret pe_bl)) pss_nil))))
      (pss_one (ps_if (pt_cmpR op_ne (pe_call (ok__law_refused T) hr rfl T.g__law_refused T.F__law_refused.kp T.b__law_refused .nil passN (pa_cons pe_int (pa_cons (pv 1) (pa_cons (pv 4) (pa_cons (pe_ix ix_list (pe_lst (pa_cons (pv 5) (pa_cons (pv 5) (pa_cons (pe_op op_add (pv 5) pe_int) (pa_cons (pe_un un_neg pe_int) pa_nil))))) (pe_call (ok__law_pick T) (hr.mono (by decide)) rfl T.g__law_pick T.F__law_pick.kp T.b__law_pick .nil passN (pa_cons (pv 0) (pa_cons pe_int pa_nil))) (fun _ _ => rfl)) (pa_cons (pe_tupN pa_nil) pa_nil)))))) pe_str (nomark _)) (pss_one (ps_ret pe_bl)) pss_nil)))))))
      (pss_one (ps_ret (pe_and (pe_cmpR op_eq (pe_call (ok__law_refused T) hr rfl T.g__law_refused T.F__law_refused.kp T.b__law_refused .nil passN (pa_cons pe_int (pa_cons (pv 1) (pa_cons (pv 3) (pa_cons pe_int (pa_cons (pe_tupN pa_nil) pa_nil)))))) pe_str (nomark _)) (pe_one (pe_cmpR op_eq (pe_call (ok__law_refused T) hr rfl T.g__law_refused T.F__law_refused.kp T.b__law_refused .nil passN (pa_cons pe_int (pa_cons (pv 1) (pa_cons (pe_un un_neg pe_int) (pa_cons pe_int (pa_cons (pe_tupN pa_nil) pa_nil)))))) pe_str (nomark _))))))),
      (sSeq (sFor (siR1 sVar) (fun _ _ _ => sName) (fun _ _ _ => (sSeq (sAsg (sOp roInt (sCntL (sOp roIxL sVar sInt) sVar) (sOp roIxL (sOp roIxL sVar sInt) sInt)) sName)
      (sSeq (sAsg (sLst sNil) sName)
      (sSeq (sIfS (sTest (sOp roBl0 sVar sInt)) (sAsg (sSlL (sLst (sCons (sCall (sCons sVar (sCons sVar sNil))) (sCons (sOp roInt (sOp roInt0 sVar sInt) (sCall (sCons sVar (sCons sInt sNil)))) sNil))) (sPart (sCall (sCons sVar (sCons sInt sNil)))) sNoPart) sName) sNext)
      (sSeq (sFor (siL sVar) (fun _ _ _ => sName) (fun _ _ _ => (sSeq (sAsg (sCallSW (W := fun cls d _ H => E cls d H) (by exact hW) (sCons sVar (sCons sVar (sCons sVar sNil)))) sName)
      (sIfS (sOr (sNot (sB (sCall (sCons sVar (sCons sVar sNil))))) (sOr (sTest (sOp roNe (sCall (sCons sVar (sCons sVar sNil))) sVar)) (sTest (sOp roNe (sCall (sCons sVar (sCons sVar (sCons sVar sNil)))) sVar)))) (sRet sBl) sNext))))
      (sIfS (sTest (sOp roNe (sCall (sCons sInt (sCons sVar (sCons sVar (sCons (sOp roIxL (sLst (sCons sVar (sCons sVar (sCons (sOp roInt0 sVar sInt) (sCons (sUn ruInt sInt) sNil))))) (sCall (sCons sVar (sCons sInt sNil)))) (sCons (sTup sNil) sNil)))))) sStr)) (sRet sBl) sNext)))))))
      (sRet (sAndV (sOp roEq (sCall (sCons sInt (sCons sVar (sCons sVar (sCons sInt (sCons (sTup sNil) sNil)))))) sStr) (sOp roEq (sCall (sCons sInt (sCons sVar (sCons (sUn ruInt sInt) (sCons sInt (sCons (sTup sNil) sNil)))))) sStr))))⟩) (fun ds μ Φ Ψ h => ?hv)
  case hv =>
    obtain ⟨st, ns, c, ws, oc, t, ps, rfl, hc, sc, hf, h64, h⟩ := h
    have ho4 := hf.o4
    refine seq_cut fun M hM => ?_
    walk_at "wp"
    have S := stl_of hf
    have hw := hf.w
    have r100 := S.r100
    have b1 : (2 : Nat) ^ 200 < 2 ^ 201 := by decide
    have b2 : (2 : Nat) ^ 200 < 2 ^ 210 := by decide
    refine ⟨by omega, by omega, fun i δ' μ' => ∃ (c2 : List D) (x4 x5 x6 x7 x8 : Option D), δ' = [some (.hd (.ref st)), some (qO T.c_Query t ws oc), some (mdD ws t (nsOf ws t ps) (rc ws t)), some (.int (oc : Int)), x4, x5, x6, x7, x8] ∧ μ' = sset μ st (.lst c2) ∧ StC ns c2, ⟨c, none, none, none, none, none, rfl, (sset_idl hc).symm, sc⟩, ?_, ?_⟩
    · rintro r d δ' μ' hi ⟨c2, x4, x5, x6, x7, x8, rfl, rfl, sc2⟩
      obtain ⟨hr, rfl⟩ := rngD_get hi
      have hJ := tc_le (r := r) hw (R := rc ws t) S.is S.rlt (Nat.zero_le _) r100
      have hmany := many_eq hf h64 r
      generalize hjj : tc ws (rc ws t) r (stl ws t) 0 = J at *
      refine seq_cut fun N hN => ?_
      walk_at "wp"
      simp only [md3, md4]
      refine ⟨_, by rw [nI_ints], ?_⟩
      walk_at "wp"
      refine ⟨_, nI_at (i := 0) (by simp), ?_⟩
      rw [List.getElem_map, List.getElem_range, Nat.sub_zero, cnt_cast]
      have bb := bh_big hw (nsOf ws t ps) (k := rc ws t) r100 0
      have cl := List.count_le_length (a := r) (l := (hs ws (nsOf ws t ps)).map (tl t (nsOf ws t ps)))
      have hm64 := (ns_of hf h64).most
      rw [List.length_map] at cl
      generalize hmd : mdD ws t (nsOf ws t ps) (rc ws t) = md at *
      walk_at "wp"
      rw [← Int.natCast_mul, hmany]
      refine ⟨mulx 10 201 (by omega) (by omega) (by decide), ?_⟩
      rw [hN]; clear hN N
      refine seq_cut fun N hN => ?_
      walk_at "wp"
      refine ⟨by omega, ?_⟩
      rw [hN]; clear hN N
      refine seq_cut fun N hN => ?_
      have go : ∀ (js : List Nat) (c3 : List D), (∀ j ∈ js, j < J) → StC ns c3 → N [some (.hd (.ref st)), some (qO T.c_Query t ws oc), some md, some (.int (oc : Int)), some (.int (r : Int)), some (.int (J : Int)), some (.lst (nI js)), x7, x8] (sset μ st (.lst c3)) := fun js c3 hjs sc3 => by
        rw [hN]
        refine seq_cut fun O hO => ?_
        walk_at "wp"
        refine ⟨fun i δ' μ' => ∃ (x7 x8 : Option D), δ' = [some (.hd (.ref st)), some (qO T.c_Query t ws oc), some md, some (.int (oc : Int)), some (.int (r : Int)), some (.int (J : Int)), some (.lst (nI js)), x7, x8] ∧ μ' = sset μ st (.lst c3), ⟨_, _, rfl, rfl⟩, ?_, ?_⟩
        · rintro i d δ' μ' hi ⟨x7, x8, rfl, rfl⟩
          obtain ⟨hil, rfl⟩ := nI_get hi
          have hjl := hjs _ (List.getElem_mem hil)
          generalize js[i] = j at *
          rw [← hjj] at hjl
          obtain ⟨H, a1, a2⟩ := ha_all hf h64 hjl
          refine seq_cut fun Q hQ => ?_
          walk_at "wp"
          refine ⟨ws, oc, ps, t, _, _, rfl, hf, fun z => absurd (by omega) z, fun r' er hr' => ?_⟩
          obtain rfl : r = r' := Int.ofNat.inj er
          refine ⟨fun z => absurd (by omega) z, fun j' ej hj' => ?_⟩
          obtain rfl : j = j' := Int.ofNat.inj ej
          show Q _ _
          rw [hQ]; clear hQ Q
          walk_at "wps"
          refine ⟨ws, oc, t, ps, _, by rw [hmd], H, true, rfl, nofun, fun _ => ⟨ws, oc, t, ps, _, by rw [hmd], H, ?_⟩⟩
          rw [a1]
          walk_at "wp"
          refine ⟨fun z => by simp at z, fun _ => ⟨ws, oc, t, ps, _, r, by rw [hmd], H, ?_⟩⟩
          rw [a2]
          walk_at "wp"
          exact ⟨fun z => by simp at z, fun _ => ⟨_, _, rfl⟩⟩
        · rintro δ' μ' ⟨x7, x8, rfl, rfl⟩
          rw [hO]; clear hO O
          walk_at "wp"
          refine ⟨by omega, st, ns, c3, 4, rfl, sset_same, sc3, by omega, log_small (n := 4) (by omega), fun y c4 y0 y1 sc4 => ?_⟩
          have key : ∀ v : Int, ¬ (0 ≤ v ∧ v < (J : Int)) → atI [D.int (J : Int), .int (J : Int), .int ((J : Int) + 5), .int (-1)] y = some (.int v) → oIxL (D.lst [D.int (J : Int), .int (J : Int), .int ((J : Int) + 5), .int (-1)]) (.int y) (sset (sset μ st (.lst c3)) st (.lst c4)) fun x μ1 => 0 ≤ 100000 ∧ c__law_refused T.c_Query T.c_OutOfRange [.int 0, qO T.c_Query t ws oc, .int (r : Int), x, .tup []] μ1 (fun x μ1 => oNe x (.str "range") μ1 fun x μ1 => ∃ b, x = .bl b ∧ (b = true → ∃ μ2, DW.Sub μ2 μ1 ∧ Φ (.bl false) μ2) ∧ (b = false → ∃ (c2 : List D) (x4 x5 x6 x7_1 x8_1 : Option D), [some (.hd (.ref st)), some (qO T.c_Query t ws oc), some md, some (.int (oc : Int)), some (.int (r : Int)), some (.int (J : Int)), some (.lst (nI js)), x7, x8] = [some (.hd (.ref st)), some (qO T.c_Query t ws oc), some md, some (.int (oc : Int)), x4, x5, x6, x7_1, x8_1] ∧ μ1 = sset μ st (.lst c2) ∧ StC ns c2)) fun _ _ => False := fun v hv e => by
            walk_at "wp"
            refine ⟨_, e, by omega, 0, _, _, _, _, true, rfl, ask_bad hf (fun r' er hr' => ?_), ?_⟩
            · obtain rfl : r = r' := Int.ofNat.inj er
              rw [hjj]; exact hv
            · rw [if_pos rfl]
              walk_at "wp"
              exact ⟨fun z => by simp at z, fun _ => ⟨c4, _, _, _, _, _, rfl, rfl, sc4⟩⟩
          obtain ⟨y, rfl⟩ : ∃ m : Nat, y = (m : Int) := ⟨y.toNat, by omega⟩
          rcases (show y = 0 ∨ y = 1 ∨ y = 2 ∨ y = 3 by omega) with rfl | rfl | rfl | rfl
          · exact key J (by omega) (atI_nat (j := 0) rfl)
          · exact key J (by omega) (atI_nat (j := 1) rfl)
          · exact key (J + 5) (by omega) (atI_nat (j := 2) rfl)
          · exact key (-1) (by omega) (atI_nat (j := 3) rfl)
      walk_at "wp"
      refine ⟨fun z => ⟨st, ns, c2, J, rfl, sset_same, sc2, by omega, by omega, fun g c3 hg sc3 => ?_⟩, fun _ => go [] c2 (by simp) sc2⟩
      refine ⟨st, ns, c3, 2, rfl, sset_same, sc3, by omega, log_small (n := 2) (by omega), fun y c4 y0 y1 sc4 => ?_⟩
      obtain ⟨y, rfl⟩ : ∃ m : Nat, y = (m : Int) := ⟨y.toNat, by omega⟩
      have hy : (J - 1) * y < J := by
        have : (J - 1) * y ≤ (J - 1) * 1 := Nat.mul_le_mul_left _ (by omega)
        omega
      have ey : ((J : Int) - 1) * (y : Int) = (((J - 1) * y : Nat) : Int) := by rw [Int.natCast_mul, Int.natCast_sub (by omega)]; rfl
      walk_at "wp"
      rw [ey]
      refine ⟨mulx 201 10 (by omega) (by omega) (by decide), by omega, st, ns, c4, 2, rfl, sset_same, sc4, by omega, log_small (n := 2) (by omega), fun z c5 z0 z1 sc5 => ?_⟩
      obtain ⟨z, rfl⟩ : ∃ m : Nat, z = (m : Int) := ⟨z.toNat, by omega⟩
      refine ⟨_, rfl, ?_⟩
      simp only [sset_sset]
      rw [cut_from]
      rcases (show z = 0 ∨ z = 1 by omega) with rfl | rfl
      · exact go [g, (J - 1) * y] c5 (fun j hj => by simp at hj; rcases hj with rfl | rfl <;> omega) sc5
      · exact go [(J - 1) * y] c5 (fun j hj => by simp at hj; rw [hj]; exact hy) sc5
    · rintro δ' μ' ⟨c2, x4, x5, x6, x7, x8, rfl, rfl, sc2⟩
      rw [hM]; clear hM M
      walk_at "wps"
      refine ⟨by omega, 0, _, _, _, _, true, rfl, ask_bad hf (fun r er hr => by omega), ?_⟩
      rw [if_pos rfl]
      walk_at "wp"
      refine ⟨⟨by omega, 0, _, _, _, _, true, rfl, ask_bad hf (fun r er hr => by omega), ?_⟩, fun z => absurd trivial z⟩
      show oEq (.str (if true = true then "range" else "let")) _ _ _
      rw [if_pos rfl]
      walk_at "wp"
      exact ret_same (h _ sc2)
end
section
variable {P : Program} {w : World} {K : Fg} {mg : Str → Option Value} {base : Heap}
mutual
theorem same_refl : ∀ d : D, plainD d = true → sameD d d = true
  | .non, _ => rfl
  | .bl b, _ => by simp [sameD]
  | .int b, _ => by simp [sameD]
  | .str b, _ => by simp [sameD]
  | .tup ds, h => by
    simp only [plainD, Bool.and_eq_true] at h
    simp only [sameD]
    exact sames_refl ds h.1
  | .lst _, h => by simp [plainD] at h
  | .pr _, h => by simp [plainD] at h
  | .obj _ _ _, h => by simp [plainD] at h
  | .hd _, h => by simp [plainD] at h
  | .scr _, h => by simp [plainD] at h
theorem sames_refl : ∀ ds : List D, plainDs ds = true → sameDs ds ds = true
  | [], _ => rfl
  | d :: ds, h => by simp only [plainDs, Bool.and_eq_true] at h; simp only [sameDs, same_refl d h.1, sames_refl ds h.2, Bool.and_self]
end
/-- may be compared -/
structure Pln (d : D) (n : Nat) : Prop where
  p : plainD d = true
  d : depD d ≤ n
theorem same_self {d : D} {μ : Sto} {Φ : DK} {Ψ : XD → Sto → Prop} (h0 : Pln d 30) (h : Φ (.bl true) μ) : c__law_same 30 [d, d] μ Φ Ψ := same_at h0.p h0.p h0.d (by rw [same_refl d h0.p]; exact h)
theorem plainDs_ints : ∀ l : List Int, plainDs (l.map .int) = true
  | [] => rfl
  | a :: l => by simp only [List.map_cons, plainDs, plainD, plainDs_ints l, Bool.and_self]
theorem depDs_ints : ∀ l : List Int, depDs (l.map .int) ≤ 1
  | [] => by simp [depDs]
  | a :: l => by have := depDs_ints l; simp only [List.map_cons, depDs, depD]; omega
theorem Pln.int {i : Int} {n : Nat} : Pln (.int i) (n + 1) := ⟨rfl, by simp [depD]⟩
theorem Pln.str {i : Str} {n : Nat} : Pln (.str i) (n + 1) := ⟨rfl, by simp [depD]⟩
theorem Pln.ints {l : List Int} {n : Nat} (h : l.length ≤ 1000) : Pln (.tup (l.map .int)) (n + 2) :=
  ⟨by simp only [plainD, plainDs_ints, List.length_map, Bool.true_and, decide_eq_true_eq]; omega, by have := depDs_ints l; simp only [depD]; omega⟩
theorem pln_all : ∀ {ds : List D} {n : Nat}, (∀ d ∈ ds, Pln d n) → plainDs ds = true ∧ depDs ds ≤ n
  | [], n, h => ⟨rfl, by simp [depDs]⟩
  | d :: ds, n, h => by
    obtain ⟨a, b⟩ := pln_all (ds := ds) (n := n) fun e he => h e (List.mem_cons_of_mem _ he)
    have c := h d List.mem_cons_self
    exact ⟨by simp only [plainDs, a, c.p, Bool.and_self], by have := c.d; simp only [depDs]; omega⟩
theorem Pln.tup {ds : List D} {n : Nat} (hl : ds.length ≤ 1000) (h : ∀ d ∈ ds, Pln d n) : Pln (.tup ds) (n + 1) := by
  obtain ⟨a, b⟩ := pln_all h
  exact ⟨by simp only [plainD, a, Bool.true_and, decide_eq_true_eq]; omega, by simp only [depD]; omega⟩
theorem Pln.up {d : D} {n m : Nat} (h : Pln d n) (hl : n ≤ m) : Pln d m := ⟨h.p, Nat.le_trans h.d hl⟩
theorem pln_q {ws : List Int} {oc : Nat} (hw : WsOk ws) : ∀ t : QT, QOk ws oc t → Pln (qD t) (qDep t + 2) := fun t => by
  induction t using QT.ind with
  | h1 o =>
    intro _
    rw [qD]
    refine Pln.tup (n := 1) (by simp) fun d hd => ?_
    rcases List.mem_cons.mp hd with z | z
    · rw [z]; exact Pln.str
    · rw [List.mem_singleton.mp z]; exact Pln.int
  | h2 p ts ih =>
    intro h
    obtain ⟨hp, hl, ht⟩ := h
    rw [qoks_iff] at ht
    have := hw.wd1 p
    rw [qD, qDep]
    refine Pln.tup (n := qDep.qDeps ts + 2) (by rw [List.length_cons, List.length_cons, qDs_len]; omega) fun d hd => ?_
    rcases List.mem_cons.mp hd with z | z
    · rw [z]; exact Pln.str
    · rcases List.mem_cons.mp z with z | z
      · rw [z]; exact Pln.int
      · rw [qDs_map] at z
        obtain ⟨u, hu, rfl⟩ := List.mem_map.mp z
        exact (ih u hu (ht u hu)).up (by have := qdeps_le hu; omega)
theorem same_I {i : Int} {μ : Sto} {Φ : DK} {Ψ : XD → Sto → Prop} (h : Φ (.bl true) μ) : c__law_same 30 [.int i, .int i] μ Φ Ψ := same_self (Pln.int (n := 29)) h
theorem same_N {l : List Nat} {μ : Sto} {Φ : DK} {Ψ : XD → Sto → Prop} (hl : l.length ≤ 1000) (h : Φ (.bl true) μ) : c__law_same 30 [.tup (nI l), .tup (nI l)] μ Φ Ψ := by
  have p : Pln (.tup (nI l)) 30 := by rw [nI_ints]; exact (Pln.ints (n := 28) (by rw [List.length_map]; exact hl))
  exact same_self p h
theorem rep0 : ∀ n : Nat, (List.replicate n [D.int 0]).flatten = nI (List.replicate n 0)
  | 0 => rfl
  | n + 1 => by rw [List.replicate_succ, List.flatten_cons, rep0 n]; rfl
theorem idx_all {ws : List Int} {oc : Nat} {ps : List Nat} {t : QT} {l : List Nat} (H : HdOk ws oc ps t l) :
    rk ws (fun f => qA f (stl ws t)) (qA (hF l) (stl ws t)) (rc ws t) 0 (hF l) = ti ws (rc ws t) (qA (hF l) (stl ws t)) (hF l) (stl ws t) 0 ∧
    ti ws (rc ws t) (qA (hF l) (stl ws t)) (hF l) (stl ws t) 0 < tc ws (rc ws t) (qA (hF l) (stl ws t)) (stl ws t) 0 ∧
    ha ws (rc ws t) (qA (hF l) (stl ws t)) (stl ws t) 0 (ti ws (rc ws t) (qA (hF l) (stl ws t)) (hF l) (stl ws t) 0) = l ∧ qA (hF l) (stl ws t) < oc := by
  have S := stl_of H.fit
  have e := ti_rk (r := qA (hF l) (stl ws t)) (rc ws t) (stl ws t) 0 (hF l) S.is (fun q hq => by rw [Nat.zero_add]; exact S.rlt q hq) H.lt rfl
  rw [Nat.zero_add] at e
  have lt := ti_lt S.is S.rlt (Nat.zero_le _) H.lt
  obtain ⟨H', a1, a2⟩ := ha_all H.fit H.most lt
  refine ⟨e, lt, ?_, qA_lt H.lt _ S.is.ok⟩
  generalize ha ws (rc ws t) (qA (hF l) (stl ws t)) (stl ws t) 0 (ti ws (rc ws t) (qA (hF l) (stl ws t)) (hF l) (stl ws t) 0) = l' at *
  have ef : hF l' = hF l := rk_inj (g := fun f => qA f (stl ws t)) (rc ws t) 0 (hF l) (hF l') (fun q hq => by
    unfold hF
    rw [List.getD_eq_getElem?_getD, List.getD_eq_getElem?_getD, List.getElem?_eq_none (by rw [H'.len]; omega), List.getElem?_eq_none (by rw [H.len]; omega)]) rfl a1 H.lt H'.lt (by rw [e, a2])
  refine List.ext_getElem (by rw [H'.len, H.len]) fun i h1 h2 => ?_
  have := congrFun ef i
  unfold hF at this
  rw [List.getD_eq_getElem?_getD, List.getD_eq_getElem?_getD, List.getElem?_eq_getElem h1, List.getElem?_eq_getElem h2] at this
  exact this
theorem ask_bad1 {C O : Addr} {ws : List Int} {oc : Nat} {ps : List Nat} {t : QT} {cs : List Int} {μ : Sto} (hf : QFit ws oc ps t) (h : cs.length ≠ rc ws t ∨ idxU 0 (wls ws 0 (rc ws t)) cs = none) :
    c__law_ask C O [.int 1, qO C t ws oc, .int 0, .int 0, .tup (cs.map .int)] μ (fun _ μ' => true = false ∧ μ' = μ) (fun x μ' => true = true ∧ x = .mk O none ∧ μ' = μ) := by
  refine ⟨1, _, 0, 0, _, rfl, fun z => absurd z (by decide), fun _ => ⟨ws, oc, ps, t, cs, rfl, hf, fun l e1 e2 e3 => ?_, fun _ => ⟨rfl, rfl, rfl⟩⟩⟩
  subst e1
  rcases h with h | h
  · exact absurd (by rw [zI, List.length_map]; exact e2) h
  · have := idxU_wls l 0 0 (fun q => l.getD q 0) e3 fun j _ => by rw [Nat.zero_add]
    rw [e2] at this
    rw [show (0 : Int) = ((0 : Nat) : Int) from rfl, this] at h
    cases h
theorem ask_ok1 {C O : Addr} {ws : List Int} {oc : Nat} {ps : List Nat} {t : QT} {l : List Nat} {μ : Sto} (H : HdOk ws oc ps t l) :
    c__law_ask C O [.int 1, qO C t ws oc, .int 0, .int 0, .tup (nI l)] μ (fun _ μ' => false = false ∧ μ' = μ) (fun x μ' => false = true ∧ x = .mk O none ∧ μ' = μ) :=
  ⟨1, _, 0, 0, _, rfl, fun z => absurd z (by decide), fun _ => ⟨ws, oc, ps, t, zI l, by rw [nI_ints]; rfl, H.fit, fun l' e1 e2 e3 => ⟨rfl, rfl⟩, fun h => by
    rcases h with h | h
    · exact absurd (by rw [zI, List.length_map]; exact H.len) h
    · have := idxU_wls l 0 0 (fun q => l.getD q 0) H.ok fun j _ => by rw [Nat.zero_add]
      rw [H.len] at this
      rw [show (0 : Int) = ((0 : Nat) : Int) from rfl, this] at h
      cases h⟩⟩
theorem zI_inj {a b : List Nat} (h : zI a = zI b) : a = b := (List.map_inj_right (fun _ _ z => Int.ofNat.inj z)).mp h
/-- a head that is none -/
def BadH (ws : List Int) (R : Nat) (cs : List Int) : Prop := cs.length ≠ R ∨ idxU 0 (wls ws 0 R) cs = none
theorem HdOk.fine {ws : List Int} {oc : Nat} {ps : List Nat} {t : QT} {l : List Nat} (H : HdOk ws oc ps t l) : ¬ BadH ws (rc ws t) (zI l) := fun h => by
  rcases h with h | h
  · exact absurd (by rw [zI, List.length_map]; exact H.len) h
  · have := idxU_wls l 0 0 (fun q => l.getD q 0) H.ok fun j _ => by rw [Nat.zero_add]
    rw [H.len] at this
    rw [show (0 : Int) = ((0 : Nat) : Int) from rfl, this] at h
    cases h
def tI (cs : List Int) : D := .tup (cs.map .int)
theorem bad_at {ws : List Int} {l : List Nat} {R a : Nat} (hl : l.length = R) (ha : a < R) {v : Int} (hv : ¬ (0 ≤ v ∧ v < (wd ws a : Int))) : BadH ws R ((zI l).take a ++ [v] ++ (zI l).drop (a + 1)) := by
  have hz : (zI l).length = R := by rw [zI, List.length_map]; exact hl
  refine .inr (idxU_none (a := 0) (j := a) (c := v) (by rw [List.length_append, List.length_append, List.length_take, List.length_drop, List.length_singleton]; omega) ha ?_ (by rw [Nat.zero_add]; exact hv))
  rw [List.append_assoc, List.getElem?_append_right (by rw [List.length_take]; omega), List.length_take, show a - min a (zI l).length = 0 by omega]
  rfl
def c__law_indexes (C O : Addr) : Con := fun ds μ Φ _ => ∃ (st : Addr) (ns : List Int) (c : List D) (ws : List Int) (oc : Nat) (t : QT) (ps : List Nat), ds = [.hd (.ref st), qO C t ws oc, mdD ws t (nsOf ws t ps) (rc ws t)] ∧ μ st = some (.lst c) ∧ StC ns c ∧ QFit ws oc ps t ∧ (hs ws ps).length ≤ 64 ∧ ∀ c', StC ns c' → Φ (.bl true) (sset μ st (.lst c'))
theorem len__law_indexes {C O ds μ Φ Ψ} (h : c__law_indexes C O ds μ Φ Ψ) : ds.length = 3 := by obtain ⟨_, _, _, _, _, _, _, rfl, _⟩ := h; rfl
theorem ok__law_indexes (T : Txt P w K mg) : FnOk P w K mg base (L2N.CX P w) 66 T.f__law_indexes T.d__law_indexes ["_law_state", "_law_query", "_law_model_here"] (spOf K (c__law_indexes T.c_Query T.c_OutOfRange)) := by
  refine def_okC T.F__law_indexes sc__law_indexes _ (fun ds μ Φ Ψ h => len__law_indexes h) (fun cdv A outer s H E B hW hr =>
    have tk : L2N.Takes (cxOf (L2N.CX P w) P w K mg base N__law_indexes "_law_indexes" (defScope s__law_indexes) T.f__law_indexes cdv A outer s H E) (fun cls d _ H => E cls d H) := L2N.takes_of rfl rfl rfl rfl
    ⟨_, (pss_cons (ps_set (i := 3) sc__law_indexes.nd rfl (Or.inr rfl) (pe_ix ix_list (pv 2) pe_int (fun _ _ => rfl)))
      (pss_cons (ps_set (i := 4) sc__law_indexes.nd rfl (Or.inl rfl) (pe_ix ix_list (pv 2) pe_int (fun _ _ => rfl)))
      (pss_cons (ps_set (i := 5) sc__law_indexes.nd rfl (Or.inl rfl) (pe_callTy call_tupleN (by rfl) T.z_tuple (by decide +kernel) (pa_cons (pe_lc (own := [("_law_place", 12)]) rfl sc__law_indexes.nd (pi_range1 rfl T.z_range (pa_cons (pv 4) pa_nil)) (blkOk_by (N := N__law_indexes) (sc := defScope s__law_indexes) (by decide +kernel)) (fun _ _ _ _ _ => (pg_name (i := 12) sc__law_indexes.nd rfl (Or.inl rfl))) (fun _ _ _ _ _ => pts_nil) (fun _ _ _ _ _ => (pe_call (ok__law_pick T) (hr.mono (by decide)) rfl T.g__law_pick T.F__law_pick.kp T.b__law_pick .nil passN (pa_cons (pv 0) (pa_cons (pe_call (ok__law_width T) (hr.mono (by decide)) rfl T.g__law_width T.F__law_width.kp T.b__law_width .nil passN (pa_cons (pv 3) (pa_cons (pv 12) pa_nil))) pa_nil))))) pa_nil)))
      (pss_cons (ps_set (i := 6) sc__law_indexes.nd rfl (Or.inl rfl) (pe_callTy call_tupleN (by rfl) T.z_tuple (by decide +kernel) (pa_cons (pe_lc (own := [("_law_place", 12)]) rfl sc__law_indexes.nd (pi_range1 rfl T.z_range (pa_cons (pv 4) pa_nil)) (blkOk_by (N := N__law_indexes) (sc := defScope s__law_indexes) (by decide +kernel)) (fun _ _ _ _ _ => (pg_name (i := 12) sc__law_indexes.nd rfl (Or.inl rfl))) (fun _ _ _ _ _ => pts_nil) (fun _ _ _ _ _ => (pe_op op_sub (pe_call (ok__law_width T) (hr.mono (by decide)) rfl T.g__law_width T.F__law_width.kp T.b__law_width .nil passN (pa_cons (pv 3) (pa_cons (pv 12) pa_nil))) pe_int))) pa_nil)))
      (pss_cons (ps_for (passes_of rfl) rfl (pi_list (pe_lst (pa_cons (pv 5) (pa_cons (pe_ix ix_list (pe_lst (pa_cons (pe_op op_repA (pe_tupN (pa_cons pe_int pa_nil)) (pv 4)) (pa_cons (pv 6) pa_nil))) (pe_call (ok__law_pick T) (hr.mono (by decide)) rfl T.g__law_pick T.F__law_pick.kp T.b__law_pick .nil passN (pa_cons (pv 0) (pa_cons pe_int pa_nil))) (fun _ _ => rfl)) pa_nil)))) (pg_name (i := 7) sc__law_indexes.nd rfl (Or.inl rfl)) (pss_cons (ps_set (i := 9) sc__law_indexes.nd rfl (Or.inl rfl) (pe_call (ok__law_outcome T) (hr.mono (by decide)) rfl T.g__law_outcome T.F__law_outcome.kp T.b__law_outcome .nil passN (pa_cons (pv 2) (pa_cons (pv 7) pa_nil))))
      (pss_cons (ps_set (i := 10) sc__law_indexes.nd rfl (Or.inl rfl) (pe_call (ok__law_rank T) (hr.mono (by decide)) rfl T.g__law_rank T.F__law_rank.kp T.b__law_rank .nil passN (pa_cons (pv 2) (pa_cons (pv 7) (pa_cons (pv 9) pa_nil)))))
      (pss_one (ps_if (PW.pt (pw_or (pt_not (pt_val (pe_call (ok__law_same T) (hr.mono (by decide)) rfl T.g__law_same T.F__law_same.kp T.b__law_same .nil passN (pa_cons (pe_callS (ok_head_index T) (hr.mono (by decide)) rfl T.g_head_index T.F_head_index.kp T.b_head_index (fun σ => L2N.passAt tk σ) (pa_cons (pv 1) (pa_cons (pv 7) pa_nil))) (pa_cons (pv 10) pa_nil))))) (pw_or1 (pt_not (pt_val (pe_call (ok__law_same T) (hr.mono (by decide)) rfl T.g__law_same T.F__law_same.kp T.b__law_same .nil passN (pa_cons (pe_callS (ok_head_at T) (hr.mono (by decide)) rfl T.g_head_at T.F_head_at.kp T.b_head_at (fun σ => L2N.passAt tk σ) (pa_cons (pv 1) (pa_cons (pv 9) (pa_cons (pv 10) pa_nil)))) (pa_cons (pv 7) pa_nil)))))))) (pss_one (ps_ret pe_bl)) pss_nil)))))
      (pss_cons (ps_set (i := 8) sc__law_indexes.nd rfl (Or.inl rfl) (pe_lst (pa_cons (pe_op op_catN (pv 5) (pe_tupN (pa_cons pe_int pa_nil))) (pa_cons (pe_op op_catN (pv 5) (pe_tupN (pa_cons pe_int (pa_cons pe_int pa_nil)))) pa_nil))))
      (pss_cons (ps_if (pt_cmpR op_gt (pv 4) pe_int (nomark _)) (pss_cons (ps_set (i := 11) sc__law_indexes.nd rfl (Or.inl rfl) (pe_call (ok__law_pick T) (hr.mono (by decide)) rfl T.g__law_pick T.F__law_pick.kp T.b__law_pick .nil passN (pa_cons (pv 0) (pa_cons (pv 4) pa_nil))))
      (pss_cons (ps_expr (pe_bm PySem.F.plainAttrs_list PySem.F.slot_list_append PySem.F.type_list_append mt_append (pv 8) (pa_cons (pe_slice sl_tupN (pv 5) (po_some pe_int) po_none) pa_nil)))
      (pss_cons (ps_expr (pe_bm PySem.F.plainAttrs_list PySem.F.slot_list_append PySem.F.type_list_append mt_append (pv 8) (pa_cons (pe_op op_catN (pe_op op_catN (pe_slice sl_tupN (pv 5) po_none (po_some (pv 11))) (pe_tupN (pa_cons (pe_call (ok__law_width T) (hr.mono (by decide)) rfl T.g__law_width T.F__law_width.kp T.b__law_width .nil passN (pa_cons (pv 3) (pa_cons (pv 11) pa_nil))) pa_nil))) (pe_slice sl_tupN (pv 5) (po_some (pe_op op_add (pv 11) pe_int)) po_none)) pa_nil)))
      (pss_one (ps_expr (pe_bm PySem.F.plainAttrs_list PySem.F.slot_list_append PySem.F.type_list_append mt_append (pv 8) (pa_cons (pe_op op_catN (pe_op op_catN (pe_slice sl_tupN (pv 5) po_none (po_some (pv 11))) (pe_tupN (pa_cons (pe_un un_neg pe_int) pa_nil))) (pe_slice sl_tupN (pv 5) (po_some (pe_op op_add (pv 11) pe_int)) po_none)) pa_nil))))))) pss_nil)
      (pss_cons (ps_for (passes_of rfl) rfl (pi_list (pv 8)) (pg_name (i := 7) sc__law_indexes.nd rfl (Or.inl rfl)) (pss_one (ps_if (pt_cmpR op_ne (pe_call (ok__law_refused T) hr rfl T.g__law_refused T.F__law_refused.kp T.b__law_refused .nil passN (pa_cons pe_int (pa_cons (pv 1) (pa_cons pe_int (pa_cons pe_int (pa_cons (pv 7) pa_nil)))))) pe_str (nomark _)) (pss_one (ps_ret pe_bl)) pss_nil)))
      (pss_one (ps_ret (pe_cmpR op_eq (pe_call (ok__law_refused T) hr rfl T.g__law_refused T.F__law_refused.kp T.b__law_refused .nil passN (pa_cons pe_int (pa_cons (pv 1) (pa_cons pe_int (pa_cons pe_int (pa_cons (pv 5) pa_nil)))))) pe_str (nomark _)))))))))))),
      (sSeq (sAsg (sOp roIxL sVar sInt) sName)
      (sSeq (sAsg (sOp roIxL sVar sInt) sName)
      (sSeq (sAsg (sCB rcTuple (sCons (sLc (siR1 sVar) (gwName List.mem_cons_self) (fun _ _ _ => sName) (fun _ _ _ => sYes) (fun _ _ _ => (sCall (sCons sVar (sCons (sCall (sCons sVar (sCons sVar sNil))) sNil))))) sNil)) sName)
      (sSeq (sAsg (sCB rcTuple (sCons (sLc (siR1 sVar) (gwName List.mem_cons_self) (fun _ _ _ => sName) (fun _ _ _ => sYes) (fun _ _ _ => (sOp roInt0 (sCall (sCons sVar (sCons sVar sNil))) sInt))) sNil)) sName)
      (sSeq (sFor (siL (sLst (sCons sVar (sCons (sOp roIxL (sLst (sCons (sOp roRepT (sTup (sCons sInt sNil)) sVar) (sCons sVar sNil))) (sCall (sCons sVar (sCons sInt sNil)))) sNil)))) (fun _ _ _ => sName) (fun _ _ _ => (sSeq (sAsg (sCall (sCons sVar (sCons sVar sNil))) sName)
      (sSeq (sAsg (sCall (sCons sVar (sCons sVar (sCons sVar sNil)))) sName)
      (sIfS (sOr (sNot (sB (sCall (sCons (sCallSW (W := fun cls d _ H => E cls d H) (by exact hW) (sCons sVar (sCons sVar sNil))) (sCons sVar sNil))))) (sNot (sB (sCall (sCons (sCallSW (W := fun cls d _ H => E cls d H) (by exact hW) (sCons sVar (sCons sVar (sCons sVar sNil)))) (sCons sVar sNil)))))) (sRet sBl) sNext)))))
      (sSeq (sAsg (sOwn (sCons (sOp roCatT sVar (sTup (sCons sInt sNil))) (sCons (sOp roCatT sVar (sTup (sCons sInt (sCons sInt sNil)))) sNil))) sName)
      (sSeq (sIfS (sTest (sOp roBl0 sVar sInt)) (sSeq (sAsg (sCall (sCons sVar (sCons sVar sNil))) sName)
      (sSeq (sDrop (sApp sVar (sSlT sVar (sPart sInt) sNoPart)))
      (sSeq (sDrop (sApp sVar (sOp roCatT (sOp roCatT (sSlT sVar sNoPart (sPart sVar)) (sTup (sCons (sCall (sCons sVar (sCons sVar sNil))) sNil))) (sSlT sVar (sPart (sOp roInt0 sVar sInt)) sNoPart))))
      (sDrop (sApp sVar (sOp roCatT (sOp roCatT (sSlT sVar sNoPart (sPart sVar)) (sTup (sCons (sUn ruInt sInt) sNil))) (sSlT sVar (sPart (sOp roInt0 sVar sInt)) sNoPart))))))) sNext)
      (sSeq (sFor (siL sRest) (fun _ _ _ => sName) (fun _ _ _ => (sIfS (sTest (sOp roNe (sCall (sCons sInt (sCons sVar (sCons sInt (sCons sInt (sCons sVar sNil)))))) sStr)) (sRet sBl) sNext)))
      (sRet (sOp roEq (sCall (sCons sInt (sCons sVar (sCons sInt (sCons sInt (sCons sVar sNil)))))) sStr))))))))))⟩) (fun ds μ Φ Ψ h => ?hv)
  case hv =>
    obtain ⟨st, ns, c, ws, oc, t, ps, rfl, hc, sc, hf, h64, h⟩ := h
    have ho4 := hf.o4
    have S := stl_of hf
    have hw := hf.w
    have r100 := S.r100
    refine seq_cut fun M hM => ?_
    walk_at "wp"
    simp only [md0]
    rw [hM]; clear hM M
    refine seq_cut fun M hM => ?_
    walk_at "wp"
    simp only [md5]
    rw [hM]; clear hM M
    generalize hmd : mdD ws t (nsOf ws t ps) (rc ws t) = md at *
    refine seq_cut fun M hM => ?_
    walk_at "wp"
    refine ⟨by omega, by omega, ?_⟩
    refine lcG_drawN (StC ns) (fun i acc => ∃ l : List Nat, acc = nI l ∧ l.length = i ∧ HdA ws 0 l) (by rw [rngD_len]; omega) hc sc ⟨[], rfl, rfl, fun j h => by simp at h⟩ (fun i d μ2 X acc c2 hi hs2 sc2 ⟨l, e, hl, hP⟩ hla hx => ?_) (fun acc c2 ⟨l, e, hl, hP⟩ hla sc2 => ?_)
    · obtain ⟨hj, rfl⟩ := rngD_get hi
      have hw1 := hw.wd1 i
      walk_at "wp"
      refine ⟨ws, i, rfl, hw, st, ns, c2, _, rfl, hs2, sc2, by omega, log_small (by omega), fun y c3 y0 y1 sc3 => ?_⟩
      obtain ⟨y, rfl⟩ : ∃ m : Nat, y = (m : Int) := ⟨y.toNat, by omega⟩
      refine hx _ c3 sc3 ⟨l ++ [y], by rw [e]; unfold nI; rw [List.map_append]; rfl, by rw [List.length_append, hl]; rfl, fun j h => ?_⟩
      rw [List.length_append, List.length_singleton] at h
      rw [List.getD_eq_getElem?_getD]
      by_cases z : j < l.length
      · rw [List.getElem?_append_left z, ← List.getD_eq_getElem?_getD]; exact hP j z
      · have : j = l.length := by omega
        subst this
        rw [List.getElem?_append_right (Nat.le_refl _), Nat.sub_self, hl, Nat.zero_add]
        show y < _
        omega
    rw [rngD_len] at hl
    subst e
    have H : HdOk ws oc ps t l := ⟨hf, h64, hl, hP⟩
    refine ⟨_, .lst _, ?_⟩
    rw [hM]; clear hM M
    refine seq_cut fun M hM => ?_
    walk_at "wp"
    refine ⟨by omega, by omega, ?_⟩
    refine lcR (fun i => .int ((wd ws i - 1 : Nat) : Int)) (by omega) (fun i μ2 X hi hsub hx => ?_) ?_
    · walk_at "wp"
      have hw1 := hw.wd1 i
      refine ⟨ws, i, rfl, hw, ?_⟩
      walk_at "wp"
      rw [show (wd ws i : Int) - 1 = ((wd ws i - 1 : Nat) : Int) by omega]
      exact hx
    rw [← nI_map]
    refine ⟨_, .lst _, ?_⟩
    rw [hM]; clear hM M
    have G : HdOk ws oc ps t ((List.range (rc ws t)).map fun i => wd ws i - 1) := ⟨hf, h64, by simp, fun j hj => by
      rw [List.length_map, List.length_range] at hj
      have hw1 := hw.wd1 j
      rw [List.getD_eq_getElem?_getD, List.getElem?_map, List.getElem?_range hj, Nat.zero_add]
      show wd ws j - 1 < wd ws j
      omega⟩
    have Z : HdOk ws oc ps t (List.replicate (rc ws t) 0) := ⟨hf, h64, by simp, fun j hj => by
      rw [List.length_replicate] at hj
      have hw1 := hw.wd1 j
      rw [List.getD_eq_getElem?_getD, List.getElem?_replicate, if_pos hj, Nat.zero_add]
      show 0 < wd ws j
      omega⟩
    generalize ((List.range (rc ws t)).map fun i => wd ws i - 1) = gl at *
    refine seq_cut fun M hM => ?_
    walk_at "wp"
    refine ⟨by omega, by omega, by omega, by omega, by omega, st, ns, c2, 2, rfl, sset_same, sc2, by omega, log_small (n := 2) (by omega), fun y c3 y0 y1 sc3 => ?_⟩
    rw [rep0]
    obtain ⟨l2, e2, H2⟩ : ∃ l2, atI [D.tup (nI (List.replicate (rc ws t) 0)), D.tup (nI gl)] y = some (D.tup (nI l2)) ∧ HdOk ws oc ps t l2 := by
      obtain ⟨y, rfl⟩ : ∃ m : Nat, y = (m : Int) := ⟨y.toNat, by omega⟩
      rcases (show y = 0 ∨ y = 1 by omega) with rfl | rfl
      · exact ⟨_, atI_nat (j := 0) rfl, Z⟩
      · exact ⟨_, atI_nat (j := 1) rfl, G⟩
    walk_at "wp"
    refine ⟨_, e2, by omega, ?_⟩
    refine ⟨fun i δ' μ' => ∃ (x7 x8 x9 x10 x11 x12 : Option D), δ' = [some (.hd (.ref st)), some (qO T.c_Query t ws oc), some md, some (.tup (ws.map .int)), some (.int (rc ws t : Int)), some (.tup (nI l)), some (.tup (nI gl)), x7, x8, x9, x10, x11, x12] ∧ μ' = sset μ st (.lst c3), ⟨_, _, _, _, _, _, rfl, rfl⟩, ?_, ?_⟩
    · rintro i d δ' μ' hi ⟨x7, x8, x9, x10, x11, x12, rfl, rfl⟩
      obtain ⟨lk, rfl, K⟩ : ∃ lk, d = .tup (nI lk) ∧ HdOk ws oc ps t lk := by
        rcases i with _ | _ | i
        · cases hi; exact ⟨_, rfl, H⟩
        · cases hi; exact ⟨_, rfl, H2⟩
        · simp at hi
      obtain ⟨q1, q2, q3, q4⟩ := idx_all K
      refine seq_cut fun Q hQ => ?_
      walk_at "wp"
      refine ⟨ws, oc, t, ps, lk, by rw [hmd], K, ?_⟩
      show Q _ _
      rw [hQ]; clear hQ Q
      refine seq_cut fun Q hQ => ?_
      walk_at "wp"
      refine ⟨ws, oc, t, ps, lk, _, by rw [hmd], K, ?_⟩
      rw [q1]
      show Q _ _
      rw [hQ]; clear hQ Q
      walk_at "wps"
      refine ⟨ws, oc, ps, t, zI lk, by rw [nI_ints]; rfl, hf, fun l' e1 e3 e4 => ?_, fun z => absurd z K.fine⟩
      obtain rfl := zI_inj e1
      refine same_I ⟨true, rfl, nofun, fun _ => ⟨ws, oc, ps, t, _, _, rfl, hf, fun z => absurd (by omega) z, fun r' er hr' => ?_⟩⟩
      obtain rfl := Int.ofNat.inj er
      refine ⟨fun z => absurd (by omega) z, fun j' ej hj' => ?_⟩
      obtain rfl := Int.ofNat.inj ej
      rw [q3]
      exact same_N (by rw [K.len]; omega) ⟨true, rfl, nofun, fun _ => ⟨_, _, _, _, _, _, rfl, rfl⟩⟩
    · rintro δ' μ' ⟨x7, x8, x9, x10, x11, x12, rfl, rfl⟩
      rw [hM]; clear hM M
      refine seq_cut fun M hM => ?_
      walk_at "wp"
      refine ⟨by omega, by rw [nI_len]; omega, by omega, by rw [nI_len]; omega, by omega, fun p hp => ?_⟩
      have hpst : p ≠ st := fun z => by rw [z, sset_same] at hp; cases hp
      have hpμ : μ p = none := by rw [sset_ne hpst] at hp; exact hp
      rw [hM]; clear hM M
      refine seq_cut fun M hM => ?_
      have go : ∀ (bs : List (List Int)) (c4 : List D) (y11 : Option D), bs.length ≤ 5 → (∀ cs ∈ bs, BadH ws (rc ws t) cs) → StC ns c4 → M [some (.hd (.ref st)), some (qO T.c_Query t ws oc), some md, some (.tup (ws.map .int)), some (.int (rc ws t : Int)), some (.tup (nI l)), some (.tup (nI gl)), x7, some (.hd (.ref p)), x9, x10, y11, x12] (sset (sset μ st (.lst c4)) p (.lst (bs.map tI))) := fun bs c4 y11 hbl hbs sc4 => by
        rw [hM]
        refine seq_cut fun N hN => ?_
        walk_at "wp"
        have hpst2 : ∀ c, (sset μ st (.lst c)) p = none := fun c => by rw [sset_ne hpst]; exact hpμ
        refine ⟨fun i δ' μ' => ∃ (y7 : Option D), δ' = [some (.hd (.ref st)), some (qO T.c_Query t ws oc), some md, some (.tup (ws.map .int)), some (.int (rc ws t : Int)), some (.tup (nI l)), some (.tup (nI gl)), y7, some (.hd (.ref p)), x9, x10, y11, x12] ∧ μ' = sset (sset μ st (.lst c4)) p (.frz (bs.map tI)), ⟨_, rfl, rfl⟩, ?_, ?_⟩
        · rintro i d δ' μ' hi ⟨y7, rfl, rfl⟩
          rw [List.getElem?_map] at hi
          obtain ⟨cs, hcs, rfl⟩ := Option.map_eq_some_iff.mp hi
          walk_at "wp"
          refine ⟨1, _, _, _, _, true, rfl, ask_bad1 hf (hbs cs (List.mem_of_getElem? hcs)), ?_⟩
          rw [if_pos rfl]
          walk_at "wp"
          exact ⟨fun z => by simp at z, fun _ => ⟨_, rfl⟩⟩
        · rintro δ' μ' ⟨y7, rfl, rfl⟩
          rw [hN]; clear hN N
          walk_at "wps"
          refine ⟨1, _, _, _, _, false, rfl, ask_ok1 H, ?_⟩
          show oEq (.str (if false = true then "range" else "let")) _ _ _
          rw [if_neg (by decide)]
          walk_at "wp"
          exact ⟨sset μ st (.lst c4), Sub.set Sub.refl (hpst2 c4), h _ sc4⟩
      have tI_app : ∀ (a : List Nat) (b : List Int), tI (zI a ++ b) = .tup (nI a ++ b.map .int) := fun a b => by
        unfold tI
        rw [List.map_append, nI_ints]
        rfl
      have eq0 : [D.tup (nI l ++ [.int 0]), .tup (nI l ++ [.int 0, .int 0])] = [zI l ++ [0], zI l ++ [0, 0]].map tI := by
        rw [List.map_cons, List.map_cons, tI_app, tI_app]
        rfl
      have zl : (zI l).length = rc ws t := by rw [zI, List.length_map]; exact hl
      have bad0 : ∀ cs ∈ [zI l ++ [0], zI l ++ [0, 0]], BadH ws (rc ws t) cs := fun cs hcs => by
        refine .inl ?_
        rcases List.mem_cons.mp hcs with z | z
        · rw [z, List.length_append, zl]; simp
        · rw [List.mem_singleton.mp z, List.length_append, zl]; simp
      rw [eq0]
      generalize hb0 : [zI l ++ [0], zI l ++ [0, 0]] = b0 at *
      have hb0l : b0.length = 2 := by rw [← hb0]; rfl
      walk_at "wp"
      refine ⟨fun z => ?_, fun z => go b0 c3 x11 (by omega) bad0 sc3⟩
      refine seq_cut fun N hN => ?_
      walk_at "wp"
      refine ⟨st, ns, c3, _, rfl, by rw [sset_ne hpst.symm, sset_same], sc3, by omega, log_small (by omega), fun y c4 y0 y1 sc4 => ?_⟩
      obtain ⟨y, rfl⟩ : ∃ m : Nat, y = (m : Int) := ⟨y.toNat, by omega⟩
      rw [sset_comm hpst]
      rw [hN]; clear hN N
      refine seq_cut fun N hN => ?_
      walk_at "wp"
      refine ⟨by omega, ?_⟩
      have hyR : y < rc ws t := by omega
      have hw1 := hw.wd1 y
      have ztk : ∀ (v : Int), tI ((zI l).take y ++ [v] ++ (zI l).drop (y + 1)) = .tup ((nI l).take y ++ [.int v] ++ (nI l).drop (y + 1)) := fun v => by
        unfold tI
        rw [List.map_append, List.map_append, List.map_take, List.map_drop, nI_ints]
        rfl
      have e1 : b0.map tI ++ [D.tup (DW.cutD (nI l) (some 1) none)] = (b0 ++ [zI (l.drop 1)]).map tI := by
        rw [List.map_append]
        congr 1
        rw [show (1 : Int) = ((1 : Nat) : Int) from rfl, cut_from]
        show [D.tup ((nI l).drop 1)] = [tI (zI (l.drop 1))]
        unfold tI zI nI
        rw [List.map_drop, List.map_drop, List.map_map]
        rfl
      rw [e1]
      rw [hN]; clear hN N
      refine seq_cut fun N hN => ?_
      walk_at "wp"
      have ltk : (List.take y (nI l)).length + 1 ≤ 100000 := by rw [List.length_take, nI_len]; omega
      have lall : ∀ x : D, (List.take y (nI l) ++ [x]).length + (List.drop (y + 1) (nI l)).length ≤ 100000 := fun x => by rw [List.length_append, List.length_take, List.length_drop, nI_len, List.length_singleton]; omega
      refine ⟨ws, y, rfl, hw, by omega, ltk, lall _, _, sset_same, by rw [List.length_map, List.length_append]; simp; omega, ?_⟩
      have app : ∀ (bs : List (List Int)) (c : List Int), bs.map tI ++ [tI c] = (bs ++ [c]).map tI := fun bs c => by rw [List.map_append]; rfl
      rw [sset_sset, ← ztk, app]
      rw [hN]; clear hN N
      walk_at "wps"
      refine ⟨by omega, ltk, lall _, by rw [List.length_append, List.length_append, hb0l]; simp, ?_⟩
      rw [← ztk, app]
      refine go _ c4 _ (by rw [List.length_append, List.length_append, List.length_append, hb0l]; simp) (fun cs hcs => ?_) sc4
      rcases List.mem_append.mp hcs with z | z
      · rcases List.mem_append.mp z with z | z
        · rcases List.mem_append.mp z with z | z
          · exact bad0 cs z
          · rw [List.mem_singleton.mp z]
            refine .inl ?_
            rw [zI, List.length_map, List.length_drop]
            omega
        · rw [List.mem_singleton.mp z]
          exact bad_at hl hyR (by omega)
      · rw [List.mem_singleton.mp z]
        exact bad_at hl hyR (by omega)
end
section
variable {P : Program} {w : World} {K : Fg} {mg : Str → Option Value} {base : Heap}
theorem fit_of {ws : List Int} {oc : Nat} {ps qs : List Nat} {t : QT} (hw : WsOk ws) (o1 : 1 ≤ oc) (o4 : oc ≤ 4) (nd : ps.Nodup) (hq : qs.Perm ps) (hs : qs.Pairwise (· < ·)) (h5 : ps.length ≤ 5) (h64 : wpl ws ps ≤ 64) (ht : QOk ws oc t) (hd : qDep t ≤ 8) (hp : ∀ q ∈ qPl t, q ∈ qs) (hl : (qPl t).length ≤ 300) : QFit ws oc qs t ∧ (LW.hs ws qs).length ≤ 64 := by
  have e1 : (LW.hs ws qs).length = wpl ws qs := by rw [← heads_len, heads_hs]
  have e2 : (LW.hs ws ps).length = wpl ws ps := by rw [← heads_len, heads_hs]
  have e3 := hs_perm (ws := ws) hq
  have e4 := hq.length_eq
  refine ⟨⟨hw, o1, o4, ht, hs, by omega, ?_, hp, hl, by omega⟩, by omega⟩
  rw [← wpl_wpr]
  omega
theorem sorted_lt {l : List Nat} (h : l.Pairwise (· ≤ ·)) (hn : l.Nodup) : l.Pairwise (· < ·) := by
  induction l with
  | nil => exact .nil
  | cons a l ih =>
    obtain ⟨h1, h2⟩ := List.pairwise_cons.mp h
    obtain ⟨n1, n2⟩ := List.nodup_cons.mp hn
    refine List.pairwise_cons.mpr ⟨fun b hb => ?_, ih h2 n2⟩
    have := h1 b hb
    have : a ≠ b := fun e => n1 (by rw [e]; exact hb)
    omega
def c_law : Con := fun ds μ Φ _ => ∃ ns : List Int, ds = [.scr ns] ∧ ns.length ≤ 63 ∧ Φ (.bl true) μ
theorem len_law {ds μ Φ Ψ} (h : c_law ds μ Φ Ψ) : ds.length = 1 := by obtain ⟨_, rfl, _⟩ := h; rfl
theorem ok_law (T : Txt P w K mg) : FnOk P w K mg base (L2N.CX P w) 70 T.f_law T.d_law ["_law_script"] (spOf K c_law) := by
  refine def_okC T.F_law sc_law _ (fun ds μ Φ Ψ h => len_law h) (fun cdv A outer s H E B hW hr =>
    have tk : L2N.Takes (cxOf (L2N.CX P w) P w K mg base N_law "law" (defScope s_law) T.f_law cdv A outer s H E) (fun cls d _ H => E cls d H) := L2N.takes_of rfl rfl rfl rfl
    ⟨_, (pss_cons (ps_set (i := 1) sc_law.nd rfl (Or.inl rfl) (pe_call (ok__law_start T) (hr.mono (by decide)) rfl T.g__law_start T.F__law_start.kp T.b__law_start .nil passN (pa_cons (pv 0) pa_nil)))
      (pss_cons (ps_set (i := 2) sc_law.nd rfl (Or.inr rfl) (pe_call (ok__law_widths T) (hr.mono (by decide)) rfl T.g__law_widths T.F__law_widths.kp T.b__law_widths .nil passN (pa_cons (pv 1) pa_nil)))
      (pss_cons (ps_if (PW.pt (pw_and (pt_cmpR op_eq (pe_callB (cr_maxT rfl hr) (by rfl) T.z_max (by decide +kernel) (pa_cons (pv 2) pa_nil)) pe_int (nomark _)) (pw_and1 (pt_cmpR op_gt (pe_call (ok__law_pick T) (hr.mono (by decide)) rfl T.g__law_pick T.F__law_pick.kp T.b__law_pick .nil passN (pa_cons (pv 1) (pa_cons pe_int pa_nil))) pe_int (nomark _))))) (pss_one (ps_set (i := 2) sc_law.nd rfl (Or.inr rfl) (pe_op op_catN (pe_slice sl_tupN (pv 2) po_none (po_some pe_int)) (pe_tupN (pa_cons (pe_op op_add pe_int (pe_call (ok__law_pick T) (hr.mono (by decide)) rfl T.g__law_pick T.F__law_pick.kp T.b__law_pick .nil passN (pa_cons (pv 1) (pa_cons pe_int pa_nil)))) pa_nil))))) pss_nil)
      (pss_cons (ps_set (i := 3) sc_law.nd rfl (Or.inr rfl) (pe_ix ix_list (pe_lst (pa_cons pe_int (pa_cons pe_int (pa_cons pe_int (pa_cons (pe_op op_add pe_int (pe_call (ok__law_pick T) (hr.mono (by decide)) rfl T.g__law_pick T.F__law_pick.kp T.b__law_pick .nil passN (pa_cons (pv 1) (pa_cons pe_int pa_nil)))) pa_nil))))) (pe_call (ok__law_pick T) (hr.mono (by decide)) rfl T.g__law_pick T.F__law_pick.kp T.b__law_pick .nil passN (pa_cons (pv 1) (pa_cons pe_int pa_nil))) (fun _ _ => rfl)))
      (pss_cons (ps_set (i := 4) sc_law.nd rfl (Or.inl rfl) (pe_lst (pa_cons (pv 2) (pa_cons (pv 3) pa_nil))))
      (pss_cons (ps_set (i := 5) sc_law.nd rfl (Or.inr rfl) (pe_callB cr_sorted (by rfl) T.z_sorted (by decide +kernel) (pa_cons (pe_call (ok__law_look_places T) (hr.mono (by decide)) rfl T.g__law_look_places T.F__law_look_places.kp T.b__law_look_places .nil passN (pa_cons (pv 1) (pa_cons (pv 2) (pa_cons (pe_op op_add pe_int (pe_call (ok__law_pick T) (hr.mono (by decide)) rfl T.g__law_pick T.F__law_pick.kp T.b__law_pick .nil passN (pa_cons (pv 1) (pa_cons pe_int pa_nil)))) (pa_cons (pe_ix ix_list (pe_lst (pa_cons pe_int (pa_cons pe_int (pa_cons pe_int pa_nil)))) (pe_call (ok__law_pick T) (hr.mono (by decide)) rfl T.g__law_pick T.F__law_pick.kp T.b__law_pick .nil passN (pa_cons (pv 1) (pa_cons pe_int pa_nil))) (fun _ _ => rfl)) pa_nil))))) pa_nil)))
      (pss_cons (ps_set (i := 6) sc_law.nd rfl (Or.inl rfl) (pe_lst (pa_cons (pe_call (ok__law_drawn_term T) (hr.mono (by decide)) rfl T.g__law_drawn_term T.F__law_drawn_term.kp T.b__law_drawn_term .nil passN (pa_cons (pv 1) (pa_cons (pv 4) (pa_cons (pv 5) pa_nil)))) (pa_cons (pe_call (ok__law_drawn_term T) (hr.mono (by decide)) rfl T.g__law_drawn_term T.F__law_drawn_term.kp T.b__law_drawn_term .nil passN (pa_cons (pv 1) (pa_cons (pv 4) (pa_cons (pv 5) pa_nil)))) pa_nil))))
      (pss_cons (ps_setLc (i := 7) (own := [("_law_term", 13)]) rfl sc_law.nd rfl rfl (sw_true rfl rfl rfl (by decide +kernel)) (pi_list (pv 6)) (blkOk_by (N := N_law) (sc := defScope s_law) (by decide +kernel)) (fun _ _ _ _ _ => (pg_name (i := 13) sc_law.nd rfl (Or.inl rfl))) (fun _ _ _ _ _ => pts_nil) (fun _ _ _ _ _ => (pe_makeS (E := WE WN) T.mk_Query (ok_Query___init__ T) (hr.mono (by decide)) rfl T.g_Query T.b_Query___init__ (fun σ => passAtN σ) (pa_cons (pv 13) (pa_cons (pv 2) (pa_cons (pv 3) pa_nil))))))
      (pss_cons (ps_setLc (i := 8) (own := [("_law_term", 13)]) rfl sc_law.nd rfl rfl (sw_true rfl rfl rfl (by decide +kernel)) (pi_list (pv 6)) (blkOk_by (N := N_law) (sc := defScope s_law) (by decide +kernel)) (fun _ _ _ _ _ => (pg_name (i := 13) sc_law.nd rfl (Or.inl rfl))) (fun _ _ _ _ _ => pts_nil) (fun _ _ _ _ _ => (pe_call (ok__law_model T) (hr.mono (by decide)) rfl T.g__law_model T.F__law_model.kp T.b__law_model .nil passN (pa_cons (pv 13) (pa_cons (pv 2) (pa_cons (pv 5) pa_nil))))))
      (pss_cons (ps_for (passes_of rfl) rfl (pi_list (pe_lst (pa_cons pe_int (pa_cons pe_int (pa_cons pe_int pa_nil))))) (pg_name (i := 9) sc_law.nd rfl (Or.inl rfl)) (pss_cons (ps_set (i := 11) sc_law.nd rfl (Or.inr rfl) (pe_ix ix_list (pv 8) (pv 9) (fun _ _ => rfl)))
      (pss_cons (ps_set (i := 12) sc_law.nd rfl (Or.inl rfl) (pe_callTy call_tupleN (by rfl) T.z_tuple (by decide +kernel) (pa_cons (pe_lc (own := [("_law_r", 14)]) rfl sc_law.nd (pi_range1 rfl T.z_range (pa_cons (pv 3) pa_nil)) (blkOk_by (N := N_law) (sc := defScope s_law) (by decide +kernel)) (fun _ _ _ _ _ => (pg_name (i := 14) sc_law.nd rfl (Or.inl rfl))) (fun _ _ _ _ _ => pts_nil) (fun _ _ _ _ _ => (pe_op op_mulX (pe_bm PySem.F.plainAttrs_list PySem.F.slot_list_count PySem.F.type_list_count mt_lcount (pe_ix ix_list (pv 11) pe_int (fun _ _ => rfl)) (pa_cons (pv 14) pa_nil)) (pe_ix ix_list (pe_ix ix_list (pv 11) pe_int (fun _ _ => rfl)) pe_int (fun _ _ => rfl))))) pa_nil)))
      (pss_one (ps_if (PW.pt (pw_or (pt_not (pt_val (pe_call (ok__law_same T) (hr.mono (by decide)) rfl T.g__law_same T.F__law_same.kp T.b__law_same .nil passN (pa_cons (pe_call (ok_count_heads T) (hr.mono (by decide)) rfl T.g_count_heads T.F_count_heads.kp T.b_count_heads .nil passN (pa_cons (pe_ix ix_list (pv 7) (pv 9) (fun _ _ => rfl)) pa_nil)) (pa_cons (pv 12) pa_nil))))) (pw_or1 (pt_not (pt_val (pe_call (ok__law_same T) (hr.mono (by decide)) rfl T.g__law_same T.F__law_same.kp T.b__law_same .nil passN (pa_cons (pe_call (ok_query_reach T) (hr.mono (by decide)) rfl T.g_query_reach T.F_query_reach.kp T.b_query_reach .nil passN (pa_cons (pe_ix ix_list (pv 7) (pv 9) (fun _ _ => rfl)) pa_nil)) (pa_cons (pe_ix ix_list (pv 11) pe_int (fun _ _ => rfl)) pa_nil)))))))) (pss_one (ps_ret pe_bl)) pss_nil)))))
      (pss_cons (ps_set (i := 10) sc_law.nd rfl (Or.inl rfl) (pe_cmpR op_eq (pe_call (ok__law_pick T) (hr.mono (by decide)) rfl T.g__law_pick T.F__law_pick.kp T.b__law_pick .nil passN (pa_cons (pv 1) (pa_cons pe_int pa_nil))) pe_int (nomark _)))
      (pss_cons (ps_for (passes_of rfl) rfl (pi_range1 rfl T.z_range (pa_cons pe_int pa_nil)) (pg_name (i := 9) sc_law.nd rfl (Or.inl rfl)) (pss_cons (ps_if (PW.pt (pw_and (PW.pt (pw_or (pt_cmpR op_eq (pv 9) pe_int (nomark _)) (pw_or1 (pt_val (pv 10))))) (pw_and1 (pt_not (pt_val (pe_call (ok__law_numbers T) (hr.mono (by decide)) rfl T.g__law_numbers T.F__law_numbers.kp T.b__law_numbers .nil passN (pa_cons (pv 1) (pa_cons (pe_ix ix_list (pv 7) (pv 9) (fun _ _ => rfl)) (pa_cons (pe_ix ix_list (pv 8) (pv 9) (fun _ _ => rfl)) (pa_cons (pv 3) pa_nil)))))))))) (pss_one (ps_ret pe_bl)) pss_nil)
      (pss_one (ps_if (PW.pt (pw_and (PW.pt (pw_or (pt_cmpR op_eq (pv 9) pe_int (nomark _)) (pw_or1 (pt_val (pv 10))))) (pw_and1 (pt_not (pt_val (pe_call (ok__law_indexes T) (hr.mono (by decide)) rfl T.g__law_indexes T.F__law_indexes.kp T.b__law_indexes .nil passN (pa_cons (pv 1) (pa_cons (pe_ix ix_list (pv 7) (pv 9) (fun _ _ => rfl)) (pa_cons (pe_ix ix_list (pv 8) (pv 9) (fun _ _ => rfl)) pa_nil))))))))) (pss_one (ps_ret pe_bl)) pss_nil))))
      (pss_one (ps_ret (pe_call (ok__law_same T) (hr.mono (by decide)) rfl T.g__law_same T.F__law_same.kp T.b__law_same .nil passN (pa_cons (pe_tupN (pa_cons (pe_fld (pe_ix ix_list (pv 7) pe_int (fun _ _ => rfl)) rfl) (pa_cons (pe_fld (pe_ix ix_list (pv 7) pe_int (fun _ _ => rfl)) rfl) pa_nil))) (pa_cons (pe_tupN (pa_cons (pe_ix ix_list (pv 6) pe_int (fun _ _ => rfl)) (pa_cons (pe_ix ix_list (pv 6) pe_int (fun _ _ => rfl)) pa_nil))) pa_nil))))))))))))))))),
      (sSeq (sAsg (sCall (sCons sVar sNil)) sName)
      (sSeq (sAsg (sCall (sCons sVar sNil)) sName)
      (sSeq (sIfS (sAnd (sTest (sOp roEq (sCB rcMaxT (sCons sVar sNil)) sInt)) (sTest (sOp roBl0 (sCall (sCons sVar (sCons sInt sNil))) sInt))) (sAsg (sOp roCatT (sSlT sVar sNoPart (sPart sInt)) (sTup (sCons (sOp roInt0 sInt (sCall (sCons sVar (sCons sInt sNil)))) sNil))) sName) sNext)
      (sSeq (sAsg (sOp roIxL (sLst (sCons sInt (sCons sInt (sCons sInt (sCons (sOp roInt0 sInt (sCall (sCons sVar (sCons sInt sNil)))) sNil))))) (sCall (sCons sVar (sCons sInt sNil)))) sName)
      (sSeq (sAsg (sLst (sCons sVar (sCons sVar sNil))) sName)
      (sSeq (sAsg (sCB rcSortL (sCons (sCall (sCons sVar (sCons sVar (sCons (sOp roInt0 sInt (sCall (sCons sVar (sCons sInt sNil)))) (sCons (sOp roIxL (sLst (sCons sInt (sCons sInt (sCons sInt sNil)))) (sCall (sCons sVar (sCons sInt sNil)))) sNil))))) sNil)) sName)
      (sSeq (sAsg (sLst (sCons (sCall (sCons sVar (sCons sVar (sCons sVar sNil)))) (sCons (sCall (sCons sVar (sCons sVar (sCons sVar sNil)))) sNil))) sName)
      (sSeq (sAsg (sLc (siL sVar) (gwName List.mem_cons_self) (fun _ _ _ => sName) (fun _ _ _ => sYes) (fun _ _ _ => (sMakeSN (sCons sVar (sCons sVar (sCons sVar sNil)))))) sName)
      (sSeq (sAsg (sLc (siL sVar) (gwName List.mem_cons_self) (fun _ _ _ => sName) (fun _ _ _ => sYes) (fun _ _ _ => (sCall (sCons sVar (sCons sVar (sCons sVar sNil)))))) sName)
      (sSeq (sFor (siL (sLst (sCons sInt (sCons sInt (sCons sInt sNil))))) (fun _ _ _ => sName) (fun _ _ _ => (sSeq (sAsg (sOp roIxL sVar sVar) sName)
      (sSeq (sAsg (sCB rcTuple (sCons (sLc (siR1 sVar) (gwName List.mem_cons_self) (fun _ _ _ => sName) (fun _ _ _ => sYes) (fun _ _ _ => (sOp roInt (sCntL (sOp roIxL sVar sInt) sVar) (sOp roIxL (sOp roIxL sVar sInt) sInt)))) sNil)) sName)
      (sIfS (sOr (sNot (sB (sCall (sCons (sCall (sCons (sOp roIxL sVar sVar) sNil)) (sCons sVar sNil))))) (sNot (sB (sCall (sCons (sCall (sCons (sOp roIxL sVar sVar) sNil)) (sCons (sOp roIxL sVar sInt) sNil)))))) (sRet sBl) sNext)))))
      (sSeq (sAsg (sOp roEq (sCall (sCons sVar (sCons sInt sNil))) sInt) sName)
      (sSeq (sFor (siR1 sInt) (fun _ _ _ => sName) (fun _ _ _ => (sSeq (sIfS (sAnd (sOr (sTest (sOp roEq sVar sInt)) (sB sVar)) (sNot (sB (sCall (sCons sVar (sCons (sOp roIxL sVar sVar) (sCons (sOp roIxL sVar sVar) (sCons sVar sNil)))))))) (sRet sBl) sNext)
      (sIfS (sAnd (sOr (sTest (sOp roEq sVar sInt)) (sB sVar)) (sNot (sB (sCall (sCons sVar (sCons (sOp roIxL sVar sVar) (sCons (sOp roIxL sVar sVar) sNil))))))) (sRet sBl) sNext))))
      (sRet (sCall (sCons (sTup (sCons (sFldO (NS := NS_Query) (i := 0) T.cls_Query T.na_Query_term rfl (by decide) (sOp roIxL sVar sInt)) (sCons (sFldO (NS := NS_Query) (i := 0) T.cls_Query T.na_Query_term rfl (by decide) (sOp roIxL sVar sInt)) sNil))) (sCons (sTup (sCons (sOp roIxL sVar sInt) (sCons (sOp roIxL sVar sInt) sNil))) sNil))))))))))))))))⟩) (fun ds μ Φ Ψ h => ?hv)
  case hv =>
    obtain ⟨ns, rfl, hlen, h⟩ := h
    refine seq_cut fun M hM => ?_
    walk_at "wp"
    refine ⟨ns, rfl, hlen, fun p c hp sc => ?_⟩
    have fin : ∀ c' : List D, ∃ μ2, DW.Sub μ2 (sset μ p (.lst c')) ∧ Φ (.bl true) μ2 := fun c' => ⟨μ, Sub.set Sub.refl hp, h⟩
    rw [hM]; clear hM M
    refine seq_cut fun M hM => ?_
    walk_at "wp"
    refine ⟨p, ns, c, rfl, sset_same, sc, fun ws c1 hw sc => ?_⟩
    rw [sset_sset, hM]; clear hM M
    refine seq_cut fun M hM => ?_
    have A1 : ∀ (ws : List Int) (c' : List D), WsOk ws → StC ns c' → M [some (.scr ns), some (.hd (.ref p)), some (.tup (ws.map .int)), none, none, none, none, none, none, none, none, none, none, none, none] (sset μ p (.lst c')) := fun ws c1 hw sc => by
      rw [hM]; clear hM M
      refine seq_cut fun M hM => ?_
      walk_at "wp"
      refine ⟨p, ns, c1, 4, rfl, sset_same, sc, by omega, log_small (n := 4) (by omega), fun y c2 y0 y1 sc => ?_⟩
      rw [sset_sset]
      walk_at "wp"
      refine ⟨by omega, p, ns, c2, 4, rfl, sset_same, sc, by omega, log_small (n := 4) (by omega), fun z c3 z0 z1 sc => ?_⟩
      rw [sset_sset]
      obtain ⟨oc, eo, o1, o4⟩ : ∃ oc : Nat, atI [D.int 2, D.int 2, D.int 3, D.int (1 + y)] z = some (D.int (oc : Int)) ∧ 1 ≤ oc ∧ oc ≤ 4 := by
        obtain ⟨z, rfl⟩ : ∃ m : Nat, z = (m : Int) := ⟨z.toNat, by omega⟩
        rcases (show z = 0 ∨ z = 1 ∨ z = 2 ∨ z = 3 by omega) with rfl | rfl | rfl | rfl
        · exact ⟨2, atI_nat (j := 0) rfl, by omega, by omega⟩
        · exact ⟨2, atI_nat (j := 1) rfl, by omega, by omega⟩
        · exact ⟨3, atI_nat (j := 2) rfl, by omega, by omega⟩
        · refine ⟨(1 + y).toNat, ?_, by omega, by omega⟩
          rw [show (((1 + y).toNat : Nat) : Int) = 1 + y by omega]
          exact atI_nat (j := 3) rfl
      walk_at "wp"
      refine ⟨_, eo, ?_⟩
      clear eo y0 y1 z0 z1 y z
      rw [hM]; clear hM M
      refine seq_cut fun M hM => ?_
      walk_at "wp"
      refine ⟨by omega, ?_⟩
      rw [hM]; clear hM M
      refine seq_cut fun M hM => ?_
      walk_at "wp"
      refine ⟨p, ns, c3, 4, rfl, sset_same, sc, by omega, log_small (n := 4) (by omega), fun y c4 y0 y1 sc => ?_⟩
      rw [sset_sset]
      walk_at "wp"
      refine ⟨by omega, p, ns, c4, 3, rfl, sset_same, sc, by omega, log_small (n := 3) (by omega), fun z c5 z0 z1 sc => ?_⟩
      rw [sset_sset]
      obtain ⟨m, em, m4, m64⟩ : ∃ m : Nat, atI [D.int 8, D.int 16, D.int 64] z = some (D.int (m : Int)) ∧ 4 ≤ m ∧ m ≤ 64 := by
        obtain ⟨z, rfl⟩ : ∃ m : Nat, z = (m : Int) := ⟨z.toNat, by omega⟩
        rcases (show z = 0 ∨ z = 1 ∨ z = 2 by omega) with rfl | rfl | rfl
        · exact ⟨8, atI_nat (j := 0) rfl, by omega, by omega⟩
        · exact ⟨16, atI_nat (j := 1) rfl, by omega, by omega⟩
        · exact ⟨64, atI_nat (j := 2) rfl, by omega, by omega⟩
      walk_at "wp"
      refine ⟨_, em, ?_⟩
      obtain ⟨n, en, n2, n5⟩ : ∃ n : Nat, 2 + y = (n : Int) ∧ 2 ≤ n ∧ n ≤ 5 := ⟨(2 + y).toNat, by omega, by omega, by omega⟩
      rw [en]
      refine ⟨p, ns, c5, ws, n, m, rfl, sset_same, sc, hw, by omega, m4, by omega, fun ps c6 nd lt hl hpr hne sc => ?_⟩
      rw [sset_sset, nI_ints]
      refine w_sortL ⟨by rw [List.length_map]; omega, fun ks hk hks => ?_⟩
      have hpr2 := hpr ps.length (Nat.le_refl _)
      rw [List.take_length] at hpr2
      obtain ⟨qs, rfl⟩ : ∃ qs : List Nat, ks = zI qs := ⟨ks.map Int.toNat, by
        unfold zI
        rw [List.map_map]
        refine (List.map_id _).symm.trans (List.map_congr_left fun k hk2 => ?_)
        obtain ⟨q, _, rfl⟩ := List.mem_map.mp (hk.mem_iff.mp hk2)
        rfl⟩
      have hq : qs.Perm ps := by
        have := hk.map Int.toNat
        unfold zI at this
        rw [List.map_map, List.map_map] at this
        have e : ∀ l : List Nat, l.map (Int.toNat ∘ fun (n : Nat) => (n : Int)) = l := fun l => (List.map_congr_left fun n _ => Int.toNat_natCast n).trans (List.map_id l)
        rwa [e, e] at this
      have hqs : qs.Pairwise (· < ·) := sorted_lt ((List.pairwise_map.mp hks).imp fun z => by omega) (hq.nodup_iff.mpr nd)
      rw [show (zI qs).map D.int = nI qs from (nI_ints qs).symm]
      clear em m4 z0 z1 y0 y1 en hks hk
      have qne : qs ≠ [] := fun z => hne (by omega) (by rw [z] at hq; exact hq.nil_eq.symm ▸ rfl)
      have qlt : ∀ q ∈ qs, q < 100 := fun q hq2 => lt q (hq.mem_iff.mp hq2)
      have ql : qs.length ≤ 5 := by rw [hq.length_eq]; omega
      have q64 : (hs ws qs).length ≤ 64 := by rw [hs_perm hq, ← heads_hs, heads_len]; omega
      have F : ∀ t, QOk ws oc t → qDep t ≤ 8 → (∀ q ∈ qPl t, q ∈ qs) → (qPl t).length ≤ 300 → QFit ws oc qs t := fun t a b c d => (fit_of hw o1 o4 nd hq hqs (by omega) (by omega) a b c d).1
      rw [hM]; clear hM M
      refine seq_cut fun M hM => ?_
      walk_at "wp"
      refine ⟨p, ns, c6, ws, oc, qs, rfl, sset_same, sc, hw, o1, o4, qne, ql, qlt, q64, fun t1 c7 a1 a2 a3 a4 sc => ?_⟩
      rw [sset_sset]
      refine ⟨p, ns, c7, ws, oc, qs, rfl, sset_same, sc, hw, o1, o4, qne, ql, qlt, q64, fun t2 c8 b1 b2 b3 b4 sc => ?_⟩
      rw [sset_sset]
      have f1 := F t1 a1 a2 a3 a4
      have f2 := F t2 b1 b2 b3 b4
      refine ⟨by omega, ?_⟩
      rw [hM]; clear hM M
      refine seq_cut fun M hM => ?_
      walk_at "wp"
      have ff : ∀ t ∈ [t1, t2], QFit ws oc qs t := fun t ht => by
        rcases List.mem_cons.mp ht with z | z
        · rw [z]; exact f1
        · rw [List.mem_singleton.mp z]; exact f2
      refine lcM (l := [t1, t2]) (G := qD) (fun t => qO T.c_Query t ws oc) (by simp) (fun t μ2 X ht hsub hx => ?_) ?_
      · walk_at "wp"
        intro x hx2
        refine ⟨x, ws, oc, qs, t, rfl, sset_same, ff t ht, ?_⟩
        exact ⟨rfl, NS_Query, _, sset_same, by rw [sset_sset, sdel_sset hx2]; exact hx⟩
      rw [hM]; clear hM M
      refine seq_cut fun M hM => ?_
      walk_at "wp"
      refine lcM (l := [t1, t2]) (G := qD) (fun t => mdD ws t (nsOf ws t qs) (rc ws t)) (by simp) (fun t μ2 X ht hsub hx => ?_) ?_
      · walk_at "wp"
        exact ⟨ws, oc, t, qs, rfl, ff t ht, q64, hx⟩
      rw [hM]; clear hM M
      have pick : ∀ k : Nat, k < 2 → ∃ t, QFit ws oc qs t ∧ atI [qO T.c_Query t1 ws oc, qO T.c_Query t2 ws oc] (k : Int) = some (qO T.c_Query t ws oc) ∧ atI [mdD ws t1 (nsOf ws t1 qs) (rc ws t1), mdD ws t2 (nsOf ws t2 qs) (rc ws t2)] (k : Int) = some (mdD ws t (nsOf ws t qs) (rc ws t)) := fun k hk => by
        rcases (show k = 0 ∨ k = 1 by omega) with rfl | rfl
        · exact ⟨t1, f1, atI_nat (j := 0) rfl, atI_nat (j := 0) rfl⟩
        · exact ⟨t2, f2, atI_nat (j := 1) rfl, atI_nat (j := 1) rfl⟩
      have eQ : [t1, t2].map (fun t => qO T.c_Query t ws oc) = [qO T.c_Query t1 ws oc, qO T.c_Query t2 ws oc] := rfl
      have eD : [t1, t2].map (fun t => mdD ws t (nsOf ws t qs) (rc ws t)) = [mdD ws t1 (nsOf ws t1 qs) (rc ws t1), mdD ws t2 (nsOf ws t2 qs) (rc ws t2)] := rfl
      rw [eD]
      generalize hqs' : [qO T.c_Query t1 ws oc, qO T.c_Query t2 ws oc] = Qs at *
      generalize hds' : [mdD ws t1 (nsOf ws t1 qs) (rc ws t1), mdD ws t2 (nsOf ws t2 qs) (rc ws t2)] = Ds at *
      refine seq_cut fun M hM => ?_
      walk_at "wp"
      refine ⟨by omega, fun i δ' μ' => ∃ (y9 y10 y11 y12 y13 y14 : Option D), δ' = [some (.scr ns), some (.hd (.ref p)), some (.tup (ws.map .int)), some (.int (oc : Int)), some (.lst [.tup (ws.map .int), .int (oc : Int)]), some (.lst (nI qs)), some (.lst [qD t1, qD t2]), some (.lst Qs), some (.lst Ds), y9, y10, y11, y12, y13, y14] ∧ μ' = sset μ p (.lst c8), ⟨_, _, _, _, _, _, rfl, rfl⟩, ?_, ?_⟩
      · rintro i d δ' μ' hi ⟨y9, y10, y11, y12, y13, y14, rfl, rfl⟩
        obtain ⟨k, hk, rfl⟩ : ∃ k : Nat, k < 2 ∧ d = .int (k : Int) := by
          rcases i with _ | _ | _ | i
          · cases hi; exact ⟨0, by omega, rfl⟩
          · cases hi; exact ⟨1, by omega, rfl⟩
          · cases hi; exact ⟨0, by omega, rfl⟩
          · simp at hi
        obtain ⟨t, ft, eq1, eq2⟩ := pick k hk
        have S := stl_of ft
        refine seq_cut fun N hN => ?_
        walk_at "wp"
        refine ⟨_, eq2, ?_⟩
        rw [hN]; clear hN N
        refine seq_cut fun N hN => ?_
        walk_at "wp"
        refine ⟨by omega, by omega, ?_⟩
        refine lcR (fun r => .int ((tc ws (rc ws t) r (stl ws t) 0 : Nat) : Int)) (by omega) (fun r μ2 X hr hsub hx => ?_) ?_
        · walk_at "wp"
          simp only [md3, md4]
          refine ⟨_, by rw [nI_ints], ?_⟩
          walk_at "wp"
          refine ⟨_, nI_at (i := 0) (by simp), ?_⟩
          rw [List.getElem_map, List.getElem_range, Nat.sub_zero, cnt_cast]
          have bb := bh_big ft.w (nsOf ws t qs) (k := rc ws t) S.r100 0
          have b1 : (2 : Nat) ^ 200 < 2 ^ 201 := by decide
          have cl := List.count_le_length (a := r) (l := (hs ws (nsOf ws t qs)).map (tl t (nsOf ws t qs)))
          have hm64 := (ns_of ft q64).most
          rw [List.length_map] at cl
          rw [← many_eq ft q64 r, Int.natCast_mul] at hx
          walk_at "wp"
          exact ⟨mulx 10 201 (by omega) (by omega) (by decide), hx⟩
        rw [← nI_map]
        refine ⟨_, .lst _, ?_⟩
        rw [hN]; clear hN N
        walk_at "wps"
        refine ⟨_, eq1, ws, oc, qs, t, rfl, ft, ?_⟩
        refine same_N (by rw [List.length_map, List.length_range]; omega) ⟨true, rfl, nofun, fun _ => ⟨_, eq1, ws, oc, qs, t, rfl, ft, ?_⟩⟩
        simp only [md5]
        exact same_I ⟨true, rfl, nofun, fun _ => ⟨_, _, _, _, _, _, rfl, rfl⟩⟩
      · rintro δ' μ' ⟨y9, y10, y11, y12, y13, y14, rfl, rfl⟩
        rw [hM]; clear hM M
        refine seq_cut fun M hM => ?_
        walk_at "wp"
        refine ⟨p, ns, c8, 4, rfl, sset_same, sc, by omega, log_small (n := 4) (by omega), fun y c9 y0 y1 sc => ?_⟩
        rw [sset_sset]
        walk_at "wp"
        rw [hM]; clear hM M
        refine seq_cut fun M hM => ?_
        generalize decide (y = 0) = both
        walk_at "wp"
        refine ⟨by omega, by omega, fun i δ' μ' => ∃ (c : List D) (y9 : Option D), δ' = [some (.scr ns), some (.hd (.ref p)), some (.tup (ws.map .int)), some (.int (oc : Int)), some (.lst [.tup (ws.map .int), .int (oc : Int)]), some (.lst (nI qs)), some (.lst [qD t1, qD t2]), some (.lst Qs), some (.lst Ds), y9, some (.bl both), y11, y12, y13, y14] ∧ μ' = sset μ p (.lst c) ∧ StC ns c, ⟨_, _, rfl, rfl, sc⟩, ?_, ?_⟩
        · rintro i d δ' μ' hi ⟨c10, y9, rfl, rfl, sc⟩
          obtain ⟨hj, rfl⟩ := rngD_get hi
          have hj : i < 2 := hj
          obtain ⟨t, ft, eq1, eq2⟩ := pick i hj
          refine seq_cut fun N hN => ?_
          have go : ∀ c, StC ns c → N [some (.scr ns), some (.hd (.ref p)), some (.tup (ws.map .int)), some (.int (oc : Int)), some (.lst [.tup (ws.map .int), .int (oc : Int)]), some (.lst (nI qs)), some (.lst [qD t1, qD t2]), some (.lst Qs), some (.lst Ds), some (.int (i : Int)), some (.bl both), y11, y12, y13, y14] (sset μ p (.lst c)) := fun c sc => by
            rw [hN]
            walk_at "wp"
            refine ⟨fun _ => ⟨_, eq1, _, eq2, p, ns, c, ws, oc, t, qs, rfl, sset_same, sc, ft, q64, fun c' sc' => ⟨true, rfl, nofun, fun _ => ⟨c', _, rfl, sset_sset, sc'⟩⟩⟩, fun _ => ⟨fun _ => ⟨_, eq1, _, eq2, p, ns, c, ws, oc, t, qs, rfl, sset_same, sc, ft, q64, fun c' sc' => ⟨true, rfl, nofun, fun _ => ⟨c', _, rfl, sset_sset, sc'⟩⟩⟩, fun _ => ⟨c, _, rfl, rfl, sc⟩⟩⟩
          walk_at "wp"
          refine ⟨fun _ => ⟨_, eq1, _, eq2, p, ns, c10, ws, oc, t, qs, rfl, sset_same, sc, ft, q64, fun c' sc' => ⟨true, rfl, nofun, fun _ => (by rw [sset_sset]; exact go c' sc')⟩⟩, fun _ => ⟨fun _ => ⟨_, eq1, _, eq2, p, ns, c10, ws, oc, t, qs, rfl, sset_same, sc, ft, q64, fun c' sc' => ⟨true, rfl, nofun, fun _ => (by rw [sset_sset]; exact go c' sc')⟩⟩, fun _ => go c10 sc⟩⟩
        · rintro δ' μ' ⟨c10, y9, rfl, rfl, sc⟩
          rw [hM]; clear hM M
          subst hqs' hds'
          walk_at "wps"
          refine ⟨_, _, rfl, rfl, _, _, rfl, rfl, by omega, by omega, ?_⟩
          have p1 := (pln_q hw t1 f1.ok).up (show qDep t1 + 2 ≤ 10 by omega)
          have p2 := (pln_q hw t2 f2.ok).up (show qDep t2 + 2 ≤ 10 by omega)
          refine same_self ((Pln.tup (n := 10) (by simp) fun d hd => ?_).up (by omega)) (fin c10)
          rcases List.mem_cons.mp hd with z | z
          · rw [z]; exact p1
          · rw [List.mem_singleton.mp z]; exact p2
    walk_at "wp"
    refine w_maxT ⟨fun z => ?_, fun m hm hmax => ?_⟩
    · have := hw.l0
      rw [z] at this
      simp at this
    walk_at "wp"
    refine ⟨fun _ => ⟨p, ns, c1, 4, rfl, sset_same, sc, by omega, log_small (n := 4) (by omega), fun y c2 y0 y1 sc => ?_⟩, fun _ => A1 ws c1 hw sc⟩
    rw [sset_sset]
    walk_at "wp"
    refine ⟨fun _ => ⟨p, ns, c2, 3, rfl, sset_same, sc, by omega, log_small (n := 3) (by omega), fun z c3 z0 z1 sc => ?_⟩, fun _ => A1 ws c2 hw sc⟩
    rw [sset_sset]
    have e5 : DW.cutD (ws.map D.int) none (some 5) ++ [D.int (2 + z)] = (ws.take 5 ++ [2 + z]).map D.int := by
      rw [show (5 : Int) = ((5 : Nat) : Int) from rfl, cut_to, List.map_append, List.map_take]
      rfl
    walk_at "wp"
    refine ⟨by omega, by rw [show (5 : Int) = ((5 : Nat) : Int) from rfl, cut_to, List.length_take, List.length_map]; omega, ?_⟩
    rw [e5]
    refine A1 _ c3 ⟨by simp, by rw [List.length_append, List.length_take]; simp; omega, fun x hx => ?_⟩ sc
    rcases List.mem_append.mp hx with w | w
    · exact hw.w x (List.mem_of_mem_take w)
    · rw [List.mem_singleton.mp w]; omega
end
end LW
set_option Elab.async false
set_option linter.all false
set_option maxRecDepth 100000
set_option maxHeartbeats 4000000
namespace LW
open PySem PySem.Spec L2 DW PyProof.Rows NdefX HX
theorem kit_refS {K : PySem.W.Frag} {R C : Addr} {b : Bool} (h0 : PySem.W.subIn K (.ref R) (.ref R) = some true) (h1 : PySem.W.isClsIn K C = true) (h2 : PySem.W.typeIn K (.ref C) = some (.type "type")) (h3 : PySem.W.subIn K (.ref R) (.ref C) = some b) : PySem.W.kitOne K (.ref R) (.ref C) = some b := by
  unfold PySem.W.kitOne
  by_cases e : R = C
  · subst e
    rw [h0] at h3
    rw [if_pos (by simp)]
    exact h3
  · rw [if_neg (by simp [e])]
    have h1' : (PySem.W.clsIn K C).isSome = true := h1
    show (if ((PySem.W.clsIn K C).isSome && PySem.W.typeIn K (.ref C) == some (.type "type")) = true then PySem.W.subIn K (.ref R) (.ref C) else none) = some b
    rw [if_pos (by rw [h1', h2] <;> rfl)]
    exact h3
theorem kit_tyS {K : PySem.W.Frag} {R : Addr} {T : String} {b : Bool} (h1 : PySem.W.kitMeta T = true) (h3 : PySem.W.subIn K (.ref R) (.type T) = some b) : PySem.W.kitOne K (.ref R) (.type T) = some b := by
  unfold PySem.W.kitOne
  rw [if_neg (by simp)]
  show (if PySem.W.kitMeta T = true then PySem.W.subIn K (.ref R) (.type T) else none) = some b
  rw [if_pos h1]
  exact h3
theorem sci_InvalidTerm : NScope ["self", "path", "__class__"] ["self", "path"] ["__class__"] (defScope si_InvalidTerm) := nscope_by (by decide +kernel)
theorem okinit_InvalidTerm {CX : CXT} {P : Program} {w : World} {K : Fg} {mg : Str → Option Value} {base : Heap} {f C D cc cda : Addr} {file : Str} {kV doc pm ct oc : Value} {an od : Option Addr} {osl : Array (Option Value)}
    (lk : K.lookup f = some ⟨oc, od, .func (PySem.W.ksFn "__init__" "InvalidTerm.__init__" (defArgs si_InvalidTerm) (defBody si_InvalidTerm) (defScope si_InvalidTerm) .none kV doc pm an (.ref cda) ct cc), osl⟩)
    (hcd : PySem.W.codeIn K (.ref cda) "InvalidTerm.__init__" = true) (T : SupC K C D cc f cda file) (hfile : ((P.main.file : Str) == file) = true) (htop : (P.main.scope.names.lookup ("super" : Str)).isSome = false) (hms : mg "super" = none) :
    FnOk P w K mg base CX 1 f (PySem.W.ksFn "__init__" "InvalidTerm.__init__" (defArgs si_InvalidTerm) (defBody si_InvalidTerm) (defScope si_InvalidTerm) .none kV doc pm an (.ref cda) ct cc) ["self", "path"] (spInit K C "path" (okPath K)) :=
  sup_fn (k := 0) lk hcd sci_InvalidTerm T rfl rfl hfile htop hms rfl (by decide) fun X hP hw hK hN hsc hL hr => by
    obtain ⟨L, hL⟩ := hL
    have v0 : ∀ p, PE X (.Name "self" p) (tVar 0) := fun p => pv 0 (hN := by rw [hN]; rfl) (hv := .inl (by rw [hsc]; rfl))
    have v1 : ∀ p, PE X (.Name "path" p) (tVar 1) := fun p => pv 1 (hN := by rw [hN]; rfl) (hv := .inl (by rw [hsc]; rfl))
    subst hK
    exact ⟨msg_path hr (by decide) (by decide) (v1 _), by rw [hL]; rfl, by rw [hL]; rfl, by rw [hL]; rfl, by rw [hL]; rfl, ⟨_, by rw [hL]; rfl⟩, by rw [hL]; rfl, v0 _, v1 _⟩
open PyProof.Rows in
theorem all_mk {P : Program} {w : World} {K : PySem.W.Frag} {h : Heap} {mg : Str → Option Value} {fa c_OutOfRange c_TooLarge c_InvalidQuery c_SizeMismatch c_InvalidPlan c_InvalidTerm c_ChoosersError c_Query fi_InvalidQuery f0 f1 f2 f3 f4 f5 f6 f7 f8 f9 f10 f11 f12 f13 f14 f15 f16 f17 f18 f19 f20 f21 f22 f23 f24 f25 f26 f27 f28 f29 f30 f31 f32 f33 f34 f35 f36 f37 f38 f39 f40 f41 f42 f43 f44 f45 f46 f47 f48 f49 f50 f51 f52 f53 f54 : Addr} (X : K.In h) (G : h.Ns mainGlobals mg) (hfa : mg "law" = some (.ref fa)) (hP : ((P.main.file : Str) == fileP) = true) (htop_ : (P.main.scope.names.lookup ("super" : Str)).isSome = false)
    (FI0 : fnI K f0 = vI "is_number" "is_number" s_is_number [])
    (FI1 : fnI K f1 = vI "is_below" "is_below" s_is_below [])
    (FI2 : fnI K f2 = vI "count_choices" "count_choices" s_count_choices [])
    (FI3 : fnI K f3 = vI "has_outcomes" "has_outcomes" s_has_outcomes [])
    (FI4 : fnI K f4 = vI "width_at" "width_at" s_width_at [])
    (FI5 : fnI K f5 = vI "terms_behind" "terms_behind" s_terms_behind [])
    (FI6 : fnI K f6 = vI "are_widths" "are_widths" s_are_widths [])
    (FI7 : fnI K f7 = vI "require_form" "require_form" s_require_form [])
    (FI8 : fnI K f8 = vI "has_query_form" "has_query_form" s_has_query_form [])
    (FI9 : fnI K f9 = vI "wrong_query" "wrong_query" s_wrong_query [])
    (FI10 : fnI K f10 = vI "places_of" "places_of" s_places_of [])
    (FI11 : fnI K f11 = vI "require_few" "require_few" s_require_few [])
    (FI12 : fnI K f12 = vI "fixed_term" "fixed_term" s_fixed_term [])
    (FI13 : fnI K f13 = vI "__init__" "Query.__init__" s_Query___init__ [])
    (FI14 : fnI K f14 = vI "choice_at" "choice_at" s_choice_at [])
    (FI15 : fnI K f15 = vI "choice_index" "choice_index" s_choice_index [])
    (FI16 : fnI K f16 = vI "split_option" "split_option" s_split_option [])
    (FI17 : fnI K f17 = vI "join_option" "join_option" s_join_option [])
    (FI18 : fnI K f18 = vI "settled_part" "settled_part" s_settled_part [])
    (FI19 : fnI K f19 = vI "settled_term" "settled_term" s_settled_term [])
    (FI20 : fnI K f20 = vI "term_reach" "term_reach" s_term_reach [])
    (FI21 : fnI K f21 = vI "query_reach" "query_reach" s_query_reach [])
    (FI22 : fnI K f22 = vI "require_outcome" "require_outcome" s_require_outcome [])
    (FI23 : fnI K f23 = vI "span_widths" "span_widths" s_span_widths [])
    (FI24 : fnI K f24 = vI "free_widths" "free_widths" s_free_widths [])
    (FI25 : fnI K f25 = vI "tail_counts" "tail_counts" s_tail_counts [])
    (FI26 : fnI K f26 = vI "counts_behind" "counts_behind" s_counts_behind [])
    (FI27 : fnI K f27 = vI "count_heads" "count_heads" s_count_heads [])
    (FI28 : fnI K f28 = vI "head_at" "head_at" s_head_at [])
    (FI29 : fnI K f29 = vI "tail_index" "tail_index" s_tail_index [])
    (FI30 : fnI K f30 = vI "head_index" "head_index" s_head_index [])
    (FI31 : fnI K f31 = vI "_law_start" "_law_start" s__law_start [])
    (FI32 : fnI K f32 = vI "_law_pick" "_law_pick" s__law_pick [])
    (FI33 : fnI K f33 = vI "_law_same" "_law_same" s__law_same [])
    (FI34 : fnI K f34 = vI "_law_width" "_law_width" s__law_width [])
    (FI35 : fnI K f35 = vI "_law_widths" "_law_widths" s__law_widths [])
    (FI36 : fnI K f36 = vI "_law_look_places" "_law_look_places" s__law_look_places [])
    (FI37 : fnI K f37 = vI "_law_query_term" "_law_query_term" s__law_query_term [])
    (FI38 : fnI K f38 = vI "_law_shuffled" "_law_shuffled" s__law_shuffled [])
    (FI39 : fnI K f39 = vI "_law_full_query" "_law_full_query" s__law_full_query [])
    (FI40 : fnI K f40 = vI "_law_longer" "_law_longer" s__law_longer [])
    (FI41 : fnI K f41 = vI "_law_heads" "_law_heads" s__law_heads [])
    (FI42 : fnI K f42 = vI "_law_tell" "_law_tell" s__law_tell [])
    (FI43 : fnI K f43 = vI "_law_drawn_term" "_law_drawn_term" s__law_drawn_term [])
    (FI44 : fnI K f44 = vI "_law_needed" "_law_needed" s__law_needed [])
    (FI45 : fnI K f45 = vI "_law_model" "_law_model" s__law_model [])
    (FI46 : fnI K f46 = vI "_law_outcome" "_law_outcome" s__law_outcome [])
    (FI47 : fnI K f47 = vI "_law_rank" "_law_rank" s__law_rank [])
    (FI48 : fnI K f48 = vI "_law_is_head" "_law_is_head" s__law_is_head [])
    (FI49 : fnI K f49 = vI "_law_great" "_law_great" s__law_great [])
    (FI50 : fnI K f50 = vI "_law_ask" "_law_ask" s__law_ask [])
    (FI51 : fnI K f51 = vI "_law_refused" "_law_refused" s__law_refused [])
    (FI52 : fnI K f52 = vI "_law_numbers" "_law_numbers" s__law_numbers [])
    (FI53 : fnI K f53 = vI "_law_indexes" "_law_indexes" s__law_indexes [])
    (FI54 : fnI K f54 = vI "law" "law" s_law [])
    (I_InvalidQuery : fnI K fi_InvalidQuery = vI "__init__" "InvalidTerm.__init__" si_InvalidTerm ["__class__"])
    (h0_ : ck0 K c_Query f0 f1 f2 f3 f4 f5 f6 f7 = true)
    (h1_ : ck1 K c_Query f8 f9 f10 f11 f12 f13 f14 f15 = true)
    (h2_ : ck2 K f16 f17 f18 f19 f20 f21 f22 f23 f24 = true)
    (h3_ : ck3 K f24 f25 f26 f27 f28 f29 f30 f31 f32 = true)
    (h4_ : ck4 K f32 f33 f34 f35 f36 f37 f38 f39 f40 = true)
    (h5_ : ck5 K f41 f42 f43 f44 f45 f46 f47 f48 f49 = true)
    (h6_ : ck6 K f49 f50 f51 f52 f53 f54 = true)
    (h7_ : ck7 K c_OutOfRange c_TooLarge = true)
    (h8_ : ck8 K c_OutOfRange c_TooLarge c_InvalidQuery c_SizeMismatch c_InvalidPlan c_InvalidTerm c_ChoosersError = true)
    (h9_ : ck9 K c_OutOfRange c_TooLarge c_InvalidQuery c_SizeMismatch c_InvalidPlan c_InvalidTerm c_ChoosersError = true)
    (h10_ : ck10 K c_OutOfRange c_TooLarge c_InvalidQuery c_SizeMismatch c_InvalidPlan c_InvalidTerm c_ChoosersError fi_InvalidQuery = true)
    (h11_ : ck11 K c_ChoosersError c_Query = true)
    : ∃ fd : FuncData, (∀ (s : Shared) (v : Value), BindsTo s fd ⟨[v], []⟩ [("_law_script", v)]) ∧ ∀ base : Heap, K.In base → base.Ns mainGlobals mg → FnOk P w K mg base (L2N.CX P w) 70 fa fd ["_law_script"] (spOf K c_law) := by
  obtain ⟨g_Query, h0_⟩ := He.ba h0_
  have g_Query := He.eqO_ok g_Query
  obtain ⟨a0, h0_⟩ := He.ba h0_
  have a0 := He.eqO_ok a0
  obtain ⟨c0, h0_⟩ := He.ba h0_
  obtain ⟨k0, h0_⟩ := He.ba h0_
  obtain ⟨a1, h0_⟩ := He.ba h0_
  have a1 := He.eqO_ok a1
  obtain ⟨c1, h0_⟩ := He.ba h0_
  obtain ⟨k1, h0_⟩ := He.ba h0_
  obtain ⟨a2, h0_⟩ := He.ba h0_
  have a2 := He.eqO_ok a2
  obtain ⟨c2, h0_⟩ := He.ba h0_
  obtain ⟨k2, h0_⟩ := He.ba h0_
  obtain ⟨a3, h0_⟩ := He.ba h0_
  have a3 := He.eqO_ok a3
  obtain ⟨c3, h0_⟩ := He.ba h0_
  obtain ⟨k3, h0_⟩ := He.ba h0_
  obtain ⟨a4, h0_⟩ := He.ba h0_
  have a4 := He.eqO_ok a4
  obtain ⟨c4, h0_⟩ := He.ba h0_
  obtain ⟨k4, h0_⟩ := He.ba h0_
  obtain ⟨a5, h0_⟩ := He.ba h0_
  have a5 := He.eqO_ok a5
  obtain ⟨c5, h0_⟩ := He.ba h0_
  obtain ⟨k5, h0_⟩ := He.ba h0_
  obtain ⟨a6, h0_⟩ := He.ba h0_
  have a6 := He.eqO_ok a6
  obtain ⟨c6, h0_⟩ := He.ba h0_
  obtain ⟨k6, h0_⟩ := He.ba h0_
  obtain ⟨a7, h0_⟩ := He.ba h0_
  have a7 := He.eqO_ok a7
  obtain ⟨c7, h0_⟩ := He.ba h0_
  have k7 := h0_
  obtain ⟨a8, h1_⟩ := He.ba h1_
  have a8 := He.eqO_ok a8
  obtain ⟨c8, h1_⟩ := He.ba h1_
  obtain ⟨k8, h1_⟩ := He.ba h1_
  obtain ⟨a9, h1_⟩ := He.ba h1_
  have a9 := He.eqO_ok a9
  obtain ⟨c9, h1_⟩ := He.ba h1_
  obtain ⟨k9, h1_⟩ := He.ba h1_
  obtain ⟨a10, h1_⟩ := He.ba h1_
  have a10 := He.eqO_ok a10
  obtain ⟨c10, h1_⟩ := He.ba h1_
  obtain ⟨k10, h1_⟩ := He.ba h1_
  obtain ⟨a11, h1_⟩ := He.ba h1_
  have a11 := He.eqO_ok a11
  obtain ⟨c11, h1_⟩ := He.ba h1_
  obtain ⟨k11, h1_⟩ := He.ba h1_
  obtain ⟨a12, h1_⟩ := He.ba h1_
  have a12 := He.eqO_ok a12
  obtain ⟨c12, h1_⟩ := He.ba h1_
  obtain ⟨k12, h1_⟩ := He.ba h1_
  obtain ⟨a13, h1_⟩ := He.ba h1_
  have a13 := He.eqO_ok a13
  obtain ⟨i13, h1_⟩ := He.ba h1_
  obtain ⟨c13, h1_⟩ := He.ba h1_
  obtain ⟨k13, h1_⟩ := He.ba h1_
  obtain ⟨a14, h1_⟩ := He.ba h1_
  have a14 := He.eqO_ok a14
  obtain ⟨c14, h1_⟩ := He.ba h1_
  obtain ⟨k14, h1_⟩ := He.ba h1_
  obtain ⟨a15, h1_⟩ := He.ba h1_
  have a15 := He.eqO_ok a15
  obtain ⟨c15, h1_⟩ := He.ba h1_
  have k15 := h1_
  obtain ⟨a16, h2_⟩ := He.ba h2_
  have a16 := He.eqO_ok a16
  obtain ⟨c16, h2_⟩ := He.ba h2_
  obtain ⟨k16, h2_⟩ := He.ba h2_
  obtain ⟨a17, h2_⟩ := He.ba h2_
  have a17 := He.eqO_ok a17
  obtain ⟨c17, h2_⟩ := He.ba h2_
  obtain ⟨k17, h2_⟩ := He.ba h2_
  obtain ⟨a18, h2_⟩ := He.ba h2_
  have a18 := He.eqO_ok a18
  obtain ⟨c18, h2_⟩ := He.ba h2_
  obtain ⟨k18, h2_⟩ := He.ba h2_
  obtain ⟨a19, h2_⟩ := He.ba h2_
  have a19 := He.eqO_ok a19
  obtain ⟨c19, h2_⟩ := He.ba h2_
  obtain ⟨k19, h2_⟩ := He.ba h2_
  obtain ⟨a20, h2_⟩ := He.ba h2_
  have a20 := He.eqO_ok a20
  obtain ⟨c20, h2_⟩ := He.ba h2_
  obtain ⟨k20, h2_⟩ := He.ba h2_
  obtain ⟨a21, h2_⟩ := He.ba h2_
  have a21 := He.eqO_ok a21
  obtain ⟨c21, h2_⟩ := He.ba h2_
  obtain ⟨k21, h2_⟩ := He.ba h2_
  obtain ⟨a22, h2_⟩ := He.ba h2_
  have a22 := He.eqO_ok a22
  obtain ⟨c22, h2_⟩ := He.ba h2_
  obtain ⟨k22, h2_⟩ := He.ba h2_
  obtain ⟨a23, h2_⟩ := He.ba h2_
  have a23 := He.eqO_ok a23
  obtain ⟨c23, h2_⟩ := He.ba h2_
  obtain ⟨k23, h2_⟩ := He.ba h2_
  have a24 := h2_
  have a24 := He.eqO_ok a24
  obtain ⟨c24, h3_⟩ := He.ba h3_
  obtain ⟨k24, h3_⟩ := He.ba h3_
  obtain ⟨a25, h3_⟩ := He.ba h3_
  have a25 := He.eqO_ok a25
  obtain ⟨c25, h3_⟩ := He.ba h3_
  obtain ⟨k25, h3_⟩ := He.ba h3_
  obtain ⟨a26, h3_⟩ := He.ba h3_
  have a26 := He.eqO_ok a26
  obtain ⟨c26, h3_⟩ := He.ba h3_
  obtain ⟨k26, h3_⟩ := He.ba h3_
  obtain ⟨a27, h3_⟩ := He.ba h3_
  have a27 := He.eqO_ok a27
  obtain ⟨c27, h3_⟩ := He.ba h3_
  obtain ⟨k27, h3_⟩ := He.ba h3_
  obtain ⟨a28, h3_⟩ := He.ba h3_
  have a28 := He.eqO_ok a28
  obtain ⟨c28, h3_⟩ := He.ba h3_
  obtain ⟨k28, h3_⟩ := He.ba h3_
  obtain ⟨a29, h3_⟩ := He.ba h3_
  have a29 := He.eqO_ok a29
  obtain ⟨c29, h3_⟩ := He.ba h3_
  obtain ⟨k29, h3_⟩ := He.ba h3_
  obtain ⟨a30, h3_⟩ := He.ba h3_
  have a30 := He.eqO_ok a30
  obtain ⟨c30, h3_⟩ := He.ba h3_
  obtain ⟨k30, h3_⟩ := He.ba h3_
  obtain ⟨a31, h3_⟩ := He.ba h3_
  have a31 := He.eqO_ok a31
  obtain ⟨c31, h3_⟩ := He.ba h3_
  obtain ⟨k31, h3_⟩ := He.ba h3_
  obtain ⟨a32, h3_⟩ := He.ba h3_
  have a32 := He.eqO_ok a32
  have c32 := h3_
  obtain ⟨k32, h4_⟩ := He.ba h4_
  obtain ⟨a33, h4_⟩ := He.ba h4_
  have a33 := He.eqO_ok a33
  obtain ⟨c33, h4_⟩ := He.ba h4_
  obtain ⟨k33, h4_⟩ := He.ba h4_
  obtain ⟨a34, h4_⟩ := He.ba h4_
  have a34 := He.eqO_ok a34
  obtain ⟨c34, h4_⟩ := He.ba h4_
  obtain ⟨k34, h4_⟩ := He.ba h4_
  obtain ⟨a35, h4_⟩ := He.ba h4_
  have a35 := He.eqO_ok a35
  obtain ⟨c35, h4_⟩ := He.ba h4_
  obtain ⟨k35, h4_⟩ := He.ba h4_
  obtain ⟨a36, h4_⟩ := He.ba h4_
  have a36 := He.eqO_ok a36
  obtain ⟨c36, h4_⟩ := He.ba h4_
  obtain ⟨k36, h4_⟩ := He.ba h4_
  obtain ⟨a37, h4_⟩ := He.ba h4_
  have a37 := He.eqO_ok a37
  obtain ⟨c37, h4_⟩ := He.ba h4_
  obtain ⟨k37, h4_⟩ := He.ba h4_
  obtain ⟨a38, h4_⟩ := He.ba h4_
  have a38 := He.eqO_ok a38
  obtain ⟨c38, h4_⟩ := He.ba h4_
  obtain ⟨k38, h4_⟩ := He.ba h4_
  obtain ⟨a39, h4_⟩ := He.ba h4_
  have a39 := He.eqO_ok a39
  obtain ⟨c39, h4_⟩ := He.ba h4_
  obtain ⟨k39, h4_⟩ := He.ba h4_
  obtain ⟨a40, h4_⟩ := He.ba h4_
  have a40 := He.eqO_ok a40
  obtain ⟨c40, h4_⟩ := He.ba h4_
  have k40 := h4_
  obtain ⟨a41, h5_⟩ := He.ba h5_
  have a41 := He.eqO_ok a41
  obtain ⟨c41, h5_⟩ := He.ba h5_
  obtain ⟨k41, h5_⟩ := He.ba h5_
  obtain ⟨a42, h5_⟩ := He.ba h5_
  have a42 := He.eqO_ok a42
  obtain ⟨c42, h5_⟩ := He.ba h5_
  obtain ⟨k42, h5_⟩ := He.ba h5_
  obtain ⟨a43, h5_⟩ := He.ba h5_
  have a43 := He.eqO_ok a43
  obtain ⟨c43, h5_⟩ := He.ba h5_
  obtain ⟨k43, h5_⟩ := He.ba h5_
  obtain ⟨a44, h5_⟩ := He.ba h5_
  have a44 := He.eqO_ok a44
  obtain ⟨c44, h5_⟩ := He.ba h5_
  obtain ⟨k44, h5_⟩ := He.ba h5_
  obtain ⟨a45, h5_⟩ := He.ba h5_
  have a45 := He.eqO_ok a45
  obtain ⟨c45, h5_⟩ := He.ba h5_
  obtain ⟨k45, h5_⟩ := He.ba h5_
  obtain ⟨a46, h5_⟩ := He.ba h5_
  have a46 := He.eqO_ok a46
  obtain ⟨c46, h5_⟩ := He.ba h5_
  obtain ⟨k46, h5_⟩ := He.ba h5_
  obtain ⟨a47, h5_⟩ := He.ba h5_
  have a47 := He.eqO_ok a47
  obtain ⟨c47, h5_⟩ := He.ba h5_
  obtain ⟨k47, h5_⟩ := He.ba h5_
  obtain ⟨a48, h5_⟩ := He.ba h5_
  have a48 := He.eqO_ok a48
  obtain ⟨c48, h5_⟩ := He.ba h5_
  obtain ⟨k48, h5_⟩ := He.ba h5_
  have a49 := h5_
  have a49 := He.eqO_ok a49
  obtain ⟨c49, h6_⟩ := He.ba h6_
  obtain ⟨k49, h6_⟩ := He.ba h6_
  obtain ⟨a50, h6_⟩ := He.ba h6_
  have a50 := He.eqO_ok a50
  obtain ⟨c50, h6_⟩ := He.ba h6_
  obtain ⟨k50, h6_⟩ := He.ba h6_
  obtain ⟨a51, h6_⟩ := He.ba h6_
  have a51 := He.eqO_ok a51
  obtain ⟨c51, h6_⟩ := He.ba h6_
  obtain ⟨k51, h6_⟩ := He.ba h6_
  obtain ⟨a52, h6_⟩ := He.ba h6_
  have a52 := He.eqO_ok a52
  obtain ⟨c52, h6_⟩ := He.ba h6_
  obtain ⟨k52, h6_⟩ := He.ba h6_
  obtain ⟨a53, h6_⟩ := He.ba h6_
  have a53 := He.eqO_ok a53
  obtain ⟨c53, h6_⟩ := He.ba h6_
  obtain ⟨k53, h6_⟩ := He.ba h6_
  obtain ⟨a54, h6_⟩ := He.ba h6_
  have a54 := He.eqO_ok a54
  obtain ⟨c54, h6_⟩ := He.ba h6_
  obtain ⟨k54, h6_⟩ := He.ba h6_
  obtain ⟨z_isinstance, h6_⟩ := He.ba h6_
  have z_isinstance := He.eqO_ok z_isinstance
  obtain ⟨z_int, h6_⟩ := He.ba h6_
  have z_int := He.eqO_ok z_int
  obtain ⟨z_bool, h6_⟩ := He.ba h6_
  have z_bool := He.eqO_ok z_bool
  obtain ⟨z_all, h6_⟩ := He.ba h6_
  have z_all := He.eqO_ok z_all
  obtain ⟨z_str, h6_⟩ := He.ba h6_
  have z_str := He.eqO_ok z_str
  obtain ⟨z_len, h6_⟩ := He.ba h6_
  have z_len := He.eqO_ok z_len
  obtain ⟨z_enumerate, h6_⟩ := He.ba h6_
  have z_enumerate := He.eqO_ok z_enumerate
  have z_tuple := h6_
  have z_tuple := He.eqO_ok z_tuple
  obtain ⟨z_divmod, h7_⟩ := He.ba h7_
  have z_divmod := He.eqO_ok z_divmod
  obtain ⟨z_zip, h7_⟩ := He.ba h7_
  have z_zip := He.eqO_ok z_zip
  obtain ⟨z_sorted, h7_⟩ := He.ba h7_
  have z_sorted := He.eqO_ok z_sorted
  obtain ⟨z_set, h7_⟩ := He.ba h7_
  have z_set := He.eqO_ok z_set
  obtain ⟨z_sum, h7_⟩ := He.ba h7_
  have z_sum := He.eqO_ok z_sum
  obtain ⟨z_min, h7_⟩ := He.ba h7_
  have z_min := He.eqO_ok z_min
  obtain ⟨z_range, h7_⟩ := He.ba h7_
  have z_range := He.eqO_ok z_range
  obtain ⟨z_max, h7_⟩ := He.ba h7_
  have z_max := He.eqO_ok z_max
  obtain ⟨z_list, h7_⟩ := He.ba h7_
  have z_list := He.eqO_ok z_list
  obtain ⟨z_any, h7_⟩ := He.ba h7_
  have z_any := He.eqO_ok z_any
  obtain ⟨z_ValueError, h7_⟩ := He.ba h7_
  have z_ValueError := He.eqO_ok z_ValueError
  obtain ⟨gc_LETTERS, h7_⟩ := He.ba h7_
  obtain ⟨_, gc_LETTERS⟩ := strB_ok gc_LETTERS
  obtain ⟨gc_DIGITS, h7_⟩ := He.ba h7_
  obtain ⟨_, gc_DIGITS⟩ := strB_ok gc_DIGITS
  obtain ⟨gc_LONGEST_WORD, h7_⟩ := He.ba h7_
  obtain ⟨_, gc_LONGEST_WORD⟩ := intB_ok gc_LONGEST_WORD
  obtain ⟨gc_LONGEST_NUMBER, h7_⟩ := He.ba h7_
  obtain ⟨_, gc_LONGEST_NUMBER⟩ := intB_ok gc_LONGEST_NUMBER
  obtain ⟨gc_NUMBERS_END, h7_⟩ := He.ba h7_
  obtain ⟨_, gc_NUMBERS_END⟩ := intB_ok gc_NUMBERS_END
  obtain ⟨gc_DEEPEST_TUPLE, h7_⟩ := He.ba h7_
  obtain ⟨_, gc_DEEPEST_TUPLE⟩ := intB_ok gc_DEEPEST_TUPLE
  obtain ⟨gc_MOST_OUTCOMES, h7_⟩ := He.ba h7_
  obtain ⟨_, gc_MOST_OUTCOMES⟩ := intB_ok gc_MOST_OUTCOMES
  obtain ⟨gc_MOST_WIDTHS, h7_⟩ := He.ba h7_
  obtain ⟨_, gc_MOST_WIDTHS⟩ := intB_ok gc_MOST_WIDTHS
  obtain ⟨gc_WIDEST, h7_⟩ := He.ba h7_
  obtain ⟨_, gc_WIDEST⟩ := intB_ok gc_WIDEST
  obtain ⟨gc_PLACES, h7_⟩ := He.ba h7_
  obtain ⟨_, gc_PLACES⟩ := intB_ok gc_PLACES
  obtain ⟨gc_ITEMS_BEFORE, h7_⟩ := He.ba h7_
  obtain ⟨_, gc_ITEMS_BEFORE⟩ := intB_ok gc_ITEMS_BEFORE
  obtain ⟨gc_TWO_OUTCOMES, h7_⟩ := He.ba h7_
  obtain ⟨_, gc_TWO_OUTCOMES⟩ := intB_ok gc_TWO_OUTCOMES
  obtain ⟨g_OutOfRange, h7_⟩ := He.ba h7_
  have g_OutOfRange := He.eqO_ok g_OutOfRange
  have g_TooLarge := h7_
  have g_TooLarge := He.eqO_ok g_TooLarge
  obtain ⟨g_InvalidQuery, h8_⟩ := He.ba h8_
  have g_InvalidQuery := He.eqO_ok g_InvalidQuery
  obtain ⟨g_SizeMismatch, h8_⟩ := He.ba h8_
  have g_SizeMismatch := He.eqO_ok g_SizeMismatch
  obtain ⟨g_InvalidPlan, h8_⟩ := He.ba h8_
  have g_InvalidPlan := He.eqO_ok g_InvalidPlan
  obtain ⟨g_InvalidTerm, h8_⟩ := He.ba h8_
  have g_InvalidTerm := He.eqO_ok g_InvalidTerm
  obtain ⟨g_ChoosersError, h8_⟩ := He.ba h8_
  have g_ChoosersError := He.eqO_ok g_ChoosersError
  obtain ⟨x_OutOfRange, h8_⟩ := He.ba h8_
  obtain ⟨x_TooLarge, h8_⟩ := He.ba h8_
  obtain ⟨z_super, h8_⟩ := He.ba h8_
  have z_super := He.eqO_ok z_super
  obtain ⟨opq_, h8_⟩ := He.ba h8_
  have opq_ := He.eqO_ok opq_
  obtain ⟨kc_OutOfRange, h8_⟩ := He.ba h8_
  obtain ⟨e_OutOfRange, h8_⟩ := He.ba h8_
  have e_OutOfRange := of_decide_eq_true e_OutOfRange
  obtain ⟨t_OutOfRange, h8_⟩ := He.ba h8_
  have t_OutOfRange := of_decide_eq_true t_OutOfRange
  obtain ⟨hg_OutOfRange, h8_⟩ := He.ba h8_
  have hg_OutOfRange := He.eqO_ok hg_OutOfRange
  obtain ⟨hk_OutOfRange, h8_⟩ := He.ba h8_
  have hk_OutOfRange := He.eqO_ok hk_OutOfRange
  obtain ⟨hd_OutOfRange, h8_⟩ := He.ba h8_
  obtain ⟨ha_OutOfRange, h8_⟩ := He.ba h8_
  have ha_OutOfRange := He.eqO_ok ha_OutOfRange
  obtain ⟨hm_OutOfRange, h8_⟩ := He.ba h8_
  have hm_OutOfRange := of_decide_eq_true hm_OutOfRange
  obtain ⟨s_OutOfRange_OutOfRange, h8_⟩ := He.ba h8_
  have s_OutOfRange_OutOfRange := of_decide_eq_true s_OutOfRange_OutOfRange
  obtain ⟨s_OutOfRange_SizeMismatch, h8_⟩ := He.ba h8_
  have s_OutOfRange_SizeMismatch := of_decide_eq_true s_OutOfRange_SizeMismatch
  obtain ⟨s_OutOfRange_TooLarge, h8_⟩ := He.ba h8_
  have s_OutOfRange_TooLarge := of_decide_eq_true s_OutOfRange_TooLarge
  obtain ⟨s_OutOfRange_InvalidPlan, h8_⟩ := He.ba h8_
  have s_OutOfRange_InvalidPlan := of_decide_eq_true s_OutOfRange_InvalidPlan
  obtain ⟨s_OutOfRange_InvalidTerm, h8_⟩ := He.ba h8_
  have s_OutOfRange_InvalidTerm := of_decide_eq_true s_OutOfRange_InvalidTerm
  obtain ⟨s_OutOfRange_ValueError, h8_⟩ := He.ba h8_
  have s_OutOfRange_ValueError := of_decide_eq_true s_OutOfRange_ValueError
  obtain ⟨s_OutOfRange_ChoosersError, h8_⟩ := He.ba h8_
  have s_OutOfRange_ChoosersError := of_decide_eq_true s_OutOfRange_ChoosersError
  have kc_TooLarge := h8_
  obtain ⟨e_TooLarge, h9_⟩ := He.ba h9_
  have e_TooLarge := of_decide_eq_true e_TooLarge
  obtain ⟨t_TooLarge, h9_⟩ := He.ba h9_
  have t_TooLarge := of_decide_eq_true t_TooLarge
  obtain ⟨hg_TooLarge, h9_⟩ := He.ba h9_
  have hg_TooLarge := He.eqO_ok hg_TooLarge
  obtain ⟨hk_TooLarge, h9_⟩ := He.ba h9_
  have hk_TooLarge := He.eqO_ok hk_TooLarge
  obtain ⟨hd_TooLarge, h9_⟩ := He.ba h9_
  obtain ⟨ha_TooLarge, h9_⟩ := He.ba h9_
  have ha_TooLarge := He.eqO_ok ha_TooLarge
  obtain ⟨hm_TooLarge, h9_⟩ := He.ba h9_
  have hm_TooLarge := of_decide_eq_true hm_TooLarge
  obtain ⟨s_TooLarge_TooLarge, h9_⟩ := He.ba h9_
  have s_TooLarge_TooLarge := of_decide_eq_true s_TooLarge_TooLarge
  obtain ⟨s_TooLarge_SizeMismatch, h9_⟩ := He.ba h9_
  have s_TooLarge_SizeMismatch := of_decide_eq_true s_TooLarge_SizeMismatch
  obtain ⟨s_TooLarge_InvalidPlan, h9_⟩ := He.ba h9_
  have s_TooLarge_InvalidPlan := of_decide_eq_true s_TooLarge_InvalidPlan
  obtain ⟨s_TooLarge_InvalidTerm, h9_⟩ := He.ba h9_
  have s_TooLarge_InvalidTerm := of_decide_eq_true s_TooLarge_InvalidTerm
  obtain ⟨s_TooLarge_ValueError, h9_⟩ := He.ba h9_
  have s_TooLarge_ValueError := of_decide_eq_true s_TooLarge_ValueError
  obtain ⟨s_TooLarge_OutOfRange, h9_⟩ := He.ba h9_
  have s_TooLarge_OutOfRange := of_decide_eq_true s_TooLarge_OutOfRange
  obtain ⟨s_TooLarge_ChoosersError, h9_⟩ := He.ba h9_
  have s_TooLarge_ChoosersError := of_decide_eq_true s_TooLarge_ChoosersError
  obtain ⟨kc_InvalidQuery, h9_⟩ := He.ba h9_
  obtain ⟨e_InvalidQuery, h9_⟩ := He.ba h9_
  have e_InvalidQuery := of_decide_eq_true e_InvalidQuery
  obtain ⟨t_InvalidQuery, h9_⟩ := He.ba h9_
  have t_InvalidQuery := of_decide_eq_true t_InvalidQuery
  obtain ⟨hg_InvalidQuery, h9_⟩ := He.ba h9_
  have hg_InvalidQuery := He.eqO_ok hg_InvalidQuery
  obtain ⟨hk_InvalidQuery, h9_⟩ := He.ba h9_
  have hk_InvalidQuery := He.eqO_ok hk_InvalidQuery
  obtain ⟨hd_InvalidQuery, h9_⟩ := He.ba h9_
  obtain ⟨ha_InvalidQuery, h9_⟩ := He.ba h9_
  have ha_InvalidQuery := He.eqO_ok ha_InvalidQuery
  obtain ⟨hm_InvalidQuery, h9_⟩ := He.ba h9_
  have hm_InvalidQuery := of_decide_eq_true hm_InvalidQuery
  obtain ⟨s_InvalidQuery_InvalidQuery, h9_⟩ := He.ba h9_
  have s_InvalidQuery_InvalidQuery := of_decide_eq_true s_InvalidQuery_InvalidQuery
  obtain ⟨s_InvalidQuery_SizeMismatch, h9_⟩ := He.ba h9_
  have s_InvalidQuery_SizeMismatch := of_decide_eq_true s_InvalidQuery_SizeMismatch
  have s_InvalidQuery_TooLarge := h9_
  have s_InvalidQuery_TooLarge := of_decide_eq_true s_InvalidQuery_TooLarge
  obtain ⟨s_InvalidQuery_InvalidPlan, h10_⟩ := He.ba h10_
  have s_InvalidQuery_InvalidPlan := of_decide_eq_true s_InvalidQuery_InvalidPlan
  obtain ⟨s_InvalidQuery_InvalidTerm, h10_⟩ := He.ba h10_
  have s_InvalidQuery_InvalidTerm := of_decide_eq_true s_InvalidQuery_InvalidTerm
  obtain ⟨s_InvalidQuery_ValueError, h10_⟩ := He.ba h10_
  have s_InvalidQuery_ValueError := of_decide_eq_true s_InvalidQuery_ValueError
  obtain ⟨s_InvalidQuery_OutOfRange, h10_⟩ := He.ba h10_
  have s_InvalidQuery_OutOfRange := of_decide_eq_true s_InvalidQuery_OutOfRange
  obtain ⟨s_InvalidQuery_ChoosersError, h10_⟩ := He.ba h10_
  have s_InvalidQuery_ChoosersError := of_decide_eq_true s_InvalidQuery_ChoosersError
  obtain ⟨ic_InvalidQuery, h10_⟩ := He.ba h10_
  have ic_InvalidQuery := He.eqO_ok ic_InvalidQuery
  obtain ⟨ini_InvalidQuery, h10_⟩ := He.ba h10_
  obtain ⟨ti_InvalidQuery, h10_⟩ := He.ba h10_
  have ti_InvalidQuery := of_decide_eq_true ti_InvalidQuery
  obtain ⟨no_InvalidQuery, h10_⟩ := He.ba h10_
  have no_InvalidQuery := He.eqO_ok no_InvalidQuery
  obtain ⟨own_InvalidQuery, h10_⟩ := He.ba h10_
  obtain ⟨sb_InvalidQuery, h10_⟩ := He.ba h10_
  have sb_InvalidQuery := of_decide_eq_true sb_InvalidQuery
  obtain ⟨ve_InvalidQuery, h10_⟩ := He.ba h10_
  have ve_InvalidQuery := of_decide_eq_true ve_InvalidQuery
  obtain ⟨sup_InvalidQuery, h10_⟩ := He.ba h10_
  have sup_InvalidQuery := He.eqO_ok sup_InvalidQuery
  obtain ⟨ob_InvalidQuery, h10_⟩ := He.ba h10_
  have ob_InvalidQuery := excB_ok ob_InvalidQuery
  obtain ⟨sa_InvalidQuery, h10_⟩ := He.ba h10_
  have sa_InvalidQuery := He.eqO_ok sa_InvalidQuery
  obtain ⟨q_OutOfRange, h10_⟩ := He.ba h10_
  obtain ⟨q_TooLarge, h10_⟩ := He.ba h10_
  obtain ⟨q_InvalidQuery, h10_⟩ := He.ba h10_
  obtain ⟨q_SizeMismatch, h10_⟩ := He.ba h10_
  obtain ⟨t_SizeMismatch, h10_⟩ := He.ba h10_
  have t_SizeMismatch := of_decide_eq_true t_SizeMismatch
  obtain ⟨q_InvalidPlan, h10_⟩ := He.ba h10_
  obtain ⟨t_InvalidPlan, h10_⟩ := He.ba h10_
  have t_InvalidPlan := of_decide_eq_true t_InvalidPlan
  obtain ⟨q_InvalidTerm, h10_⟩ := He.ba h10_
  obtain ⟨t_InvalidTerm, h10_⟩ := He.ba h10_
  have t_InvalidTerm := of_decide_eq_true t_InvalidTerm
  have q_ChoosersError := h10_
  obtain ⟨t_ChoosersError, h11_⟩ := He.ba h11_
  have t_ChoosersError := of_decide_eq_true t_ChoosersError
  obtain ⟨e_ChoosersError, h11_⟩ := He.ba h11_
  have e_ChoosersError := of_decide_eq_true e_ChoosersError
  obtain ⟨hd_ChoosersError, h11_⟩ := He.ba h11_
  obtain ⟨hn_, h11_⟩ := He.ba h11_
  have hn_ := He.eqO_ok hn_
  obtain ⟨ht_, h11_⟩ := He.ba h11_
  have ht_ := of_decide_eq_true ht_
  obtain ⟨pg_Query, h11_⟩ := He.ba h11_
  obtain ⟨hdc_Query, h11_⟩ := He.ba h11_
  obtain ⟨po_Query, h11_⟩ := He.ba h11_
  obtain ⟨sac_Query, h11_⟩ := He.ba h11_
  have sac_Query := He.eqO_ok sac_Query
  obtain ⟨mk_Query, h11_⟩ := He.ba h11_
  obtain ⟨kcc_Query, h11_⟩ := He.ba h11_
  obtain ⟨na_Query_term, h11_⟩ := He.ba h11_
  have na_Query_term := He.eqO_ok na_Query_term
  obtain ⟨na_Query_widths, h11_⟩ := He.ba h11_
  have na_Query_widths := He.eqO_ok na_Query_widths
  obtain ⟨na_Query_outcomes, h11_⟩ := He.ba h11_
  have na_Query_outcomes := He.eqO_ok na_Query_outcomes
  obtain ⟨rdc_Query, h11_⟩ := He.ba h11_
  obtain ⟨rga_Query, h11_⟩ := He.ba h11_
  have rga_Query := He.eqO_ok rga_Query
  obtain ⟨cv_Query_MOST_LEVELS, h11_⟩ := He.ba h11_
  obtain ⟨_, cv_Query_MOST_LEVELS⟩ := cvB_ok cv_Query_MOST_LEVELS
  obtain ⟨cv_Query_MOST_LOOKS, h11_⟩ := He.ba h11_
  obtain ⟨_, cv_Query_MOST_LOOKS⟩ := cvB_ok cv_Query_MOST_LOOKS
  have cv_Query_MOST_CHOICES := h11_
  obtain ⟨_, cv_Query_MOST_CHOICES⟩ := cvB_ok cv_Query_MOST_CHOICES
  have e := hfa.symm.trans (PySem.W.mg_of X G a54)
  cases e
  obtain ⟨_, F0⟩ := fun_of FI0 c0
  have b0 := F0.binds (ps := ["value"]) fun _ _ _ _ _ _ us hl => match us, hl with | [_], _ => rfl
  obtain ⟨_, F1⟩ := fun_of FI1 c1
  have b1 := F1.binds (ps := ["value", "limit"]) fun _ _ _ _ _ _ us hl => match us, hl with | [_, _], _ => rfl
  obtain ⟨_, F2⟩ := fun_of FI2 c2
  have b2 := F2.binds (ps := ["widths"]) fun _ _ _ _ _ _ us hl => match us, hl with | [_], _ => rfl
  obtain ⟨_, F3⟩ := fun_of FI3 c3
  have b3 := F3.binds (ps := ["outcomes"]) fun _ _ _ _ _ _ us hl => match us, hl with | [_], _ => rfl
  obtain ⟨_, F4⟩ := fun_of FI4 c4
  have b4 := F4.binds (ps := ["widths", "place"]) fun _ _ _ _ _ _ us hl => match us, hl with | [_, _], _ => rfl
  obtain ⟨_, F5⟩ := fun_of FI5 c5
  have b5 := F5.binds (ps := ["term"]) fun _ _ _ _ _ _ us hl => match us, hl with | [_], _ => rfl
  obtain ⟨_, F6⟩ := fun_of FI6 c6
  have b6 := F6.binds (ps := ["widths"]) fun _ _ _ _ _ _ us hl => match us, hl with | [_], _ => rfl
  obtain ⟨_, F7⟩ := fun_of FI7 c7
  have b7 := F7.binds (ps := ["widths", "outcomes"]) fun _ _ _ _ _ _ us hl => match us, hl with | [_, _], _ => rfl
  obtain ⟨_, F8⟩ := fun_of FI8 c8
  have b8 := F8.binds (ps := ["term", "widths", "level"]) fun _ _ _ _ _ _ us hl => match us, hl with | [_, _, _], _ => rfl
  obtain ⟨_, F9⟩ := fun_of FI9 c9
  have b9 := F9.binds (ps := ["term", "widths", "outcomes", "level"]) fun _ _ _ _ _ _ us hl => match us, hl with | [_, _, _, _], _ => rfl
  obtain ⟨_, F10⟩ := fun_of FI10 c10
  have b10 := F10.binds (ps := ["term"]) fun _ _ _ _ _ _ us hl => match us, hl with | [_], _ => rfl
  obtain ⟨_, F11⟩ := fun_of FI11 c11
  have b11 := F11.binds (ps := ["places", "widths"]) fun _ _ _ _ _ _ us hl => match us, hl with | [_, _], _ => rfl
  obtain ⟨_, F12⟩ := fun_of FI12 c12
  have b12 := F12.binds (ps := ["term", "place", "option"]) fun _ _ _ _ _ _ us hl => match us, hl with | [_, _, _], _ => rfl
  obtain ⟨_, F13⟩ := fun_of FI13 c13
  have b13 := F13.binds (ps := ["self", "term", "widths", "outcomes"]) fun _ _ _ _ _ _ us hl => match us, hl with | [_, _, _, _], _ => rfl
  obtain ⟨_, F14⟩ := fun_of FI14 c14
  have b14 := F14.binds (ps := ["widths", "index"]) fun _ _ _ _ _ _ us hl => match us, hl with | [_, _], _ => rfl
  obtain ⟨_, F15⟩ := fun_of FI15 c15
  have b15 := F15.binds (ps := ["widths", "choice"]) fun _ _ _ _ _ _ us hl => match us, hl with | [_, _], _ => rfl
  obtain ⟨_, F16⟩ := fun_of FI16 c16
  have b16 := F16.binds (ps := ["sizes", "option"]) fun _ _ _ _ _ _ us hl => match us, hl with | [_, _], _ => rfl
  obtain ⟨_, F17⟩ := fun_of FI17 c17
  have b17 := F17.binds (ps := ["sizes", "pair"]) fun _ _ _ _ _ _ us hl => match us, hl with | [_, _], _ => rfl
  obtain ⟨_, F18⟩ := fun_of FI18 c18
  have b18 := F18.binds (ps := ["term", "widths"]) fun _ _ _ _ _ _ us hl => match us, hl with | [_, _], _ => rfl
  obtain ⟨_, F19⟩ := fun_of FI19 c19
  have b19 := F19.binds (ps := ["query"]) fun _ _ _ _ _ _ us hl => match us, hl with | [_], _ => rfl
  obtain ⟨_, F20⟩ := fun_of FI20 c20
  have b20 := F20.binds (ps := ["term"]) fun _ _ _ _ _ _ us hl => match us, hl with | [_], _ => rfl
  obtain ⟨_, F21⟩ := fun_of FI21 c21
  have b21 := F21.binds (ps := ["query"]) fun _ _ _ _ _ _ us hl => match us, hl with | [_], _ => rfl
  obtain ⟨_, F22⟩ := fun_of FI22 c22
  have b22 := F22.binds (ps := ["query", "outcome"]) fun _ _ _ _ _ _ us hl => match us, hl with | [_, _], _ => rfl
  obtain ⟨_, F23⟩ := fun_of FI23 c23
  have b23 := F23.binds (ps := ["widths", "start", "end"]) fun _ _ _ _ _ _ us hl => match us, hl with | [_, _, _], _ => rfl
  obtain ⟨_, F24⟩ := fun_of FI24 c24
  have b24 := F24.binds (ps := ["query", "term", "start", "reach"]) fun _ _ _ _ _ _ us hl => match us, hl with | [_, _, _, _], _ => rfl
  obtain ⟨_, F25⟩ := fun_of FI25 c25
  have b25 := F25.binds (ps := ["query", "term", "start", "reach"]) fun _ _ _ _ _ _ us hl => match us, hl with | [_, _, _, _], _ => rfl
  obtain ⟨_, F26⟩ := fun_of FI26 c26
  have b26 := F26.binds (ps := ["query", "term", "reach", "outcome"]) fun _ _ _ _ _ _ us hl => match us, hl with | [_, _, _, _], _ => rfl
  obtain ⟨_, F27⟩ := fun_of FI27 c27
  have b27 := F27.binds (ps := ["query"]) fun _ _ _ _ _ _ us hl => match us, hl with | [_], _ => rfl
  obtain ⟨_, F28⟩ := fun_of FI28 c28
  have b28 := F28.binds (ps := ["query", "outcome", "index"]) fun _ _ _ _ _ _ us hl => match us, hl with | [_, _, _], _ => rfl
  obtain ⟨_, F29⟩ := fun_of FI29 c29
  have b29 := F29.binds (ps := ["query", "term", "reach", "head", "start"]) fun _ _ _ _ _ _ us hl => match us, hl with | [_, _, _, _, _], _ => rfl
  obtain ⟨_, F30⟩ := fun_of FI30 c30
  have b30 := F30.binds (ps := ["query", "head"]) fun _ _ _ _ _ _ us hl => match us, hl with | [_, _], _ => rfl
  obtain ⟨_, F31⟩ := fun_of FI31 c31
  have b31 := F31.binds (ps := ["_law_script"]) fun _ _ _ _ _ _ us hl => match us, hl with | [_], _ => rfl
  obtain ⟨_, F32⟩ := fun_of FI32 c32
  have b32 := F32.binds (ps := ["_law_state", "_law_limit"]) fun _ _ _ _ _ _ us hl => match us, hl with | [_, _], _ => rfl
  obtain ⟨_, F33⟩ := fun_of FI33 c33
  have b33 := F33.binds (ps := ["_law_actual", "_law_due"]) fun _ _ _ _ _ _ us hl => match us, hl with | [_, _], _ => rfl
  obtain ⟨_, F34⟩ := fun_of FI34 c34
  have b34 := F34.binds (ps := ["_law_widths_here", "_law_place"]) fun _ _ _ _ _ _ us hl => match us, hl with | [_, _], _ => rfl
  obtain ⟨_, F35⟩ := fun_of FI35 c35
  have b35 := F35.binds (ps := ["_law_state"]) fun _ _ _ _ _ _ us hl => match us, hl with | [_], _ => rfl
  obtain ⟨_, F36⟩ := fun_of FI36 c36
  have b36 := F36.binds (ps := ["_law_state", "_law_widths_here", "_law_count", "_law_most"]) fun _ _ _ _ _ _ us hl => match us, hl with | [_, _, _, _], _ => rfl
  obtain ⟨_, F37⟩ := fun_of FI37 c37
  have b37 := F37.binds (ps := ["_law_state", "_law_size", "_law_places", "_law_levels"]) fun _ _ _ _ _ _ us hl => match us, hl with | [_, _, _, _], _ => rfl
  obtain ⟨_, F38⟩ := fun_of FI38 c38
  have b38 := F38.binds (ps := ["_law_state", "_law_places"]) fun _ _ _ _ _ _ us hl => match us, hl with | [_, _], _ => rfl
  obtain ⟨_, F39⟩ := fun_of FI39 c39
  have b39 := F39.binds (ps := ["_law_state", "_law_size", "_law_order", "_law_marked", "_law_total"]) fun _ _ _ _ _ _ us hl => match us, hl with | [_, _, _, _, _], _ => rfl
  obtain ⟨_, F40⟩ := fun_of FI40 c40
  have b40 := F40.binds (ps := ["_law_heads_here", "_law_options"]) fun _ _ _ _ _ _ us hl => match us, hl with | [_, _], _ => rfl
  obtain ⟨_, F41⟩ := fun_of FI41 c41
  have b41 := F41.binds (ps := ["_law_widths_here", "_law_places"]) fun _ _ _ _ _ _ us hl => match us, hl with | [_, _], _ => rfl
  obtain ⟨_, F42⟩ := fun_of FI42 c42
  have b42 := F42.binds (ps := ["_law_term", "_law_places", "_law_head"]) fun _ _ _ _ _ _ us hl => match us, hl with | [_, _, _], _ => rfl
  obtain ⟨_, F43⟩ := fun_of FI43 c43
  have b43 := F43.binds (ps := ["_law_state", "_law_size", "_law_places"]) fun _ _ _ _ _ _ us hl => match us, hl with | [_, _, _], _ => rfl
  obtain ⟨_, F44⟩ := fun_of FI44 c44
  have b44 := F44.binds (ps := ["_law_widths_here", "_law_places", "_law_told"]) fun _ _ _ _ _ _ us hl => match us, hl with | [_, _, _], _ => rfl
  obtain ⟨_, F45⟩ := fun_of FI45 c45
  have b45 := F45.binds (ps := ["_law_term", "_law_widths_here", "_law_places"]) fun _ _ _ _ _ _ us hl => match us, hl with | [_, _, _], _ => rfl
  obtain ⟨_, F46⟩ := fun_of FI46 c46
  have b46 := F46.binds (ps := ["_law_model_here", "_law_head"]) fun _ _ _ _ _ _ us hl => match us, hl with | [_, _], _ => rfl
  obtain ⟨_, F47⟩ := fun_of FI47 c47
  have b47 := F47.binds (ps := ["_law_model_here", "_law_head", "_law_outcome_here"]) fun _ _ _ _ _ _ us hl => match us, hl with | [_, _, _], _ => rfl
  obtain ⟨_, F48⟩ := fun_of FI48 c48
  have b48 := F48.binds (ps := ["_law_model_here", "_law_head"]) fun _ _ _ _ _ _ us hl => match us, hl with | [_, _], _ => rfl
  obtain ⟨_, F49⟩ := fun_of FI49 c49
  have b49 := F49.binds (ps := ["_law_state", "_law_limit"]) fun _ _ _ _ _ _ us hl => match us, hl with | [_, _], _ => rfl
  obtain ⟨_, F50⟩ := fun_of FI50 c50
  have b50 := F50.binds (ps := ["_law_how", "_law_query", "_law_outcome_here", "_law_index", "_law_head"]) fun _ _ _ _ _ _ us hl => match us, hl with | [_, _, _, _, _], _ => rfl
  obtain ⟨_, F51⟩ := fun_of FI51 c51
  have b51 := F51.binds (ps := ["_law_how", "_law_query", "_law_outcome_here", "_law_index", "_law_head"]) fun _ _ _ _ _ _ us hl => match us, hl with | [_, _, _, _, _], _ => rfl
  obtain ⟨_, F52⟩ := fun_of FI52 c52
  have b52 := F52.binds (ps := ["_law_state", "_law_query", "_law_model_here", "_law_outcomes"]) fun _ _ _ _ _ _ us hl => match us, hl with | [_, _, _, _], _ => rfl
  obtain ⟨_, F53⟩ := fun_of FI53 c53
  have b53 := F53.binds (ps := ["_law_state", "_law_query", "_law_model_here"]) fun _ _ _ _ _ _ us hl => match us, hl with | [_, _, _], _ => rfl
  obtain ⟨fdl_, F54⟩ := fun_of FI54 c54
  have b54 := F54.binds (ps := ["_law_script"]) fun _ _ _ _ _ _ us hl => match us, hl with | [_], _ => rfl
  obtain ⟨_, _, _, _, _, _, _, _, _, cc_InvalidQuery, li_InvalidQuery, cdi_InvalidQuery, cell_InvalidQuery, code_InvalidQuery⟩ := init_of I_InvalidQuery ini_InvalidQuery
  have ox_InvalidQuery : OexC K c_InvalidQuery := ⟨ob_InvalidQuery, sa_InvalidQuery, e_InvalidQuery, t_InvalidQuery, kc_InvalidQuery⟩
  have su_InvalidQuery : SupC K c_InvalidQuery c_InvalidTerm cc_InvalidQuery fi_InvalidQuery _ fileP := ⟨ox_InvalidQuery, cell_InvalidQuery, own_InvalidQuery, sb_InvalidQuery, ve_InvalidQuery, opq_, sup_InvalidQuery, code_InvalidQuery⟩
  have bl_ : ∀ (s : Shared) (v : Value), BindsTo s fdl_ ⟨[v], []⟩ [("_law_script", v)] := fun s v => by
    obtain ⟨⟨_, _, _, _, _, _, _, _, _, e, _, _⟩, _⟩ := F54
    rw [e]
    exact .of_eq rfl
  exact ⟨_, bl_, fun base _ _ => ok_law (⟨f0, _, F0, PySem.W.mg_of X G a0, b0,
    f1, _, F1, PySem.W.mg_of X G a1, b1,
    f2, _, F2, PySem.W.mg_of X G a2, b2,
    f3, _, F3, PySem.W.mg_of X G a3, b3,
    f4, _, F4, PySem.W.mg_of X G a4, b4,
    f5, _, F5, PySem.W.mg_of X G a5, b5,
    f6, _, F6, PySem.W.mg_of X G a6, b6,
    f7, _, F7, PySem.W.mg_of X G a7, b7,
    f8, _, F8, PySem.W.mg_of X G a8, b8,
    f9, _, F9, PySem.W.mg_of X G a9, b9,
    f10, _, F10, PySem.W.mg_of X G a10, b10,
    f11, _, F11, PySem.W.mg_of X G a11, b11,
    f12, _, F12, PySem.W.mg_of X G a12, b12,
    f13, _, F13, b13,
    f14, _, F14, PySem.W.mg_of X G a14, b14,
    f15, _, F15, PySem.W.mg_of X G a15, b15,
    f16, _, F16, PySem.W.mg_of X G a16, b16,
    f17, _, F17, PySem.W.mg_of X G a17, b17,
    f18, _, F18, PySem.W.mg_of X G a18, b18,
    f19, _, F19, PySem.W.mg_of X G a19, b19,
    f20, _, F20, PySem.W.mg_of X G a20, b20,
    f21, _, F21, PySem.W.mg_of X G a21, b21,
    f22, _, F22, PySem.W.mg_of X G a22, b22,
    f23, _, F23, PySem.W.mg_of X G a23, b23,
    f24, _, F24, PySem.W.mg_of X G a24, b24,
    f25, _, F25, PySem.W.mg_of X G a25, b25,
    f26, _, F26, PySem.W.mg_of X G a26, b26,
    f27, _, F27, PySem.W.mg_of X G a27, b27,
    f28, _, F28, PySem.W.mg_of X G a28, b28,
    f29, _, F29, PySem.W.mg_of X G a29, b29,
    f30, _, F30, PySem.W.mg_of X G a30, b30,
    f31, _, F31, PySem.W.mg_of X G a31, b31,
    f32, _, F32, PySem.W.mg_of X G a32, b32,
    f33, _, F33, PySem.W.mg_of X G a33, b33,
    f34, _, F34, PySem.W.mg_of X G a34, b34,
    f35, _, F35, PySem.W.mg_of X G a35, b35,
    f36, _, F36, PySem.W.mg_of X G a36, b36,
    f37, _, F37, PySem.W.mg_of X G a37, b37,
    f38, _, F38, PySem.W.mg_of X G a38, b38,
    f39, _, F39, PySem.W.mg_of X G a39, b39,
    f40, _, F40, PySem.W.mg_of X G a40, b40,
    f41, _, F41, PySem.W.mg_of X G a41, b41,
    f42, _, F42, PySem.W.mg_of X G a42, b42,
    f43, _, F43, PySem.W.mg_of X G a43, b43,
    f44, _, F44, PySem.W.mg_of X G a44, b44,
    f45, _, F45, PySem.W.mg_of X G a45, b45,
    f46, _, F46, PySem.W.mg_of X G a46, b46,
    f47, _, F47, PySem.W.mg_of X G a47, b47,
    f48, _, F48, PySem.W.mg_of X G a48, b48,
    f49, _, F49, PySem.W.mg_of X G a49, b49,
    f50, _, F50, PySem.W.mg_of X G a50, b50,
    f51, _, F51, PySem.W.mg_of X G a51, b51,
    f52, _, F52, PySem.W.mg_of X G a52, b52,
    f53, _, F53, PySem.W.mg_of X G a53, b53,
    fa, _, F54, PySem.W.mg_of X G a54, b54,
    PySem.W.mg_none_of X G z_isinstance,
    PySem.W.mg_none_of X G z_int,
    PySem.W.mg_none_of X G z_bool,
    PySem.W.mg_none_of X G z_all,
    PySem.W.mg_none_of X G z_str,
    PySem.W.mg_none_of X G z_len,
    PySem.W.mg_none_of X G z_enumerate,
    PySem.W.mg_none_of X G z_tuple,
    PySem.W.mg_none_of X G z_divmod,
    PySem.W.mg_none_of X G z_zip,
    PySem.W.mg_none_of X G z_sorted,
    PySem.W.mg_none_of X G z_set,
    PySem.W.mg_none_of X G z_sum,
    PySem.W.mg_none_of X G z_min,
    PySem.W.mg_none_of X G z_range,
    PySem.W.mg_none_of X G z_max,
    PySem.W.mg_none_of X G z_list,
    PySem.W.mg_none_of X G z_any,
    PySem.W.mg_none_of X G z_ValueError,
    ⟨_, PySem.W.mg_of X G gc_LETTERS⟩,
    ⟨_, PySem.W.mg_of X G gc_DIGITS⟩,
    ⟨_, PySem.W.mg_of X G gc_LONGEST_WORD⟩,
    ⟨_, PySem.W.mg_of X G gc_LONGEST_NUMBER⟩,
    ⟨_, PySem.W.mg_of X G gc_NUMBERS_END⟩,
    ⟨_, PySem.W.mg_of X G gc_DEEPEST_TUPLE⟩,
    ⟨_, PySem.W.mg_of X G gc_MOST_OUTCOMES⟩,
    ⟨_, PySem.W.mg_of X G gc_MOST_WIDTHS⟩,
    ⟨_, PySem.W.mg_of X G gc_WIDEST⟩,
    ⟨_, PySem.W.mg_of X G gc_PLACES⟩,
    ⟨_, PySem.W.mg_of X G gc_ITEMS_BEFORE⟩,
    ⟨_, PySem.W.mg_of X G gc_TWO_OUTCOMES⟩,
    c_OutOfRange, PySem.W.mg_of X G g_OutOfRange,
    c_TooLarge, PySem.W.mg_of X G g_TooLarge,
    c_InvalidQuery, PySem.W.mg_of X G g_InvalidQuery,
    c_SizeMismatch, PySem.W.mg_of X G g_SizeMismatch,
    c_InvalidPlan, PySem.W.mg_of X G g_InvalidPlan,
    c_InvalidTerm, PySem.W.mg_of X G g_InvalidTerm,
    c_ChoosersError, PySem.W.mg_of X G g_ChoosersError,
    fi_InvalidQuery, _, ox_InvalidQuery, ic_InvalidQuery, ti_InvalidQuery, no_InvalidQuery, ⟨hg_InvalidQuery, hk_InvalidQuery, e_InvalidQuery, hd_InvalidQuery⟩, ⟨hg_InvalidQuery, hk_InvalidQuery, e_InvalidQuery, hd_InvalidQuery, ha_InvalidQuery, hn_, ht_, hm_InvalidQuery⟩, okinit_InvalidTerm li_InvalidQuery cdi_InvalidQuery su_InvalidQuery hP htop_ (PySem.W.mg_none_of X G z_super), Binds.all fun us hl => match us, hl with | [_, _], _ => rfl,
    kit_refS s_InvalidQuery_InvalidQuery q_SizeMismatch t_SizeMismatch s_InvalidQuery_SizeMismatch,
    kit_refS s_InvalidQuery_InvalidQuery q_TooLarge t_TooLarge s_InvalidQuery_TooLarge,
    kit_refS s_InvalidQuery_InvalidQuery q_InvalidPlan t_InvalidPlan s_InvalidQuery_InvalidPlan,
    kit_refS s_InvalidQuery_InvalidQuery q_InvalidTerm t_InvalidTerm s_InvalidQuery_InvalidTerm,
    kit_tyS rfl s_InvalidQuery_ValueError,
    kit_refS s_InvalidQuery_InvalidQuery q_OutOfRange t_OutOfRange s_InvalidQuery_OutOfRange,
    PySem.W.exm_ref e_ChoosersError hd_ChoosersError t_ChoosersError s_InvalidQuery_ChoosersError,
    x_OutOfRange, kc_OutOfRange, e_OutOfRange, t_OutOfRange, ⟨hg_OutOfRange, hk_OutOfRange, e_OutOfRange, hd_OutOfRange, ha_OutOfRange, hn_, ht_, hm_OutOfRange⟩,
    kit_refS s_OutOfRange_OutOfRange q_SizeMismatch t_SizeMismatch s_OutOfRange_SizeMismatch,
    kit_refS s_OutOfRange_OutOfRange q_TooLarge t_TooLarge s_OutOfRange_TooLarge,
    kit_refS s_OutOfRange_OutOfRange q_InvalidPlan t_InvalidPlan s_OutOfRange_InvalidPlan,
    kit_refS s_OutOfRange_OutOfRange q_InvalidTerm t_InvalidTerm s_OutOfRange_InvalidTerm,
    kit_tyS rfl s_OutOfRange_ValueError,
    kit_refS s_OutOfRange_OutOfRange q_OutOfRange t_OutOfRange s_OutOfRange_OutOfRange,
    PySem.W.exm_ref e_ChoosersError hd_ChoosersError t_ChoosersError s_OutOfRange_ChoosersError,
    x_TooLarge, kc_TooLarge, e_TooLarge, t_TooLarge, ⟨hg_TooLarge, hk_TooLarge, e_TooLarge, hd_TooLarge, ha_TooLarge, hn_, ht_, hm_TooLarge⟩,
    kit_refS s_TooLarge_TooLarge q_SizeMismatch t_SizeMismatch s_TooLarge_SizeMismatch,
    kit_refS s_TooLarge_TooLarge q_TooLarge t_TooLarge s_TooLarge_TooLarge,
    kit_refS s_TooLarge_TooLarge q_InvalidPlan t_InvalidPlan s_TooLarge_InvalidPlan,
    kit_refS s_TooLarge_TooLarge q_InvalidTerm t_InvalidTerm s_TooLarge_InvalidTerm,
    kit_tyS rfl s_TooLarge_ValueError,
    kit_refS s_TooLarge_TooLarge q_OutOfRange t_OutOfRange s_TooLarge_OutOfRange,
    PySem.W.exm_ref e_ChoosersError hd_ChoosersError t_ChoosersError s_TooLarge_ChoosersError,
    c_Query, PySem.W.mg_of X G g_Query, ⟨mk_Query, a13, i13, kcc_Query⟩, ⟨pg_Query, hdc_Query, po_Query, sac_Query⟩,
    na_Query_term,
    na_Query_widths,
    na_Query_outcomes,
    .type "type", ⟨rdc_Query, rga_Query⟩,
    ⟨_, cv_Query_MOST_LEVELS, ⟨_, rfl⟩⟩,
    ⟨_, cv_Query_MOST_LOOKS, ⟨_, rfl⟩⟩,
    ⟨_, cv_Query_MOST_CHOICES, ⟨_, rfl⟩⟩⟩ : Txt P w K mg)⟩
theorem sp_law_of {K : Fg} {H : Hp} {a : Addr} {ns : List Int} (hl : ns.length ≤ 63) (hS : SqL K H a (ns.map V.int)) : spOf K c_law [.ref a] H (fun v _ => v = .bl true) fun _ _ _ => False :=
  ⟨fun _ => none, [.scr ns], fun d _ => d = .bl true, fun _ _ => False, (fun _ _ z => nomatch z), .scr (hS.elim (fun q => .inl ⟨q, .of rfl⟩) fun q => .inr q) .nil, ⟨ns, rfl, hl, rfl⟩, fun v H' d μ' _ _ r e => by subst e; exact Rep.bl_inv r, fun _ _ _ _ _ _ _ _ z => z⟩
theorem facts {w : World} {K : PySem.W.Frag} {h : Heap} {mg : Str → Option Value} {fa : Addr} (X : K.In h) (G : h.Ns mainGlobals mg) (hfa : mg "law" = some (.ref fa)) (hc : ckA K = true) (hv : (atsA.map fun f => fnI K (f K)) = valsA) (hd : (dsA.map fun f => He.dicW K (f K)) = kysA.map fun k => some (He.keysIn w.params k)) :
    ∃ fd : FuncData, (∀ (s : Shared) (v : Value), BindsTo s fd ⟨[v], []⟩ [("_law_script", v)]) ∧ ∀ base : Heap, K.In base → base.Ns mainGlobals mg → FnOk (PySem.Challenge.rw_choosersrow_k43_heads_counted_and_number).prog w K mg base (L2N.CX (PySem.Challenge.rw_choosersrow_k43_heads_counted_and_number).prog w) 70 fa fd ["_law_script"] (spOf K c_law) := by
  obtain ⟨h0_, hc⟩ := He.ba hc
  obtain ⟨h1_, hc⟩ := He.ba hc
  obtain ⟨h2_, hc⟩ := He.ba hc
  obtain ⟨h3_, hc⟩ := He.ba hc
  obtain ⟨h4_, hc⟩ := He.ba hc
  obtain ⟨h5_, hc⟩ := He.ba hc
  obtain ⟨h6_, hc⟩ := He.ba hc
  obtain ⟨h7_, hc⟩ := He.ba hc
  obtain ⟨h8_, hc⟩ := He.ba hc
  obtain ⟨h9_, hc⟩ := He.ba hc
  obtain ⟨h10_, hc⟩ := He.ba hc
  have h11_ := hc
  exact all_mk X G hfa (by kernel_rfl) (by kernel_rfl) (fn_at hv 0) (fn_at hv 1) (fn_at hv 2) (fn_at hv 3) (fn_at hv 4) (fn_at hv 5) (fn_at hv 6) (fn_at hv 7) (fn_at hv 8) (fn_at hv 9) (fn_at hv 10) (fn_at hv 11) (fn_at hv 12) (fn_at hv 13) (fn_at hv 14) (fn_at hv 15) (fn_at hv 16) (fn_at hv 17) (fn_at hv 18) (fn_at hv 19) (fn_at hv 20) (fn_at hv 21) (fn_at hv 22) (fn_at hv 23) (fn_at hv 24) (fn_at hv 25) (fn_at hv 26) (fn_at hv 27) (fn_at hv 28) (fn_at hv 29) (fn_at hv 30) (fn_at hv 31) (fn_at hv 32) (fn_at hv 33) (fn_at hv 34) (fn_at hv 35) (fn_at hv 36) (fn_at hv 37) (fn_at hv 38) (fn_at hv 39) (fn_at hv 40) (fn_at hv 41) (fn_at hv 42) (fn_at hv 43) (fn_at hv 44) (fn_at hv 45) (fn_at hv 46) (fn_at hv 47) (fn_at hv 48) (fn_at hv 49) (fn_at hv 50) (fn_at hv 51) (fn_at hv 52) (fn_at hv 53) (fn_at hv 54) (fn_at hv 55) h0_ h1_ h2_ h3_ h4_ h5_ h6_ h7_ h8_ h9_ h10_ h11_
end LW
open PySem PySem.W PySem.Calls PyProof.Rows in
set_option maxRecDepth 100000 in
set_option maxHeartbeats 0 in
theorem PySem.Challenge.cw_choosersrow_k43_heads_counted_and_number_holds : PySem.Challenge.rw_choosersrow_k43_heads_counted_and_number.Holds := by
  w_on; o_law
  refine HandSHeadRun.head_any (r := OpenLaw.row PySem.Challenge.rw_choosersrow_k43_heads_counted_and_number) (q := view (OpenLaw.row PySem.Challenge.rw_choosersrow_k43_heads_counted_and_number).prog [97]) (H := LW.hkA) (ob := LW.obA) (M := 20000) (loose := LW.namesA) (d := HandSHeadRun.topDef (OpenLaw.row PySem.Challenge.rw_choosersrow_k43_heads_counted_and_number).prog 97) (kwd := []) LW.obA_eq
    (by kernel_rfl) (fun s => by kernel_rfl) LW.runA (by kernel_rfl) (by kernel_rfl) (by kernel_rfl) (by rfl) (by first | assumption | decide +kernel) (by decide +kernel) ⟨rfl, rfl, rfl, rfl, rfl, by decide +kernel⟩ ?hw ?hc
  case hw => w_witness2
  case hc =>
    refine HX.walk_of (l := PySem.Challenge.rw_choosersrow_k43_heads_counted_and_number) (n := 63) (k := 70) (x := "_law_script") (CX := fun w => L2N.CX (PySem.Challenge.rw_choosersrow_k43_heads_counted_and_number).prog w) rfl (by decide) (by kernel_rfl) ⟨rfl, by decide, by decide⟩ ?F (fun _ _ _ _ _ h => by
      obtain ⟨_, _, _, _, _, _, _, _, _, _, _, _, z⟩ := h
      exact z)
    intro w mg fa h Y G hmg0
    obtain ⟨K, KX, hc, hv, hd⟩ := Y
    have hmg : mg ("law" : PySem.Str) = some (.ref fa) := by
      have e : (HandSHeadRun.topDef (OpenLaw.row PySem.Challenge.rw_choosersrow_k43_heads_counted_and_number).prog 97).name = ("law" : PySem.Str) := by kernel_rfl
      rw [← e]
      exact hmg0
    obtain ⟨fd, hb, hF⟩ := LW.facts (w := w) KX G hmg hc hv hd
    exact ⟨K, fd, DW.spOf K LW.c_law, KX, hb, fun H a ns hl _ hS => LW.sp_law_of hl hS, hF⟩
