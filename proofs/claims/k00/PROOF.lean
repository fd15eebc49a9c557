import PyProof.Rows.All
import HandS.ForMost
import HandS.ForExc
import HandS.EndBits
import HandS.Wide
import HandS.WideBits
import HandS.TupAny
import HandS.TupMul
import HandS.Zip
import HandS.IsInst
import HandS.ExcIs
import HandS.Flow
import HandS.Strs
import HandS.Conv
import HandS.Style
import HandS.GenList
import HandS.ExcCtx
import HandS.Hot
import HandS.HotCalls
import HandS.WordsExc
import HandS.Text
import HandS.RaiseMore
import KE.GoesEnumKw
import HandS.Nested
import HandS.ExcInit
import KE.KSuper
import KE.KExcSuper
import HandS.ExcField
import KE.KExcIs
import HandS.FStr
import HandS.FStrTup
import PyProof.ListStr
import KE.IntTextLaws
import PySem.Challenge.RW_choosersrow_k00_term_texts
import Open.SpecLaws
import KE.OsGo
import KE.RegKSuper
set_option Elab.async false
set_option linter.all false
set_option maxRecDepth 100000
/-! Data readings: what a program does to plain data, over the hand layer's readings. -/
namespace DW
open PySem PySem.Spec L2
abbrev Fg := PySem.W.Frag
/-- plain data: what a value stands for; hd: a value taken as it is (a handle, a def, a type) -/
inductive D where
  | non | bl (b : Bool) | int (i : Int) | str (x : Str)
  | tup (xs : List D) | lst (xs : List D)
  | obj (C : Addr) (ns : List Str) (ds : List D)
  | hd (v : V)
  | scr (ns : List Int)
/-- what stands at a handle's address: a list that may change, one that stands still, an instance in the making -/
inductive Cell where
  | lst (ds : List D) | frz (ds : List D) | ins (C : Addr) (ns : List Str) (ds : List D)
abbrev Sto := Addr → Option Cell
def sset (μ : Sto) (a : Addr) (c : Cell) : Sto := fun b => if b = a then some c else μ b
theorem sset_same {μ : Sto} {a : Addr} {c : Cell} : sset μ a c a = some c := by unfold sset; rw [if_pos rfl]
theorem sset_ne {μ : Sto} {a b : Addr} {c : Cell} (h : b ≠ a) : sset μ a c b = μ b := by unfold sset; rw [if_neg h]
theorem sset_sset {μ : Sto} {a : Addr} {c d : Cell} : sset (sset μ a c) a d = sset μ a d := by
  funext b; unfold sset; split <;> rfl
def still : Option Cell → Prop
  | some (.lst _) => False
  | some (.ins _ _ _) => False
  | _ => True
/-- nothing that may change stands at a -/
def NM (μ : Sto) (a : Addr) : Prop := still (μ a)
theorem NM.of {μ : Sto} {a : Addr} (h : μ a = none) : NM μ a := by unfold NM; rw [h]; exact trivial
theorem NM.frz {μ : Sto} {a : Addr} {ds : List D} (h : μ a = some (.frz ds)) : NM μ a := by unfold NM; rw [h]; exact trivial
theorem NM.notL {μ : Sto} {a : Addr} {ds : List D} (h : NM μ a) (q : μ a = some (.lst ds)) : False := by unfold NM at h; rw [q] at h; exact h
theorem NM.notI {μ : Sto} {a C : Addr} {ns : List Str} {ds : List D} (h : NM μ a) (q : μ a = some (.ins C ns ds)) : False := by unfold NM at h; rw [q] at h; exact h
def SqLw (K : Fg) (a : Addr) (xs : List V) : Prop :=
  ∃ (o : Obj) (its : Array Value) (n : Nat), K.lookup a = some o ∧ o.cls = .type "list" ∧ o.dict = none ∧ o.data = .seq its n ∧ its.size ≤ sizeLine ∧ Vals xs its.toList
def SqTw (K : Fg) (a : Addr) (xs : List V) : Prop :=
  ∃ (o : Obj) (its : Array Value) (n : Nat), K.lookup a = some o ∧ o.cls = .type "tuple" ∧ o.data = .seq its n ∧ its.size ≤ sizeLine ∧ Vals xs its.toList
def LstAt (μ : Sto) (H : Hp) (a : Addr) (xs : List V) : Prop := H a = some (.lst xs) ∧ NM μ a
def ScrAt (K : Fg) (μ : Sto) (H : Hp) (a : Addr) (xs : List V) : Prop := (Rd H a (.lst xs) ∧ NM μ a) ∨ SqLw K a xs
def TupAt (K : Fg) (μ : Sto) (H : Hp) (a : Addr) (xs : List V) : Prop := (Rd H a (.tup xs) ∧ NM μ a) ∨ SqTw K a xs
theorem LstAt.sq {K : Fg} {μ : Sto} {H : Hp} {a : Addr} {xs : List V} (h : LstAt μ H a xs) : SqL K H a xs := .inl (.inl h.1)
theorem ScrAt.sq {K : Fg} {μ : Sto} {H : Hp} {a : Addr} {xs : List V} (h : ScrAt K μ H a xs) : SqL K H a xs := h.elim (fun q => .inl q.1) fun q => .inr q
theorem TupAt.sq {K : Fg} {μ : Sto} {H : Hp} {a : Addr} {xs : List V} (h : TupAt K μ H a xs) : SqT K H a xs := h.elim (fun q => .inl q.1) fun q => .inr q
/-- what values stand for what data -/
inductive Reps (K : Fg) (μ : Sto) (H : Hp) : List V → List D → Prop
  | nil : Reps K μ H [] []
  | non {vs ds} : Reps K μ H vs ds → Reps K μ H (.non :: vs) (.non :: ds)
  | bl {vs ds} (b : Bool) : Reps K μ H vs ds → Reps K μ H (.bl b :: vs) (.bl b :: ds)
  | int {vs ds} (i : Int) : Reps K μ H vs ds → Reps K μ H (.int i :: vs) (.int i :: ds)
  | str {vs ds} (x : Str) : Reps K μ H vs ds → Reps K μ H (.str x :: vs) (.str x :: ds)
  | hd {vs ds} (v : V) : Reps K μ H vs ds → Reps K μ H (v :: vs) (.hd v :: ds)
  | tup {vs ds a us es} : TupAt K μ H a us → Reps K μ H us es → Reps K μ H vs ds → Reps K μ H (.ref a :: vs) (.tup es :: ds)
  | scr {vs ds a ns} : ScrAt K μ H a (ns.map V.int) → Reps K μ H vs ds → Reps K μ H (.ref a :: vs) (.scr ns :: ds)
  | lst {vs ds a us es} : LstAt μ H a us → Reps K μ H us es → Reps K μ H vs ds → Reps K μ H (.ref a :: vs) (.lst es :: ds)
  | obj {vs ds a C dx ns us es} : H a = some (.ins C dx (ns.zip us)) → NM μ a → us.length = ns.length → Reps K μ H us es → Reps K μ H vs ds → Reps K μ H (.ref a :: vs) (.obj C ns es :: ds)
abbrev Rep (K : Fg) (μ : Sto) (H : Hp) (v : V) (d : D) : Prop := Reps K μ H [v] [d]
section
variable {K : Fg} {μ μ' μ'' : Sto} {H H' H'' : Hp} {v w : V} {d e : D} {vs us : List V} {ds es : List D}
theorem Reps.length (h : Reps K μ H vs ds) : vs.length = ds.length := by
  induction h <;> simp_all
theorem Reps.split (h : Reps K μ H (v :: vs) (d :: ds)) : Rep K μ H v d ∧ Reps K μ H vs ds := by
  cases h with
  | non r => exact ⟨.non .nil, r⟩
  | bl b r => exact ⟨.bl b .nil, r⟩
  | int i r => exact ⟨.int i .nil, r⟩
  | str x r => exact ⟨.str x .nil, r⟩
  | hd v r => exact ⟨.hd v .nil, r⟩
  | tup h1 h2 r => exact ⟨.tup h1 h2 .nil, r⟩
  | lst h1 h2 r => exact ⟨.lst h1 h2 .nil, r⟩
  | scr h1 r => exact ⟨.scr h1 .nil, r⟩
  | obj h1 h2 h3 h4 r => exact ⟨.obj h1 h2 h3 h4 .nil, r⟩
theorem Reps.cons (h : Rep K μ H v d) (r : Reps K μ H vs ds) : Reps K μ H (v :: vs) (d :: ds) := by
  cases h with
  | non _ => exact .non r
  | bl b _ => exact .bl b r
  | int i _ => exact .int i r
  | str x _ => exact .str x r
  | hd v _ => exact .hd v r
  | tup h1 h2 _ => exact .tup h1 h2 r
  | lst h1 h2 _ => exact .lst h1 h2 r
  | scr h1 _ => exact .scr h1 r
  | obj h1 h2 h3 h4 _ => exact .obj h1 h2 h3 h4 r
theorem Reps.get (h : Reps K μ H vs ds) : ∀ {i : Nat} {d : D}, ds[i]? = some d → ∃ v, vs[i]? = some v ∧ Rep K μ H v d := by
  intro i
  induction i generalizing vs ds with
  | zero =>
    intro d e
    cases ds with
    | nil => cases e
    | cons x r =>
      cases vs with
      | nil => have := h.length; simp at this
      | cons v vs =>
        cases e
        exact ⟨v, rfl, h.split.1⟩
  | succ i ih =>
    intro d e
    cases ds with
    | nil => cases e
    | cons x r =>
      cases vs with
      | nil => have := h.length; simp at this
      | cons v vs => exact ih h.split.2 e
theorem Reps.getV (h : Reps K μ H vs ds) {i : Nat} {v : V} (e : vs[i]? = some v) : ∃ d, ds[i]? = some d ∧ Rep K μ H v d := by
  have hi : i < ds.length := by rw [← h.length]; exact (List.getElem?_eq_some_iff.mp e).1
  obtain ⟨v', e', r⟩ := h.get (List.getElem?_eq_getElem hi)
  rw [e] at e'
  cases e'
  exact ⟨_, List.getElem?_eq_getElem hi, r⟩
theorem Reps.append (h : Reps K μ H vs ds) (r : Reps K μ H us es) : Reps K μ H (vs ++ us) (ds ++ es) := by
  induction vs generalizing ds with
  | nil => cases h; exact r
  | cons v vs ih =>
    cases ds with
    | nil => have := h.length; simp at this
    | cons d ds => exact .cons h.split.1 (ih h.split.2)
theorem Reps.take (h : Reps K μ H vs ds) : ∀ n, Reps K μ H (vs.take n) (ds.take n) := by
  intro n
  induction n generalizing vs ds with
  | zero => exact .nil
  | succ n ih =>
    cases ds with
    | nil =>
      cases vs with
      | nil => exact .nil
      | cons v vs => have := h.length; simp at this
    | cons d ds =>
      cases vs with
      | nil => have := h.length; simp at this
      | cons v vs => exact .cons h.split.1 (ih h.split.2)
theorem Reps.drop (h : Reps K μ H vs ds) : ∀ n, Reps K μ H (vs.drop n) (ds.drop n) := by
  intro n
  induction n generalizing vs ds with
  | zero => exact h
  | succ n ih =>
    cases ds with
    | nil =>
      cases vs with
      | nil => exact .nil
      | cons v vs => have := h.length; simp at this
    | cons d ds =>
      cases vs with
      | nil => have := h.length; simp at this
      | cons v vs => exact ih h.split.2
theorem Reps.set (h : Reps K μ H vs ds) (r : Rep K μ H v d) : ∀ j, Reps K μ H (vs.set j v) (ds.set j d) := by
  intro j
  induction j generalizing vs ds with
  | zero =>
    cases ds with
    | nil =>
      cases vs with
      | nil => exact .nil
      | cons v vs => have := h.length; simp at this
    | cons d ds =>
      cases vs with
      | nil => have := h.length; simp at this
      | cons v vs => exact .cons r h.split.2
  | succ n ih =>
    cases ds with
    | nil =>
      cases vs with
      | nil => exact .nil
      | cons v vs => have := h.length; simp at this
    | cons d ds =>
      cases vs with
      | nil => have := h.length; simp at this
      | cons v vs => exact .cons h.split.1 (ih h.split.2)
theorem Reps.reverse (h : Reps K μ H vs ds) : Reps K μ H vs.reverse ds.reverse := by
  induction vs generalizing ds with
  | nil => cases h; exact .nil
  | cons v vs ih =>
    cases ds with
    | nil => have := h.length; simp at this
    | cons d ds =>
      rw [List.reverse_cons, List.reverse_cons]
      exact (ih h.split.2).append (.cons h.split.1 .nil)
/-- all that stands still there, stands still here; nothing is gone -/
structure Evo (μ : Sto) (H : Hp) (μ' : Sto) (H' : Hp) : Prop where
  st : ∀ b o, H b = some o → NM μ b → H' b = some o ∧ NM μ' b
  th : ∀ b, H' b = none → H b = none
theorem Evo.refl : Evo μ H μ H := ⟨fun _ _ h n => ⟨h, n⟩, fun _ h => h⟩
theorem Evo.trans (a : Evo μ H μ' H') (b : Evo μ' H' μ'' H'') : Evo μ H μ'' H'' := ⟨fun c o h n => b.st c o (a.st c o h n).1 (a.st c o h n).2, fun c h => a.th c (b.th c h)⟩
theorem Evo.rd {a : Addr} {u : HO} (e : Evo μ H μ' H') (h : Rd H a u) (n : NM μ a) : Rd H' a u ∧ NM μ' a := by
  rcases h with h | ⟨o, h⟩
  · exact ⟨.inl (e.st a _ h n).1, (e.st a _ h n).2⟩
  · exact ⟨.inr ⟨o, (e.st a _ h n).1⟩, (e.st a _ h n).2⟩
theorem LstAt.mono {a : Addr} {xs : List V} (e : Evo μ H μ' H') (h : LstAt μ H a xs) : LstAt μ' H' a xs := e.st _ _ h.1 h.2
theorem ScrAt.mono {a : Addr} {xs : List V} (e : Evo μ H μ' H') (h : ScrAt K μ H a xs) : ScrAt K μ' H' a xs := by
  rcases h with ⟨h, n⟩ | h
  · exact .inl (e.rd h n)
  · exact .inr h
theorem TupAt.mono {a : Addr} {xs : List V} (e : Evo μ H μ' H') (h : TupAt K μ H a xs) : TupAt K μ' H' a xs := by
  rcases h with ⟨h, n⟩ | h
  · exact .inl (e.rd h n)
  · exact .inr h
theorem Reps.mono (e : Evo μ H μ' H') (h : Reps K μ H vs ds) : Reps K μ' H' vs ds := by
  induction h with
  | nil => exact .nil
  | non _ i => exact .non i
  | bl b _ i => exact .bl b i
  | int b _ i => exact .int b i
  | str b _ i => exact .str b i
  | hd b _ i => exact .hd b i
  | tup h1 _ _ i1 i2 => exact .tup (h1.mono e) i1 i2
  | lst h1 _ _ i1 i2 => exact .lst (h1.mono e) i1 i2
  | scr h1 _ i1 => exact .scr (h1.mono e) i1
  | obj h1 h2 h3 _ _ i1 i2 => exact .obj (e.st _ _ h1 h2).1 (e.st _ _ h1 h2).2 h3 i1 i2
/-- what is said of the handles holds of the heap -/
def CellOk (K : Fg) (μ : Sto) (H : Hp) (a : Addr) : Cell → Prop
  | .lst ds => ∃ vs, H a = some (.lst vs) ∧ Reps K μ H vs ds
  | .frz ds => ∃ vs, H a = some (.lst vs) ∧ Reps K μ H vs ds
  | .ins C ns ds => ∃ dx us, H a = some (.ins C dx (ns.zip us)) ∧ us.length = ns.length ∧ Reps K μ H us ds
def StoOk (K : Fg) (μ : Sto) (H : Hp) : Prop := ∀ a c, μ a = some c → CellOk K μ H a c
theorem CellOk.there {a : Addr} {c : Cell} (h : CellOk K μ H a c) : ∃ o, H a = some o := by
  cases c with
  | lst ds => obtain ⟨_, e, _⟩ := h; exact ⟨_, e⟩
  | frz ds => obtain ⟨_, e, _⟩ := h; exact ⟨_, e⟩
  | ins C ns ds => obtain ⟨_, _, e, _⟩ := h; exact ⟨_, e⟩
theorem StoOk.fresh {p : Addr} (s : StoOk K μ H) (h : H p = none) : μ p = none := by
  cases e : μ p with
  | none => rfl
  | some c =>
    obtain ⟨o, q⟩ := (s p c e).there
    rw [h] at q
    cases q
theorem CellOk.mono {a : Addr} {c : Cell} (e : Evo μ H μ' H') (hs : ∀ o, H a = some o → H' a = some o) (h : CellOk K μ H a c) : CellOk K μ' H' a c := by
  cases c with
  | lst ds => obtain ⟨vs, q, r⟩ := h; exact ⟨vs, hs _ q, r.mono e⟩
  | frz ds => obtain ⟨vs, q, r⟩ := h; exact ⟨vs, hs _ q, r.mono e⟩
  | ins C ns ds => obtain ⟨dx, us, q, l, r⟩ := h; exact ⟨dx, us, hs _ q, l, r.mono e⟩
/-- a new object -/
theorem upd_th {p : Addr} {o : HO} {b : Addr} (h : upd H p o b = none) : H b = none := by
  by_cases e : b = p
  · subst e; rw [upd_same] at h; cases h
  · rw [upd_ne e] at h; exact h
theorem Evo.new {p : Addr} {o : HO} (h : H p = none) : Evo μ H μ (upd H p o) := ⟨fun b u e n => ⟨by rw [upd_ne (ne_of_none e h)]; exact e, n⟩, fun b q => upd_th q⟩
theorem StoOk.new {p : Addr} {o : HO} (s : StoOk K μ H) (h : H p = none) : StoOk K μ (upd H p o) := fun a c e =>
  (s a c e).mono (.new h) fun u q => by rw [upd_ne (ne_of_none q h)]; exact q
theorem NM.new {p : Addr} (s : StoOk K μ H) (h : H p = none) : NM μ p := .of (s.fresh h)
/-- a new object that has a cell -/
theorem Evo.newC {p : Addr} {o : HO} {c : Cell} (s : StoOk K μ H) (h : H p = none) : Evo μ H (sset μ p c) (upd H p o) := ⟨fun b u e n => by
  have hb : b ≠ p := ne_of_none e h
  refine ⟨by rw [upd_ne hb]; exact e, ?_⟩
  unfold NM
  rw [sset_ne hb]
  exact n, fun b q => upd_th q⟩
/-- the cell at p changes; nothing else does -/
theorem Evo.cell {p : Addr} {o : HO} {c c' : Cell} (hp : μ p = some c) (hn : ¬ NM μ p) : Evo μ H (sset μ p c') (upd H p o) := ⟨fun b u e n => by
  have hb : b ≠ p := fun q => hn (q ▸ n)
  refine ⟨by rw [upd_ne hb]; exact e, ?_⟩
  unfold NM
  rw [sset_ne hb]
  exact n, fun b q => upd_th q⟩
theorem StoOk.cell {p : Addr} {o : HO} {c' : Cell} (s : StoOk K μ H) (e : Evo μ H (sset μ p c') (upd H p o)) (h : CellOk K (sset μ p c') (upd H p o) p c') : StoOk K (sset μ p c') (upd H p o) := fun a x q => by
  by_cases ha : a = p
  · subst ha
    rw [sset_same] at q
    cases q
    exact h
  · rw [sset_ne ha] at q
    exact (s a x q).mono e fun u z => by rw [upd_ne ha]; exact z
/-- a list comes to rest -/
theorem Evo.rest {p : Addr} {ds : List D} (hp : μ p = some (.lst ds)) : Evo μ H (sset μ p (.frz ds)) H := ⟨fun b u e n => by
  have hb : b ≠ p := fun q => by subst q; exact n.notL hp
  refine ⟨e, ?_⟩
  unfold NM
  rw [sset_ne hb]
  exact n, fun _ q => q⟩
theorem StoOk.rest {p : Addr} {ds : List D} (s : StoOk K μ H) (hp : μ p = some (.lst ds)) : StoOk K (sset μ p (.frz ds)) H := fun a x q => by
  by_cases ha : a = p
  · subst ha
    rw [sset_same] at q
    cases q
    exact (s a _ hp).mono (.rest hp) fun _ z => z
  · rw [sset_ne ha] at q
    exact (s a x q).mono (.rest hp) fun _ z => z
/-- fewer cells -/
def Sub (μ μ' : Sto) : Prop := ∀ a c, μ a = some c → μ' a = some c
theorem Sub.refl : Sub μ μ := fun _ _ h => h
theorem Sub.trans (a : Sub μ μ') (b : Sub μ' μ'') : Sub μ μ'' := fun c x h => b c x (a c x h)
theorem Sub.set {p : Addr} {c : Cell} (s : Sub μ μ') (h : μ p = none) : Sub μ (sset μ' p c) := fun a x e => by
  have : a ≠ p := fun q => by subst q; rw [h] at e; cases e
  rw [sset_ne this]
  exact s a x e
theorem Sub.none {p : Addr} (s : Sub μ μ') (h : μ' p = none) : μ p = none := by
  cases e : μ p with
  | none => rfl
  | some c => rw [s p c e] at h; cases h
theorem Sub.nm {a : Addr} (s : Sub μ μ') (h : NM μ' a) : NM μ a := by
  unfold NM at h ⊢
  cases e : μ a with
  | none => exact trivial
  | some c => rw [s a c e] at h; exact h
theorem Sub.evo (s : Sub μ' μ) : Evo μ H μ' H := ⟨fun b o e n => ⟨e, s.nm n⟩, fun _ q => q⟩
/-- without the cell at p -/
def sdel (μ : Sto) (p : Addr) : Sto := fun b => if b = p then none else μ b
theorem sdel_sub {p : Addr} : Sub (sdel μ p) μ := fun a c e => by
  unfold sdel at e
  split at e
  · cases e
  · exact e
theorem sdel_sset {p : Addr} {c : Cell} (h : μ p = none) : sdel (sset μ p c) p = μ := by
  funext b; unfold sdel sset; by_cases e : b = p
  · subst e; rw [if_pos rfl, h]
  · rw [if_neg e, if_neg e]
theorem sdel_same {p : Addr} : sdel μ p p = none := by unfold sdel; rw [if_pos rfl]
/-- what the entry does not know may change -/
theorem Evo.mut {p : Addr} {o : HO} (e : Evo μ H μ' H') (h : H p = none) : Evo μ H μ' (upd H' p o) := ⟨fun b u q n => ⟨by rw [upd_ne (ne_of_none q h)]; exact (e.st b u q n).1, (e.st b u q n).2⟩, fun b q => e.th b (upd_th q)⟩
theorem Sub.sto (s : Sub μ' μ) (h : StoOk K μ H) : StoOk K μ' H := fun a c e => (h a c (s a c e)).mono s.evo fun _ z => z
/-- the names' values -/
abbrev DEnv := List (Option D)
structure EnvOk (K : Fg) (μ : Sto) (H : Hp) (σ : St) (δ : DEnv) : Prop where
  len : σ.length = δ.length
  at_ : ∀ (i : Nat) (d : D), δ[i]? = some (some d) → ∃ v, σ[i]? = some (some v) ∧ Rep K μ H v d
theorem EnvOk.mono {σ : St} {δ : DEnv} (e : Evo μ H μ' H') (h : EnvOk K μ H σ δ) : EnvOk K μ' H' σ δ := ⟨h.len, fun i d q => by
  obtain ⟨v, a, b⟩ := h.at_ i d q
  exact ⟨v, a, b.mono e⟩⟩
theorem EnvOk.set {σ : St} {δ : DEnv} (h : EnvOk K μ H σ δ) (r : Rep K μ H v d) (j : Nat) : EnvOk K μ H (σ.set j (some v)) (δ.set j (some d)) := ⟨by rw [List.length_set, List.length_set]; exact h.len, fun i x q => by
  rw [List.getElem?_set] at q
  rw [List.getElem?_set]
  by_cases hj : j = i
  · rw [if_pos hj] at q ⊢
    rw [h.len]
    by_cases hl : j < δ.length
    · rw [if_pos hl] at q ⊢
      cases q
      exact ⟨v, rfl, r⟩
    · rw [if_neg hl] at q
      cases q
  · rw [if_neg hj] at q ⊢
    exact h.at_ i x q⟩
/-- what is known where one stands -/
structure Sm (K : Fg) (H0 : Hp) (μ0 : Sto) (σ : St) (H : Hp) (δ : DEnv) (μ : Sto) : Prop where
  evo : Evo μ0 H0 μ H
  sto : StoOk K μ H
  env : EnvOk K μ H σ δ
theorem Sm.step {H0 : Hp} {μ0 : Sto} {σ : St} {δ : DEnv} (S : Sm K H0 μ0 σ H δ μ) (e : Evo μ H μ' H') (s : StoOk K μ' H') : Sm K H0 μ0 σ H' δ μ' := ⟨S.evo.trans e, s, S.env.mono e⟩
theorem Sm.set {H0 : Hp} {μ0 : Sto} {σ : St} {δ : DEnv} (S : Sm K H0 μ0 σ H δ μ) (r : Rep K μ H v d) (j : Nat) : Sm K H0 μ0 (σ.set j (some v)) H (δ.set j (some d)) μ := ⟨S.evo, S.sto, S.env.set r j⟩
end
end DW
set_option Elab.async false
set_option linter.all false
set_option maxRecDepth 100000
namespace DW
open PySem PySem.Spec L2
/-- an exception that is on its way: its class, its own fields -/
inductive XD where
  | mk (C : Addr) (fs : Option (List Str × List D))
abbrev XP := XD → DEnv → Sto → Prop
abbrev DK := D → Sto → Prop
def RepX (K : Fg) (μ : Sto) (H : Hp) (cls : Value) (dd : Option Addr) : XD → Prop
  | .mk C none => cls = .ref C ∧ dd = none
  | .mk C (some (ns, ds)) => cls = .ref C ∧ ∃ d us, dd = some d ∧ H d = some (.xd (ns.zip us)) ∧ NM μ d ∧ us.length = ns.length ∧ Reps K μ H us ds
/-- where a piece of code stands: the written part, the heap and the handles at the entry, what is wished of exceptions -/
structure Bx (K : Fg) where
  H0 : Hp
  μ0 : Sto
  W : WX
  Ψ : XP
  hW : ∀ cls dd σ H x δ μ, Sm K H0 μ0 σ H δ μ → RepX K μ H cls dd x → Ψ x δ μ → W cls dd σ H
/-- the same, from a later moment on -/
abbrev Bx.re {K : Fg} (B : Bx K) (H1 : Hp) (μ1 : Sto) (e : Evo B.μ0 B.H0 μ1 H1) : Bx K := ⟨H1, μ1, B.W, B.Ψ, fun cls dd σ H x δ μ S => B.hW cls dd σ H x δ μ ⟨e.trans S.evo, S.sto, S.env⟩⟩
abbrev DE := XP → DEnv → Sto → DK → Prop
abbrev DA := XP → DEnv → Sto → (List D → Sto → Prop) → Prop
abbrev DT := XP → DEnv → Sto → (Bool → Sto → Prop) → Prop
structure DEnds where
  nx : DEnv → Sto → Prop
  rt : D → Sto → Prop
  bk : DEnv → Sto → Prop
  ct : DEnv → Sto → Prop
abbrev DSt := XP → DEnds → DEnv → Sto → Prop
section
variable {K : Fg} (B : Bx K)
abbrev Bx.S {K : Fg} (B : Bx K) (σ : L2.St) (H : Hp) (δ : DEnv) (μ : Sto) : Prop := Sm K B.H0 B.μ0 σ H δ μ
/-- the reading te follows from the data's reading φ -/
def SE (te : TE) (φ : DE) : Prop := ∀ (σ : L2.St) (H : Hp) (δ : DEnv) (μ : Sto) (Φ : DK) (Q : VK), B.S σ H δ μ → φ B.Ψ δ μ Φ →
  (∀ v H' d μ', B.S σ H' δ μ' → Evo μ H μ' H' → Rep K μ' H' v d → Φ d μ' → Q v H') → te σ H Q
def SA (ta : TA) (φ : DA) : Prop := ∀ (σ : L2.St) (H : Hp) (δ : DEnv) (μ : Sto) (Φ : List D → Sto → Prop) (Q : List V → Hp → Prop), B.S σ H δ μ → φ B.Ψ δ μ Φ →
  (∀ vs H' ds μ', B.S σ H' δ μ' → Evo μ H μ' H' → Reps K μ' H' vs ds → Φ ds μ' → Q vs H') → ta σ H Q
def ST (tt : TT) (φ : DT) : Prop := ∀ (σ : L2.St) (H : Hp) (δ : DEnv) (μ : Sto) (Φ : Bool → Sto → Prop) (Q : Bool → Hp → Prop), B.S σ H δ μ → φ B.Ψ δ μ Φ →
  (∀ b H' μ', B.S σ H' δ μ' → Evo μ H μ' H' → Φ b μ' → Q b H') → tt σ H Q
structure EO (D : Ends) (Δ : DEnds) : Prop where
  nx : ∀ σ H δ μ, B.S σ H δ μ → Δ.nx δ μ → D.nx σ H
  rt : ∀ v H d μ σ δ, B.S σ H δ μ → Rep K μ H v d → Δ.rt d μ → D.rt v H
  bk : ∀ σ H δ μ, B.S σ H δ μ → Δ.bk δ μ → D.bk σ H
  ct : ∀ σ H δ μ, B.S σ H δ μ → Δ.ct δ μ → D.ct σ H
def SS (ts : TS) (φ : DSt) : Prop := ∀ (D : Ends) (Δ : DEnds) (σ : L2.St) (H : Hp) (δ : DEnv) (μ : Sto), EO B D Δ → B.S σ H δ μ → φ B.Ψ Δ δ μ → ts D σ H
end
section
variable {K : Fg} {B : Bx K} {te ta tb tc : TE} {φ φa φb φc : DE} {tt tu : TT} {θ ϑ : DT} {tas : TA} {ψ : DA} {ts tz : TS} {ω ζ : DSt}
/-! ### expressions -/
def dVar (i : Nat) : DE := fun _ δ μ Φ => ∃ d, δ[i]? = some (some d) ∧ Φ d μ
theorem sVar {i : Nat} : SE B (tVar i) (dVar i) := fun σ H δ μ Φ Q S h k => by
  obtain ⟨d, e, h⟩ := h
  obtain ⟨v, ev, r⟩ := S.env.at_ i d e
  exact ⟨v, ev, k v H d μ S .refl r h⟩
/-- a name that holds a list's handle, read as the list: it changes no more -/
def dRest (i : Nat) : DE := fun _ δ μ Φ => ∃ a ds, δ[i]? = some (some (.hd (.ref a))) ∧ μ a = some (.lst ds) ∧ Φ (.lst ds) (sset μ a (.frz ds))
theorem Rep.hd_inv {K : Fg} {μ : Sto} {H : Hp} {v w : V} (h : Rep K μ H v (.hd w)) : v = w := by cases h; rfl
theorem sRest {i : Nat} : SE B (tVar i) (dRest i) := fun σ H δ μ Φ Q S h k => by
  obtain ⟨a, ds, e, hm, h⟩ := h
  obtain ⟨v, ev, r⟩ := S.env.at_ i _ e
  obtain rfl := Rep.hd_inv r
  have ev2 : Evo μ H (sset μ a (.frz ds)) H := .rest hm
  have st2 := S.sto.rest hm
  obtain ⟨vs, q1, q2⟩ := st2 a _ sset_same
  exact ⟨_, ev, k _ H _ _ (S.step ev2 st2) ev2 (.lst ⟨q1, .frz sset_same⟩ q2 .nil) h⟩
def dC (d : D) : DE := fun _ _ μ Φ => Φ d μ
theorem sC {v : V} {d : D} (r : ∀ K μ H, Rep K μ H v d) : SE B (tC v) (dC d) := fun σ H δ μ Φ Q S h k => k v H d μ S .refl (r _ _ _) h
theorem sInt {i : Int} : SE B (tC (.int i)) (dC (.int i)) := sC fun _ _ _ => .int i .nil
theorem sStr {x : Str} : SE B (tC (.str x)) (dC (.str x)) := sC fun _ _ _ => .str x .nil
theorem sBl {b : Bool} : SE B (tC (.bl b)) (dC (.bl b)) := sC fun _ _ _ => .bl b .nil
theorem sNon : SE B (tC .non) (dC .non) := sC fun _ _ _ => .non .nil
theorem sHd {v : V} : SE B (tC v) (dC (.hd v)) := sC fun _ _ _ => .hd v .nil
/-- an operator by data -/
abbrev DO := D → D → Sto → DK → Prop
def RO (K : Fg) (r : R2) (ρ : DO) : Prop := ∀ (H : Hp) (μ : Sto) (v w : V) (d e : D) (Φ : DK) (Q : VK), StoOk K μ H → Rep K μ H v d → Rep K μ H w e → ρ d e μ Φ →
  (∀ z H' c μ', Evo μ H μ' H' → StoOk K μ' H' → Rep K μ' H' z c → Φ c μ' → Q z H') → r v w H Q
def dOp (ρ : DO) (φa φb : DE) : DE := fun Ψ δ μ Φ => φa Ψ δ μ fun x μ1 => φb Ψ δ μ1 fun y μ2 => ρ x y μ2 Φ
theorem sOp {r : R2} {ρ : DO} (h : RO K r ρ) (a : SE B ta φa) (b : SE B tb φb) : SE B (tOp r ta tb) (dOp ρ φa φb) := fun σ H δ μ Φ Q S q k =>
  a σ H δ μ _ _ S q fun v H1 x μ1 S1 e1 r1 q1 => b σ H1 δ μ1 _ _ S1 q1 fun w H2 y μ2 S2 e2 r2 q2 =>
    h H2 μ2 v w x y Φ Q S2.sto (Reps.mono e2 r1) r2 q2 fun z H3 c μ3 e3 s3 r3 p => k z H3 c μ3 (S2.step e3 s3) ((e1.trans e2).trans e3) r3 p
abbrev DU := D → Sto → DK → Prop
def RU (K : Fg) (r : V → Hp → VK → Prop) (ρ : DU) : Prop := ∀ (H : Hp) (μ : Sto) (v : V) (d : D) (Φ : DK) (Q : VK), StoOk K μ H → Rep K μ H v d → ρ d μ Φ →
  (∀ z H' c μ', Evo μ H μ' H' → StoOk K μ' H' → Rep K μ' H' z c → Φ c μ' → Q z H') → r v H Q
def dUn (ρ : DU) (φa : DE) : DE := fun Ψ δ μ Φ => φa Ψ δ μ fun x μ1 => ρ x μ1 Φ
theorem sUn {r : V → Hp → VK → Prop} {ρ : DU} (h : RU K r ρ) (a : SE B ta φa) : SE B (tUn r ta) (dUn ρ φa) := fun σ H δ μ Φ Q S q k =>
  a σ H δ μ _ _ S q fun v H1 x μ1 S1 e1 r1 q1 => h H1 μ1 v x Φ Q S1.sto r1 q1 fun z H3 c μ3 e3 s3 r3 p => k z H3 c μ3 (S1.step e3 s3) (e1.trans e3) r3 p
/-! ### tests -/
def dTest (φ : DE) : DT := fun Ψ δ μ Φ => φ Ψ δ μ fun x μ1 => ∃ b, x = .bl b ∧ Φ b μ1
theorem Rep.bl_inv {K : Fg} {μ : Sto} {H : Hp} {v : V} {b : Bool} (h : Rep K μ H v (.bl b)) : v = .bl b := by cases h; rfl
theorem Rep.int_inv {K : Fg} {μ : Sto} {H : Hp} {v : V} {b : Int} (h : Rep K μ H v (.int b)) : v = .int b := by cases h; rfl
theorem Rep.str_inv {K : Fg} {μ : Sto} {H : Hp} {v : V} {b : Str} (h : Rep K μ H v (.str b)) : v = .str b := by cases h; rfl
theorem Rep.non_inv {K : Fg} {μ : Sto} {H : Hp} {v : V} (h : Rep K μ H v .non) : v = .non := by cases h; rfl
theorem sTest (a : SE B ta φa) : ST B (tTest ta) (dTest φa) := fun σ H δ μ Φ Q S q k =>
  a σ H δ μ _ _ S q fun v H1 x μ1 S1 e1 r1 q1 => by
    obtain ⟨b, rfl, q2⟩ := q1
    obtain rfl := Rep.bl_inv r1
    exact ⟨b, rfl, k b H1 μ1 S1 e1 q2⟩
theorem sB (a : SE B ta φa) : ST B (tB ta) (dTest φa) := fun σ H δ μ Φ Q S q k =>
  a σ H δ μ _ _ S q fun v H1 x μ1 S1 e1 r1 q1 => by
    obtain ⟨b, rfl, q2⟩ := q1
    obtain rfl := Rep.bl_inv r1
    exact ⟨b, rfl, k b H1 μ1 S1 e1 q2⟩
def dAnd (θ ϑ : DT) : DT := fun Ψ δ μ Φ => θ Ψ δ μ fun b μ1 => (b = true → ϑ Ψ δ μ1 Φ) ∧ (b = false → Φ false μ1)
def dOr (θ ϑ : DT) : DT := fun Ψ δ μ Φ => θ Ψ δ μ fun b μ1 => (b = true → Φ true μ1) ∧ (b = false → ϑ Ψ δ μ1 Φ)
def dNot (θ : DT) : DT := fun Ψ δ μ Φ => θ Ψ δ μ fun b μ1 => Φ (!b) μ1
theorem sAnd (a : ST B tt θ) (b : ST B tu ϑ) : ST B (tAnd tt tu) (dAnd θ ϑ) := fun σ H δ μ Φ Q S q k =>
  a σ H δ μ _ _ S q fun v H1 μ1 S1 e1 q1 => by
    cases v with
    | true => exact b σ H1 δ μ1 _ _ S1 (q1.1 rfl) fun w H2 μ2 S2 e2 q2 => k w H2 μ2 S2 (e1.trans e2) q2
    | false => exact k false H1 μ1 S1 e1 (q1.2 rfl)
theorem sOr (a : ST B tt θ) (b : ST B tu ϑ) : ST B (tOr tt tu) (dOr θ ϑ) := fun σ H δ μ Φ Q S q k =>
  a σ H δ μ _ _ S q fun v H1 μ1 S1 e1 q1 => by
    cases v with
    | true => exact k true H1 μ1 S1 e1 (q1.1 rfl)
    | false => exact b σ H1 δ μ1 _ _ S1 (q1.2 rfl) fun w H2 μ2 S2 e2 q2 => k w H2 μ2 S2 (e1.trans e2) q2
theorem sNot (a : ST B tt θ) : ST B (tNot tt) (dNot θ) := fun σ H δ μ Φ Q S q k =>
  a σ H δ μ _ _ S q fun v H1 μ1 S1 e1 q1 => k (!v) H1 μ1 S1 e1 q1
def dAndV (φa φb : DE) : DE := fun Ψ δ μ Φ => φa Ψ δ μ fun x μ1 => ∃ b, x = .bl b ∧ (b = true → φb Ψ δ μ1 Φ) ∧ (b = false → Φ (.bl false) μ1)
def dOrV (φa φb : DE) : DE := fun Ψ δ μ Φ => φa Ψ δ μ fun x μ1 => ∃ b, x = .bl b ∧ (b = true → Φ (.bl true) μ1) ∧ (b = false → φb Ψ δ μ1 Φ)
def dNotV (φa : DE) : DE := fun Ψ δ μ Φ => φa Ψ δ μ fun x μ1 => ∃ b, x = .bl b ∧ Φ (.bl (!b)) μ1
theorem sAndV (a : SE B ta φa) (b : SE B tb φb) : SE B (tAndV ta tb) (dAndV φa φb) := fun σ H δ μ Φ Q S q k =>
  a σ H δ μ _ _ S q fun v H1 x μ1 S1 e1 r1 q1 => by
    obtain ⟨c, rfl, q2, q3⟩ := q1
    obtain rfl := Rep.bl_inv r1
    refine ⟨c, rfl, ?_⟩
    cases c with
    | true => exact b σ H1 δ μ1 _ _ S1 (q2 rfl) fun w H2 y μ2 S2 e2 r2 p => k w H2 y μ2 S2 (e1.trans e2) r2 p
    | false => exact k _ H1 _ μ1 S1 e1 (.bl false .nil) (q3 rfl)
theorem sOrV (a : SE B ta φa) (b : SE B tb φb) : SE B (tOrV ta tb) (dOrV φa φb) := fun σ H δ μ Φ Q S q k =>
  a σ H δ μ _ _ S q fun v H1 x μ1 S1 e1 r1 q1 => by
    obtain ⟨c, rfl, q2, q3⟩ := q1
    obtain rfl := Rep.bl_inv r1
    refine ⟨c, rfl, ?_⟩
    cases c with
    | true => exact k _ H1 _ μ1 S1 e1 (.bl true .nil) (q2 rfl)
    | false => exact b σ H1 δ μ1 _ _ S1 (q3 rfl) fun w H2 y μ2 S2 e2 r2 p => k w H2 y μ2 S2 (e1.trans e2) r2 p
theorem sNotV (a : SE B ta φa) : SE B (tNotV ta) (dNotV φa) := fun σ H δ μ Φ Q S q k =>
  a σ H δ μ _ _ S q fun v H1 x μ1 S1 e1 r1 q1 => by
    obtain ⟨c, rfl, q2⟩ := q1
    obtain rfl := Rep.bl_inv r1
    exact ⟨c, rfl, k _ H1 _ μ1 S1 e1 (.bl _ .nil) q2⟩
def dIf (θ : DT) (φa φb : DE) : DE := fun Ψ δ μ Φ => θ Ψ δ μ fun b μ1 => (b = true → φa Ψ δ μ1 Φ) ∧ (b = false → φb Ψ δ μ1 Φ)
theorem sIf (c : ST B tt θ) (a : SE B ta φa) (b : SE B tb φb) : SE B (tIf tt ta tb) (dIf θ φa φb) := fun σ H δ μ Φ Q S q k =>
  c σ H δ μ _ _ S q fun v H1 μ1 S1 e1 q1 => by
    cases v with
    | true => exact a σ H1 δ μ1 _ _ S1 (q1.1 rfl) fun w H2 y μ2 S2 e2 r2 p => k w H2 y μ2 S2 (e1.trans e2) r2 p
    | false => exact b σ H1 δ μ1 _ _ S1 (q1.2 rfl) fun w H2 y μ2 S2 e2 r2 p => k w H2 y μ2 S2 (e1.trans e2) r2 p
/-- a comparison of three -/
def dChain (ρ ρ' : DO) (φa φb φc : DE) : DE := fun Ψ δ μ Φ => φa Ψ δ μ fun x μ1 => φb Ψ δ μ1 fun y μ2 => ρ x y μ2 fun z μ3 => ∃ b, z = .bl b ∧ (b = true → φc Ψ δ μ3 fun u μ4 => ρ' y u μ4 Φ) ∧ (b = false → Φ (.bl false) μ3)
theorem sChain {r r' : R2} {ρ ρ' : DO} (h : RO K r ρ) (h' : RO K r' ρ') (a : SE B ta φa) (b : SE B tb φb) (c : SE B tc φc) : SE B (tChain r r' ta tb tc) (dChain ρ ρ' φa φb φc) := fun σ H δ μ Φ Q S q k =>
  a σ H δ μ _ _ S q fun v H1 x μ1 S1 e1 r1 q1 => b σ H1 δ μ1 _ _ S1 q1 fun w H2 y μ2 S2 e2 r2 q2 =>
    h H2 μ2 v w x y _ _ S2.sto (Reps.mono e2 r1) r2 q2 fun z H3 d μ3 e3 s3 r3 p => by
      obtain ⟨i, rfl, p1, p2⟩ := p
      obtain rfl := Rep.bl_inv r3
      refine ⟨i, rfl, ?_⟩
      have S3 := S2.step e3 s3
      cases i with
      | true =>
        exact c σ H3 δ μ3 _ _ S3 (p1 rfl) fun w4 H4 y4 μ4 S4 e4 r4 p4 =>
          h' H4 μ4 w w4 y y4 _ _ S4.sto (Reps.mono (e3.trans e4) r2) r4 p4 fun z5 H5 d5 μ5 e5 s5 r5 p5 => k z5 H5 d5 μ5 (S4.step e5 s5) (((e1.trans e2).trans e3).trans (e4.trans e5)) r5 p5
      | false => exact k _ H3 _ μ3 S3 ((e1.trans e2).trans e3) (.bl false .nil) (p2 rfl)
/-! ### arguments, displays -/
def dNil : DA := fun _ _ μ Φ => Φ [] μ
def dCons (φ : DE) (ψ : DA) : DA := fun Ψ δ μ Φ => φ Ψ δ μ fun x μ1 => ψ Ψ δ μ1 fun xs μ2 => Φ (x :: xs) μ2
theorem sNil : SA B tNil dNil := fun σ H δ μ Φ Q S q k => k [] H [] μ S .refl .nil q
theorem sCons (a : SE B ta φa) (b : SA B tas ψ) : SA B (tCons ta tas) (dCons φa ψ) := fun σ H δ μ Φ Q S q k =>
  a σ H δ μ _ _ S q fun v H1 x μ1 S1 e1 r1 q1 => b σ H1 δ μ1 _ _ S1 q1 fun vs H2 xs μ2 S2 e2 r2 q2 => k _ H2 _ μ2 S2 (e1.trans e2) (.cons (Reps.mono e2 r1) r2) q2
def dTup (ψ : DA) : DE := fun Ψ δ μ Φ => ψ Ψ δ μ fun xs μ1 => xs.length ≤ 100000 ∧ Φ (.tup xs) μ1
theorem rep_tup {K : Fg} {μ : Sto} {H : Hp} {p : Addr} {vs : List V} {ds : List D} (s : StoOk K μ H) (hp : H p = none) (r : Reps K μ H vs ds) : Rep K μ (upd H p (.tup vs)) (.ref p) (.tup ds) :=
  .tup (.inl ⟨.inl upd_same, .new s hp⟩) (r.mono (.new hp)) .nil
theorem rep_lst {K : Fg} {μ : Sto} {H : Hp} {p : Addr} {vs : List V} {ds : List D} (s : StoOk K μ H) (hp : H p = none) (r : Reps K μ H vs ds) : Rep K μ (upd H p (.lst vs)) (.ref p) (.lst ds) :=
  .lst ⟨upd_same, .new s hp⟩ (r.mono (.new hp)) .nil
theorem sz {n : Nat} (h : n ≤ 100000) : n ≤ sizeLine := Nat.le_trans h (by decide)
theorem sTup (b : SA B tas ψ) : SE B (tTup tas) (dTup ψ) := fun σ H δ μ Φ Q S q k =>
  b σ H δ μ _ _ S q fun vs H1 xs μ1 S1 e1 r1 q1 => ⟨sz (by rw [r1.length]; exact q1.1), fun p hp => k _ _ _ μ1 (S1.step (.new hp) (S1.sto.new hp)) (e1.trans (.new hp)) (rep_tup S1.sto hp r1) q1.2⟩
def dLst (ψ : DA) : DE := fun Ψ δ μ Φ => ψ Ψ δ μ fun xs μ1 => xs.length ≤ 100000 ∧ Φ (.lst xs) μ1
theorem sLst (b : SA B tas ψ) : SE B (tLst tas) (dLst ψ) := fun σ H δ μ Φ Q S q k =>
  b σ H δ μ _ _ S q fun vs H1 xs μ1 S1 e1 r1 q1 => ⟨sz (by rw [r1.length]; exact q1.1), fun p hp => k _ _ _ μ1 (S1.step (.new hp) (S1.sto.new hp)) (e1.trans (.new hp)) (rep_lst S1.sto hp r1) q1.2⟩
/-- a list that will change: its handle -/
def dOwn (ψ : DA) : DE := fun Ψ δ μ Φ => ψ Ψ δ μ fun xs μ1 => xs.length ≤ 100000 ∧ ∀ p, μ1 p = none → Φ (.hd (.ref p)) (sset μ1 p (.lst xs))
theorem sto_own {K : Fg} {μ : Sto} {H : Hp} {p : Addr} {vs : List V} {ds : List D} (s : StoOk K μ H) (hp : H p = none) (r : Reps K μ H vs ds) : StoOk K (sset μ p (.lst ds)) (upd H p (.lst vs)) :=
  s.cell (.newC s hp) ⟨vs, upd_same, r.mono (.newC s hp)⟩
theorem sOwn (b : SA B tas ψ) : SE B (tLst tas) (dOwn ψ) := fun σ H δ μ Φ Q S q k =>
  b σ H δ μ _ _ S q fun vs H1 xs μ1 S1 e1 r1 q1 => ⟨sz (by rw [r1.length]; exact q1.1), fun p hp =>
    k _ _ _ _ (S1.step (.newC S1.sto hp) (sto_own S1.sto hp r1)) (e1.trans (.newC S1.sto hp)) (.hd _ .nil) (q1.2 p (S1.sto.fresh hp))⟩
/-! ### statements -/
def dSeq (ω ζ : DSt) : DSt := fun Ψ Δ δ μ => ω Ψ { Δ with nx := ζ Ψ Δ } δ μ
theorem sSeq (a : SS B ts ω) (b : SS B tz ζ) : SS B (tSeq ts tz) (dSeq ω ζ) := fun D Δ σ H δ μ E S q =>
  a { D with nx := tz D } { Δ with nx := ζ B.Ψ Δ } σ H δ μ ⟨fun σ' H' δ' μ' S' q' => b D Δ σ' H' δ' μ' E S' q', E.rt, E.bk, E.ct⟩ S q
def dNext : DSt := fun _ Δ δ μ => Δ.nx δ μ
theorem sNext : SS B tNext dNext := fun D Δ σ H δ μ E S q => E.nx σ H δ μ S q
def dBreak : DSt := fun _ Δ δ μ => Δ.bk δ μ
theorem sBreak : SS B tBreak dBreak := fun D Δ σ H δ μ E S q => E.bk σ H δ μ S q
def dCont : DSt := fun _ Δ δ μ => Δ.ct δ μ
theorem sCont : SS B tCont dCont := fun D Δ σ H δ μ E S q => E.ct σ H δ μ S q
def dDrop (φ : DE) : DSt := fun Ψ Δ δ μ => φ Ψ δ μ fun _ μ1 => Δ.nx δ μ1
theorem sDrop (a : SE B ta φa) : SS B (tDrop ta) (dDrop φa) := fun D Δ σ H δ μ E S q => a σ H δ μ _ _ S q fun v H1 x μ1 S1 e1 r1 q1 => E.nx σ H1 δ μ1 S1 q1
def dRet (φ : DE) : DSt := fun Ψ Δ δ μ => φ Ψ δ μ Δ.rt
theorem sRet (a : SE B ta φa) : SS B (tRet ta) (dRet φa) := fun D Δ σ H δ μ E S q => a σ H δ μ _ _ S q fun v H1 x μ1 S1 e1 r1 q1 => E.rt v H1 x μ1 σ δ S1 r1 q1
def dRetN : DSt := fun _ Δ δ μ => Δ.rt .non μ
theorem sRetN : SS B tRetN dRetN := fun D Δ σ H δ μ E S q => E.rt .non H .non μ σ δ S (.non .nil) q
def dIfS (θ : DT) (ω ζ : DSt) : DSt := fun Ψ Δ δ μ => θ Ψ δ μ fun b μ1 => (b = true → ω Ψ Δ δ μ1) ∧ (b = false → ζ Ψ Δ δ μ1)
theorem sIfS (c : ST B tt θ) (a : SS B ts ω) (b : SS B tz ζ) : SS B (tIfS tt ts tz) (dIfS θ ω ζ) := fun D Δ σ H δ μ E S q =>
  c σ H δ μ _ _ S q fun v H1 μ1 S1 e1 q1 => by
    cases v with
    | true => exact a D Δ σ H1 δ μ1 E S1 (q1.1 rfl)
    | false => exact b D Δ σ H1 δ μ1 E S1 (q1.2 rfl)
def dNever : DSt := fun _ _ _ _ => False
theorem sNever : SS B tNever dNever := fun D Δ σ H δ μ E S q => q.elim
/-- targets -/
abbrev DG := D → DEnv → Sto → (DEnv → Sto → Prop) → Prop
def SG {K : Fg} (B : Bx K) (g : TG) (γ : DG) : Prop := ∀ (v : V) (d : D) (σ : L2.St) (H : Hp) (δ : DEnv) (μ : Sto) (Φ : DEnv → Sto → Prop) (Q : L2.St → Hp → Prop), B.S σ H δ μ → Rep K μ H v d → γ d δ μ Φ →
  (∀ σ' H' δ' μ', B.S σ' H' δ' μ' → Evo μ H μ' H' → Φ δ' μ' → Q σ' H') → g v σ H Q
def SGs {K : Fg} (B : Bx K) (g : TGs) (γ : List D → DEnv → Sto → (DEnv → Sto → Prop) → Prop) : Prop := ∀ (v : List V) (d : List D) (σ : L2.St) (H : Hp) (δ : DEnv) (μ : Sto) (Φ : DEnv → Sto → Prop) (Q : L2.St → Hp → Prop), B.S σ H δ μ → Reps K μ H v d → γ d δ μ Φ →
  (∀ σ' H' δ' μ', B.S σ' H' δ' μ' → Evo μ H μ' H' → Φ δ' μ' → Q σ' H') → g v σ H Q
def eName (i : Nat) : DG := fun d δ μ Φ => Φ (δ.set i (some d)) μ
theorem sName {i : Nat} : SG B (gName i) (eName i) := fun v d σ H δ μ Φ Q S r q k => k _ H _ μ (S.set r i) .refl q
def eNil : List D → DEnv → Sto → (DEnv → Sto → Prop) → Prop := fun ds δ μ Φ => ds = [] ∧ Φ δ μ
def eCons (γ : DG) (η : List D → DEnv → Sto → (DEnv → Sto → Prop) → Prop) : List D → DEnv → Sto → (DEnv → Sto → Prop) → Prop := fun ds δ μ Φ => ∃ d r, ds = d :: r ∧ γ d δ μ fun δ' μ' => η r δ' μ' Φ
theorem sgNil : SGs B gNil eNil := fun v d σ H δ μ Φ Q S r q k => by
  obtain ⟨rfl, q⟩ := q
  cases r
  exact ⟨rfl, k σ H δ μ S .refl q⟩
theorem sgCons {g : TG} {gs : TGs} {γ : DG} {η : List D → DEnv → Sto → (DEnv → Sto → Prop) → Prop} (a : SG B g γ) (b : SGs B gs η) : SGs B (gCons g gs) (eCons γ η) := fun v d σ H δ μ Φ Q S r q k => by
  obtain ⟨x, xs, rfl, q⟩ := q
  cases v with
  | nil => have := r.length; simp at this
  | cons v vs =>
    exact ⟨v, vs, rfl, a v x σ H δ μ _ _ S r.split.1 q fun σ1 H1 δ1 μ1 S1 e1 q1 => b vs xs σ1 H1 δ1 μ1 _ _ S1 (r.split.2.mono e1) q1 fun σ2 H2 δ2 μ2 S2 e2 q2 => k σ2 H2 δ2 μ2 S2 (e1.trans e2) q2⟩
def eTup (n : Nat) (η : List D → DEnv → Sto → (DEnv → Sto → Prop) → Prop) : DG := fun d δ μ Φ => ∃ ds, d = .tup ds ∧ ds.length = n ∧ η ds δ μ Φ
theorem Rep.tup_inv {K : Fg} {μ : Sto} {H : Hp} {v : V} {ds : List D} (h : Rep K μ H v (.tup ds)) : ∃ a vs, v = .ref a ∧ TupAt K μ H a vs ∧ Reps K μ H vs ds := by
  cases h with
  | tup h1 h2 _ => exact ⟨_, _, rfl, h1, h2⟩
theorem Rep.lst_inv {K : Fg} {μ : Sto} {H : Hp} {v : V} {ds : List D} (h : Rep K μ H v (.lst ds)) : ∃ a vs, v = .ref a ∧ LstAt μ H a vs ∧ Reps K μ H vs ds := by
  cases h with
  | lst h1 h2 _ => exact ⟨_, _, rfl, h1, h2⟩
theorem sgTup {n : Nat} {gs : TGs} {η : List D → DEnv → Sto → (DEnv → Sto → Prop) → Prop} (b : SGs B gs η) : SG B (gTup K n gs) (eTup n η) := fun v d σ H δ μ Φ Q S r q k => by
  obtain ⟨ds, rfl, hn, q⟩ := q
  obtain ⟨a, vs, rfl, ht, hr⟩ := Rep.tup_inv r
  exact ⟨a, vs, rfl, ht.sq, by rw [hr.length]; exact hn, b vs ds σ H δ μ Φ Q S hr q k⟩
def dAsg (φ : DE) (γ : DG) : DSt := fun Ψ Δ δ μ => φ Ψ δ μ fun x μ1 => γ x δ μ1 Δ.nx
theorem sAsg {g : TG} {γ : DG} (a : SE B ta φa) (b : SG B g γ) : SS B (tAsg ta g) (dAsg φa γ) := fun D Δ σ H δ μ E S q =>
  a σ H δ μ _ _ S q fun v H1 x μ1 S1 e1 r1 q1 => b v x σ H1 δ μ1 _ _ S1 r1 q1 fun σ2 H2 δ2 μ2 S2 e2 q2 => E.nx σ2 H2 δ2 μ2 S2 q2
/-- x += e -/
def dAug (i : Nat) (φ : DE) (ρ : DO) : DSt := fun Ψ Δ δ μ => ∃ x, δ[i]? = some (some x) ∧ φ Ψ δ μ fun y μ1 => ρ x y μ1 fun z μ2 => Δ.nx (δ.set i (some z)) μ2
theorem sAug {i : Nat} {ip : TIp} {ρ : DO} (h : RO K ip ρ) (a : SE B ta φa) : SS B (tAug i ta ip) (dAug i φa ρ) := fun D Δ σ H δ μ E S q => by
  obtain ⟨x, ex, q⟩ := q
  obtain ⟨v, ev, rv⟩ := S.env.at_ i x ex
  exact ⟨v, ev, a σ H δ μ _ _ S q fun w H1 y μ1 S1 e1 r1 q1 => h H1 μ1 v w x y _ _ S1.sto (Reps.mono e1 rv) r1 q1 fun z H2 c μ2 e2 s2 r2 q2 => E.nx _ _ _ _ ((S1.step e2 s2).set r2 i) q2⟩
/-- while, by a word and a number that falls -/
def dWhile (θ : DT) (ω : DSt) : DSt := fun Ψ Δ δ μ => ∃ W : Nat → DEnv → Sto → Prop, (∃ m, W m δ μ) ∧ ∀ m δ μ, W m δ μ → θ Ψ δ μ fun b μ1 =>
  (b = true → ω Ψ { Δ with nx := fun δ' μ' => ∃ m', m' < m ∧ W m' δ' μ', ct := fun δ' μ' => ∃ m', m' < m ∧ W m' δ' μ', bk := Δ.nx } δ μ1) ∧ (b = false → Δ.nx δ μ1)
theorem sWhile (c : ST B tt θ) (a : SS B ts ω) : SS B (tWhile tt ts) (dWhile θ ω) := fun D Δ σ H δ μ E S q => by
  obtain ⟨W, ⟨m0, w0⟩, q⟩ := q
  refine ⟨fun m σ H => ∃ δ μ, B.S σ H δ μ ∧ W m δ μ, ⟨m0, δ, μ, S, w0⟩, fun m σ1 H1 ⟨δ1, μ1, S1, w1⟩ => ?_⟩
  refine c σ1 H1 δ1 μ1 _ _ S1 (q m δ1 μ1 w1) fun b H2 μ2 S2 e2 q2 => ?_
  cases b with
  | true =>
    refine ⟨fun σ' H' => ∃ δ' μ', B.S σ' H' δ' μ' ∧ ∃ m', m' < m ∧ W m' δ' μ', fun σ' H' ⟨δ', μ', S', m', hm, w'⟩ => ⟨m', hm, δ', μ', S', w'⟩, ?_⟩
    exact a _ { Δ with nx := fun δ' μ' => ∃ m', m' < m ∧ W m' δ' μ', ct := fun δ' μ' => ∃ m', m' < m ∧ W m' δ' μ', bk := Δ.nx } σ1 H2 δ1 μ2 ⟨fun σ' H' δ' μ' S' q' => ⟨δ', μ', S', q'⟩, E.rt, E.nx, fun σ' H' δ' μ' S' q' => ⟨δ', μ', S', q'⟩⟩ S2 (q2.1 rfl)
  | false => exact E.nx _ _ _ _ S2 (q2.2 rfl)
end
end DW
set_option Elab.async false
set_option linter.all false
set_option maxRecDepth 100000
namespace DW
open PySem PySem.Spec L2
section
variable {K : Fg}
/-! ### numbers -/
def oI (C : Int → Int → Prop) (g : Int → Int → D) : DO := fun x y μ Φ => ∃ i j, x = .int i ∧ y = .int j ∧ C i j ∧ Φ (g i j) μ
def oI0 (g : Int → Int → D) : DO := fun x y μ Φ => ∃ i j, x = .int i ∧ y = .int j ∧ Φ (g i j) μ
theorem roI {C : Int → Int → Prop} {g : Int → Int → V} {g' : Int → Int → D} (hg : ∀ i j μ H, Rep K μ H (g i j) (g' i j)) : RO K (rI C g) (oI C g') := fun H μ v w d e Φ Q s r1 r2 q k => by
  obtain ⟨i, j, rfl, rfl, hc, q⟩ := q
  exact ⟨i, j, Rep.int_inv r1, Rep.int_inv r2, hc, k _ H _ μ .refl s (hg i j μ H) q⟩
theorem roI0 {g : Int → Int → V} {g' : Int → Int → D} (hg : ∀ i j μ H, Rep K μ H (g i j) (g' i j)) : RO K (rI0 g) (oI0 g') := fun H μ v w d e Φ Q s r1 r2 q k => by
  obtain ⟨i, j, rfl, rfl, q⟩ := q
  exact ⟨i, j, Rep.int_inv r1, Rep.int_inv r2, k _ H _ μ .refl s (hg i j μ H) q⟩
theorem roInt {C : Int → Int → Prop} {g : Int → Int → Int} : RO K (rI C fun i j => .int (g i j)) (oI C fun i j => .int (g i j)) := roI fun _ _ _ _ => .int _ .nil
theorem roInt0 {g : Int → Int → Int} : RO K (rI0 fun i j => .int (g i j)) (oI0 fun i j => .int (g i j)) := roI0 fun _ _ _ _ => .int _ .nil
theorem roBl0 {g : Int → Int → Bool} : RO K (rI0 fun i j => .bl (g i j)) (oI0 fun i j => .bl (g i j)) := roI0 fun _ _ _ _ => .bl _ .nil
theorem roIp {g : Int → Int → Int} : RO K (ipI g) (oI0 fun i j => .int (g i j)) := fun H μ v w d e Φ Q s r1 r2 q k => by
  obtain ⟨i, j, rfl, rfl, q⟩ := q
  exact ⟨i, j, Rep.int_inv r1, Rep.int_inv r2, k _ H _ μ .refl s (.int _ .nil) q⟩
def uI (g : Int → Int) : DU := fun x μ Φ => ∃ i, x = .int i ∧ Φ (.int (g i)) μ
theorem ruInt {g : Int → Int} : RU K (rU fun i => .int (g i)) (uI g) := fun H μ v d Φ Q s r q k => by
  obtain ⟨i, rfl, q⟩ := q
  exact ⟨i, Rep.int_inv r, k _ H _ μ .refl s (.int _ .nil) q⟩
/-! ### == of plain things -/
def sEq : D → D → Option Bool
  | .int i, .int j => some (decide (i = j))
  | .str i, .str j => some (decide (i = j))
  | .bl i, .bl j => some (decide (i = j))
  | .non, .non => some true
  | .non, .int _ => some false
  | .int _, .non => some false
  | .non, .bl _ => some false
  | .bl _, .non => some false
  | .non, .str _ => some false
  | .str _, .non => some false
  | .int _, .str _ => some false
  | .str _, .int _ => some false
  | .bl _, .str _ => some false
  | .str _, .bl _ => some false
  | _, _ => none
theorem sEq_ok {μ : Sto} {H : Hp} {v w : V} {d e : D} {b : Bool} (r1 : Rep K μ H v d) (r2 : Rep K μ H w e) (h : sEq d e = some b) : scal v w = true ∧ decide (v = w) = b := by
  cases d <;> cases e <;> (first | (unfold sEq at h; cases h; done) | skip) <;> cases r1 <;> cases r2 <;> (injection h with h; subst h; first | exact ⟨rfl, by simp⟩ | exact ⟨rfl, rfl⟩)
def oEq : DO := fun x y μ Φ => ∃ b, sEq x y = some b ∧ Φ (.bl b) μ
def oNe : DO := fun x y μ Φ => ∃ b, sEq x y = some b ∧ Φ (.bl (!b)) μ
theorem roEq : RO K rEq oEq := fun H μ v w d e Φ Q s r1 r2 q k => by
  obtain ⟨b, hb, q⟩ := q
  obtain ⟨h1, h2⟩ := sEq_ok r1 r2 hb
  exact ⟨h1, by rw [h2]; exact k _ H _ μ .refl s (.bl _ .nil) q⟩
theorem roNe : RO K rNe oNe := fun H μ v w d e Φ Q s r1 r2 q k => by
  obtain ⟨b, hb, q⟩ := q
  obtain ⟨h1, h2⟩ := sEq_ok r1 r2 hb
  exact ⟨h1, by rw [h2]; exact k _ H _ μ .refl s (.bl _ .nil) q⟩
def isNone : D → Option Bool
  | .non => some true
  | .bl _ => some false
  | .int _ => some false
  | .str _ => some false
  | .tup _ => some false
  | .lst _ => some false
  | .obj _ _ _ => some false
  | _ => none
theorem isNone_ok {μ : Sto} {H : Hp} {v : V} {d : D} {b : Bool} (r1 : Rep K μ H v d) (h : isNone d = some b) : decide (v = .non) = b := by
  cases d <;> unfold isNone at h <;> first | (cases h; done) | (cases h; cases r1; rfl) | (cases h; cases r1; simp)
def oIsN : DO := fun x y μ Φ => y = .non ∧ ∃ b, isNone x = some b ∧ Φ (.bl b) μ
def oNotN : DO := fun x y μ Φ => y = .non ∧ ∃ b, isNone x = some b ∧ Φ (.bl (!b)) μ
theorem roIsN : RO K (fun x y H Q => y = .non ∧ Q (.bl (decide (x = .non))) H) oIsN := fun H μ v w d e Φ Q s r1 r2 q k => by
  obtain ⟨rfl, b, hb, q⟩ := q
  exact ⟨Rep.non_inv r2, by rw [isNone_ok r1 hb]; exact k _ H _ μ .refl s (.bl _ .nil) q⟩
theorem roNotN : RO K (fun x y H Q => y = .non ∧ Q (.bl (!decide (x = .non))) H) oNotN := fun H μ v w d e Φ Q s r1 r2 q k => by
  obtain ⟨rfl, b, hb, q⟩ := q
  exact ⟨Rep.non_inv r2, by rw [isNone_ok r1 hb]; exact k _ H _ μ .refl s (.bl _ .nil) q⟩
/-! ### in -/
def flatD : D → Bool
  | .non => true
  | .bl _ => true
  | .int _ => true
  | .str _ => true
  | _ => false
def eqF : D → D → Bool
  | .non, .non => true
  | .bl a, .bl b => a == b
  | .bl a, .int b => (if a then 1 else 0) == b
  | .int a, .bl b => a == (if b then 1 else 0)
  | .int a, .int b => a == b
  | .str a, .str b => a == b
  | _, _ => false
theorem flatD_ok {μ : Sto} {H : Hp} {v : V} {d : D} (r : Rep K μ H v d) (h : flatD d = true) : flatV v = true := by
  cases d <;> (first | (exact absurd h Bool.false_ne_true) | skip) <;> cases r <;> rfl
theorem eqF_ok {μ : Sto} {H : Hp} {v w : V} {d e : D} (r1 : Rep K μ H v d) (r2 : Rep K μ H w e) (f1 : flatD d = true) (f2 : flatD e = true) : eqV v w = eqF d e := by
  cases d <;> (first | (exact absurd f1 Bool.false_ne_true) | skip) <;> cases r1 <;> cases e <;> (first | (exact absurd f2 Bool.false_ne_true) | skip) <;> cases r2 <;> rfl
theorem flatAll_ok {μ : Sto} {H : Hp} : ∀ {vs : List V} {ds : List D}, Reps K μ H vs ds → ds.all flatD = true → vs.all flatV = true
  | [], [], _, _ => rfl
  | [], _ :: _, r, _ => by have := r.length; simp at this
  | _ :: _, [], r, _ => by have := r.length; simp at this
  | v :: vs, d :: ds, r, h => by
    rw [List.all_cons, Bool.and_eq_true] at h ⊢
    exact ⟨flatD_ok r.split.1 h.1, flatAll_ok r.split.2 h.2⟩
def inD (x : D) (ds : List D) : Bool := ds.any fun y => eqF y x
theorem inD_ok {μ : Sto} {H : Hp} {v : V} {d : D} (r1 : Rep K μ H v d) (f1 : flatD d = true) : ∀ {vs : List V} {ds : List D}, Reps K μ H vs ds → ds.all flatD = true → inV v vs = inD d ds
  | [], [], _, _ => rfl
  | [], _ :: _, r, _ => by have := r.length; simp at this
  | _ :: _, [], r, _ => by have := r.length; simp at this
  | w :: vs, e :: ds, r, h => by
    rw [List.all_cons, Bool.and_eq_true] at h
    have ih := inD_ok r1 f1 r.split.2 h.2
    unfold inV inD at ih ⊢
    rw [List.any_cons, List.any_cons, eqF_ok r.split.1 r1 h.1 f1, ih]
/-- the items of a tuple, of a list, of a handle's list -/
inductive Items (μ : Sto) : D → List D → Prop
  | tup (ds) : Items μ (.tup ds) ds
  | lst (ds) : Items μ (.lst ds) ds
  | own {a ds} : μ a = some (.lst ds) → Items μ (.hd (.ref a)) ds
  | frz {a ds} : μ a = some (.frz ds) → Items μ (.hd (.ref a)) ds
  | scr (ns) : Items μ (.scr ns) (ns.map .int)
theorem reps_ints {μ : Sto} {H : Hp} : ∀ (ns : List Int), Reps K μ H (ns.map V.int) (ns.map D.int)
  | [] => .nil
  | n :: ns => .int n (reps_ints ns)
theorem Items.ok {μ : Sto} {H : Hp} {v : V} {d : D} {ds : List D} (s : StoOk K μ H) (r : Rep K μ H v d) (h : Items μ d ds) : ∃ a vs, v = .ref a ∧ (SqL K H a vs ∨ SqT K H a vs) ∧ Reps K μ H vs ds := by
  cases h with
  | tup => obtain ⟨a, vs, rfl, h1, h2⟩ := Rep.tup_inv r; exact ⟨a, vs, rfl, .inr h1.sq, h2⟩
  | lst => obtain ⟨a, vs, rfl, h1, h2⟩ := Rep.lst_inv r; exact ⟨a, vs, rfl, .inl h1.sq, h2⟩
  | own h => obtain rfl := Rep.hd_inv r; obtain ⟨vs, h1, h2⟩ := s _ _ h; exact ⟨_, vs, rfl, .inl (.of h1), h2⟩
  | frz h => obtain rfl := Rep.hd_inv r; obtain ⟨vs, h1, h2⟩ := s _ _ h; exact ⟨_, vs, rfl, .inl (.of h1), h2⟩
  | scr ns =>
    cases r with
    | scr h1 _ => exact ⟨_, _, rfl, .inl h1.sq, reps_ints ns⟩
def oIn (neg : Bool) : DO := fun x y μ Φ => ∃ ds, Items μ y ds ∧ flatD x = true ∧ ds.all flatD = true ∧ Φ (.bl (if neg then !inD x ds else inD x ds)) μ
theorem roIn {neg : Bool} : RO K (rIn K neg) (oIn neg) := fun H μ v w d e Φ Q s r1 r2 q k => by
  obtain ⟨ds, hi, f1, f2, q⟩ := q
  obtain ⟨a, vs, rfl, h1, h2⟩ := hi.ok s r2
  refine ⟨a, vs, rfl, h1, flatD_ok r1 f1, flatAll_ok h2 f2, ?_⟩
  rw [inD_ok r1 f1 h2 f2]
  exact k _ H _ μ .refl s (.bl _ .nil) q
/-! ### items, slices, + and * of sequences -/
theorem atI_reps {μ : Sto} {H : Hp} {vs : List V} {ds : List D} (r : Reps K μ H vs ds) {i : Int} {d : D} (h : atI ds i = some d) : ∃ v, atI vs i = some v ∧ Rep K μ H v d := by
  unfold atI at h ⊢
  rw [r.length]
  cases e : ixN ds.length i with
  | none => rw [e] at h; cases h
  | some j => rw [e] at h; exact r.get h
def isTup : D → Bool
  | .tup _ => true
  | _ => false
def oIxT : DO := fun x y μ Φ => ∃ ds i d, x = .tup ds ∧ y = .int i ∧ atI ds i = some d ∧ Φ d μ
theorem roIxT : RO K (rIxT K) oIxT := fun H μ v w d e Φ Q s r1 r2 q k => by
  obtain ⟨ds, i, c, rfl, rfl, hi, q⟩ := q
  obtain ⟨a, vs, rfl, h1, h2⟩ := Rep.tup_inv r1
  obtain ⟨z, hz, rz⟩ := atI_reps h2 hi
  exact ⟨a, vs, i, z, rfl, Rep.int_inv r2, h1.sq, hz, k _ H _ μ .refl s rz q⟩
def oIxL : DO := fun x y μ Φ => ∃ ds i d, Items μ x ds ∧ isTup x = false ∧ y = .int i ∧ atI ds i = some d ∧ Φ d μ
theorem Items.okL {μ : Sto} {H : Hp} {v : V} {d : D} {ds : List D} (s : StoOk K μ H) (r : Rep K μ H v d) (h : Items μ d ds) (n : isTup d = false) : ∃ a vs, v = .ref a ∧ SqL K H a vs ∧ Reps K μ H vs ds := by
  cases h with
  | tup => cases n
  | lst => obtain ⟨a, vs, rfl, h1, h2⟩ := Rep.lst_inv r; exact ⟨a, vs, rfl, h1.sq, h2⟩
  | own h => obtain rfl := Rep.hd_inv r; obtain ⟨vs, h1, h2⟩ := s _ _ h; exact ⟨_, vs, rfl, .of h1, h2⟩
  | frz h => obtain rfl := Rep.hd_inv r; obtain ⟨vs, h1, h2⟩ := s _ _ h; exact ⟨_, vs, rfl, .of h1, h2⟩
  | scr ns =>
    cases r with
    | scr h1 _ => exact ⟨_, _, rfl, h1.sq, reps_ints ns⟩
theorem roIxL : RO K (rIxL K) oIxL := fun H μ v w d e Φ Q s r1 r2 q k => by
  obtain ⟨ds, i, c, hi, hn, rfl, ha, q⟩ := q
  obtain ⟨a, vs, rfl, h1, h2⟩ := hi.okL s r1 hn
  obtain ⟨z, hz, rz⟩ := atI_reps h2 ha
  exact ⟨a, vs, i, z, rfl, Rep.int_inv r2, h1, hz, k _ H _ μ .refl s rz q⟩
/-- t + u, tuples -/
def oCatT : DO := fun x y μ Φ => ∃ xs ys, x = .tup xs ∧ y = .tup ys ∧ xs.length + ys.length ≤ 100000 ∧ Φ (.tup (xs ++ ys)) μ
theorem roCatT : RO K (rCatA K) oCatT := fun H μ v w d e Φ Q s r1 r2 q k => by
  obtain ⟨xs, ys, rfl, rfl, hz, q⟩ := q
  obtain ⟨a, vs, rfl, h1, h2⟩ := Rep.tup_inv r1
  obtain ⟨b, us, rfl, h3, h4⟩ := Rep.tup_inv r2
  refine ⟨a, b, vs, us, rfl, rfl, h1.sq, h3.sq, sz (by rw [h2.length, h4.length]; exact hz), fun e => ?_, fun _ e => ?_, fun _ _ p hp => ?_⟩
  · subst e
    have ex : xs = [] := List.eq_nil_of_length_eq_zero (by rw [← h2.length]; rfl)
    subst ex
    exact k _ H _ μ .refl s r2 q
  · subst e
    have ex : ys = [] := List.eq_nil_of_length_eq_zero (by rw [← h4.length]; rfl)
    subst ex
    rw [List.append_nil] at q
    exact k _ H _ μ .refl s r1 q
  · exact k _ _ _ μ (.new hp) (s.new hp) (rep_tup s hp (h2.append h4)) q
/-- xs + ys, lists -/
def oCatL : DO := fun x y μ Φ => ∃ xs ys, x = .lst xs ∧ y = .lst ys ∧ xs.length + ys.length ≤ 100000 ∧ Φ (.lst (xs ++ ys)) μ
theorem roCatL : RO K rCat oCatL := fun H μ v w d e Φ Q s r1 r2 q k => by
  obtain ⟨xs, ys, rfl, rfl, hz, q⟩ := q
  obtain ⟨a, vs, rfl, h1, h2⟩ := Rep.lst_inv r1
  obtain ⟨b, us, rfl, h3, h4⟩ := Rep.lst_inv r2
  exact ⟨a, b, vs, us, rfl, rfl, h1.1, h3.1, sz (by rw [h2.length, h4.length]; exact hz), fun p hp => k _ _ _ μ (.new hp) (s.new hp) (rep_lst s hp (h2.append h4)) q⟩
/-- t * k for k of two or more -/
theorem reps_rep {μ : Sto} {H : Hp} {vs : List V} {ds : List D} (r : Reps K μ H vs ds) : ∀ n, Reps K μ H (List.replicate n vs).flatten (List.replicate n ds).flatten
  | 0 => .nil
  | n + 1 => by
    rw [List.replicate_succ, List.replicate_succ, List.flatten_cons, List.flatten_cons]
    exact r.append (reps_rep r n)
/-! slices -/
def dNoPart : XP → DEnv → Sto → (Option Int → Sto → Prop) → Prop := fun _ _ μ Φ => Φ none μ
def dPart (φ : DE) : XP → DEnv → Sto → (Option Int → Sto → Prop) → Prop := fun Ψ δ μ Φ => φ Ψ δ μ fun x μ1 => ∃ i, x = .int i ∧ Φ (some i) μ1
def SO (B : Bx K) (to : TO) (φ : XP → DEnv → Sto → (Option Int → Sto → Prop) → Prop) : Prop := ∀ (σ : L2.St) (H : Hp) (δ : DEnv) (μ : Sto) (Φ : Option Int → Sto → Prop) (Q : Option Int → Hp → Prop), B.S σ H δ μ → φ B.Ψ δ μ Φ →
  (∀ o H' μ', B.S σ H' δ μ' → Evo μ H μ' H' → Φ o μ' → Q o H') → to σ H Q
theorem sNoPart {B : Bx K} : SO B tNoPart dNoPart := fun σ H δ μ Φ Q S q k => k none H μ S .refl q
theorem sPart {B : Bx K} {te : TE} {φ : DE} (a : SE B te φ) : SO B (tPart te) (dPart φ) := fun σ H δ μ Φ Q S q k =>
  a σ H δ μ _ _ S q fun v H1 x μ1 S1 e1 r1 q1 => by
    obtain ⟨i, rfl, q2⟩ := q1
    obtain rfl := Rep.int_inv r1
    exact ⟨i, rfl, k (some i) H1 μ1 S1 e1 q2⟩
def cutD (xs : List D) (lo hi : Option Int) : List D := (xs.drop (HT.sIx xs.length 0 lo)).take (HT.sIx xs.length xs.length hi - HT.sIx xs.length 0 lo)
theorem cut_reps {μ : Sto} {H : Hp} {vs : List V} {ds : List D} (r : Reps K μ H vs ds) (lo hi : Option Int) : Reps K μ H (cutV vs lo hi) (cutD ds lo hi) := by
  unfold cutV cutD
  rw [r.length]
  exact (r.drop _).take _
def dSlT (φ : DE) (ol oh : XP → DEnv → Sto → (Option Int → Sto → Prop) → Prop) : DE := fun Ψ δ μ Φ => φ Ψ δ μ fun x μ1 => ol Ψ δ μ1 fun lo μ2 => oh Ψ δ μ2 fun hi μ3 => ∃ ds, x = .tup ds ∧ Φ (.tup (cutD ds lo hi)) μ3
theorem cutD_whole {ds : List D} {lo hi : Option Int} (h : HT.sIx ds.length 0 lo = 0 ∧ HT.sIx ds.length ds.length hi = ds.length) : cutD ds lo hi = ds := by
  unfold cutD
  rw [h.1, h.2, List.drop_zero, Nat.sub_zero, List.take_length]
theorem sSlT {B : Bx K} {te : TE} {tl th : TO} {φ : DE} {ol oh : XP → DEnv → Sto → (Option Int → Sto → Prop) → Prop} (a : SE B te φ) (b : SO B tl ol) (c : SO B th oh) : SE B (tSl (rSlA K) te tl th) (dSlT φ ol oh) := fun σ H δ μ Φ Q S q k =>
  a σ H δ μ _ _ S q fun v H1 x μ1 S1 e1 r1 q1 => b σ H1 δ μ1 _ _ S1 q1 fun lo H2 μ2 S2 e2 q2 => c σ H2 δ μ2 _ _ S2 q2 fun hi H3 μ3 S3 e3 q3 => by
    obtain ⟨ds, rfl, q3⟩ := q3
    obtain ⟨p, vs, rfl, h1, h2⟩ := Rep.tup_inv ((r1.mono e2).mono e3)
    refine ⟨p, vs, rfl, h1.sq, fun w => ?_, fun w o ho => ?_⟩
    · rw [h2.length] at w
      rw [cutD_whole w] at q3
      exact k _ H3 _ μ3 S3 ((e1.trans e2).trans e3) (.tup h1 h2 .nil) q3
    · exact k _ _ _ μ3 (S3.step (.new ho) (S3.sto.new ho)) (((e1.trans e2).trans e3).trans (.new ho)) (rep_tup S3.sto ho (cut_reps h2 lo hi)) q3
def dSlL (φ : DE) (ol oh : XP → DEnv → Sto → (Option Int → Sto → Prop) → Prop) : DE := fun Ψ δ μ Φ => φ Ψ δ μ fun x μ1 => ol Ψ δ μ1 fun lo μ2 => oh Ψ δ μ2 fun hi μ3 => ∃ ds, Items μ3 x ds ∧ isTup x = false ∧ Φ (.lst (cutD ds lo hi)) μ3
theorem sSlL {B : Bx K} {te : TE} {tl th : TO} {φ : DE} {ol oh : XP → DEnv → Sto → (Option Int → Sto → Prop) → Prop} (a : SE B te φ) (b : SO B tl ol) (c : SO B th oh) : SE B (tSl (rSlL K) te tl th) (dSlL φ ol oh) := fun σ H δ μ Φ Q S q k =>
  a σ H δ μ _ _ S q fun v H1 x μ1 S1 e1 r1 q1 => b σ H1 δ μ1 _ _ S1 q1 fun lo H2 μ2 S2 e2 q2 => c σ H2 δ μ2 _ _ S2 q2 fun hi H3 μ3 S3 e3 q3 => by
    obtain ⟨ds, hi', hn, q3⟩ := q3
    obtain ⟨p, vs, rfl, h1, h2⟩ := hi'.okL S3.sto ((r1.mono e2).mono e3) hn
    exact ⟨p, vs, rfl, h1, fun o ho => k _ _ _ μ3 (S3.step (.new ho) (S3.sto.new ho)) (((e1.trans e2).trans e3).trans (.new ho)) (rep_lst S3.sto ho (cut_reps h2 lo hi)) q3⟩
/-- xs[::-1], lists -/
def dRevL (φ : DE) : DE := fun Ψ δ μ Φ => φ Ψ δ μ fun x μ1 => ∃ ds, Items μ1 x ds ∧ isTup x = false ∧ Φ (.lst ds.reverse) μ1
theorem sRevL {B : Bx K} {te : TE} {φ : DE} (a : SE B te φ) : SE B (tRevL K te) (dRevL φ) := fun σ H δ μ Φ Q S q k =>
  a σ H δ μ _ _ S q fun v H1 x μ1 S1 e1 r1 q1 => by
    obtain ⟨ds, hi, hn, q2⟩ := q1
    obtain ⟨p, vs, rfl, h1, h2⟩ := hi.okL S1.sto r1 hn
    exact ⟨p, vs, rfl, h1, fun o ho => k _ _ _ μ1 (S1.step (.new ho) (S1.sto.new ho)) (e1.trans (.new ho)) (rep_lst S1.sto ho h2.reverse) q2⟩
/-! ### calls of what is built in -/
abbrev DC := List D → Sto → DK → Prop
def RC (K : Fg) (r : List V → Hp → VK → Prop) (ρ : DC) : Prop := ∀ (H : Hp) (μ : Sto) (vs : List V) (ds : List D) (Φ : DK) (Q : VK), StoOk K μ H → Reps K μ H vs ds → ρ ds μ Φ →
  (∀ z H' c μ', Evo μ H μ' H' → StoOk K μ' H' → Rep K μ' H' z c → Φ c μ' → Q z H') → r vs H Q
def dCB (ρ : DC) (ψ : DA) : DE := fun Ψ δ μ Φ => ψ Ψ δ μ fun xs μ1 => ρ xs μ1 Φ
theorem sCB {B : Bx K} {r : List V → Hp → VK → Prop} {ρ : DC} {tas : TA} {ψ : DA} (h : RC K r ρ) (a : SA B tas ψ) : SE B (tCB r tas) (dCB ρ ψ) := fun σ H δ μ Φ Q S q k =>
  a σ H δ μ _ _ S q fun vs H1 xs μ1 S1 e1 r1 q1 => h H1 μ1 vs xs Φ Q S1.sto r1 q1 fun z H3 c μ3 e3 s3 r3 p => k z H3 c μ3 (S1.step e3 s3) (e1.trans e3) r3 p
theorem reps1 {μ : Sto} {H : Hp} {vs : List V} {d : D} (r : Reps K μ H vs [d]) : ∃ v, vs = [v] ∧ Rep K μ H v d := by
  cases vs with
  | nil => have := r.length; simp at this
  | cons v vs =>
    cases vs with
    | nil => exact ⟨v, rfl, r⟩
    | cons w vs => have := r.length; simp at this
theorem reps2 {μ : Sto} {H : Hp} {vs : List V} {d e : D} (r : Reps K μ H vs [d, e]) : ∃ v w, vs = [v, w] ∧ Rep K μ H v d ∧ Rep K μ H w e := by
  cases vs with
  | nil => have := r.length; simp at this
  | cons v vs =>
    obtain ⟨w, rfl, r2⟩ := reps1 r.split.2
    exact ⟨v, w, rfl, r.split.1, r2⟩
def cLen : DC := fun xs μ Φ => ∃ x ds, xs = [x] ∧ Items μ x ds ∧ Φ (.int ds.length) μ
theorem rcLen : RC K (fun xs H Q => ∃ p ys, xs = [.ref p] ∧ (SqL K H p ys ∨ SqT K H p ys) ∧ Q (.int ys.length) H) cLen := fun H μ vs ds Φ Q s r q k => by
  obtain ⟨x, es, rfl, hi, q⟩ := q
  obtain ⟨v, rfl, r⟩ := reps1 r
  obtain ⟨a, us, rfl, h1, h2⟩ := hi.ok s r
  refine ⟨a, us, rfl, h1, ?_⟩
  rw [h2.length]
  exact k _ H _ μ .refl s (.int _ .nil) q
/-- list(..) of a list or tuple -/
def cList : DC := fun xs μ Φ => ∃ x ds, xs = [x] ∧ Items μ x ds ∧ Φ (.lst ds) μ
theorem rcList : RC K (fun xs H Q => ∃ p ys, xs = [.ref p] ∧ (SqL K H p ys ∨ SqT K H p ys) ∧ ∀ l, H l = none → Q (.ref l) (upd H l (.lst ys))) cList := fun H μ vs ds Φ Q s r q k => by
  obtain ⟨x, es, rfl, hi, q⟩ := q
  obtain ⟨v, rfl, r⟩ := reps1 r
  obtain ⟨a, us, rfl, h1, h2⟩ := hi.ok s r
  exact ⟨a, us, rfl, h1, fun p hp => k _ _ _ μ (.new hp) (s.new hp) (rep_lst s hp h2) q⟩
/-- the same, a handle -/
def cListOwn : DC := fun xs μ Φ => ∃ x ds, xs = [x] ∧ Items μ x ds ∧ ∀ p, μ p = none → Φ (.hd (.ref p)) (sset μ p (.lst ds))
theorem rcListOwn : RC K (fun xs H Q => ∃ p ys, xs = [.ref p] ∧ (SqL K H p ys ∨ SqT K H p ys) ∧ ∀ l, H l = none → Q (.ref l) (upd H l (.lst ys))) cListOwn := fun H μ vs ds Φ Q s r q k => by
  obtain ⟨x, es, rfl, hi, q⟩ := q
  obtain ⟨v, rfl, r⟩ := reps1 r
  obtain ⟨a, us, rfl, h1, h2⟩ := hi.ok s r
  exact ⟨a, us, rfl, h1, fun p hp => k _ _ _ _ (.newC s hp) (sto_own s hp h2) (.hd _ .nil) (q p (s.fresh hp))⟩
def cTuple : DC := fun xs μ Φ => ∃ x ds, xs = [x] ∧ Items μ x ds ∧ Φ (.tup ds) μ
theorem rcTuple : RC K (fun xs H Q => ∃ p ys, xs = [.ref p] ∧ ((SqL K H p ys ∧ ∀ l, H l = none → Q (.ref l) (upd H l (.tup ys))) ∨ (SqT K H p ys ∧ Q (.ref p) H))) cTuple := fun H μ vs ds Φ Q s r q k => by
  obtain ⟨x, es, rfl, hi, q⟩ := q
  obtain ⟨v, rfl, r⟩ := reps1 r
  cases hi with
  | tup => obtain ⟨a, us, rfl, h1, h2⟩ := Rep.tup_inv r; exact ⟨a, us, rfl, .inr ⟨h1.sq, k _ H _ μ .refl s r q⟩⟩
  | lst => obtain ⟨a, us, rfl, h1, h2⟩ := (Items.lst es).okL s r rfl; exact ⟨a, us, rfl, .inl ⟨h1, fun p hp => k _ _ _ μ (.new hp) (s.new hp) (rep_tup s hp h2) q⟩⟩
  | own h => obtain ⟨a, us, rfl, h1, h2⟩ := (Items.own h).okL s r rfl; exact ⟨a, us, rfl, .inl ⟨h1, fun p hp => k _ _ _ μ (.new hp) (s.new hp) (rep_tup s hp h2) q⟩⟩
  | frz h => obtain ⟨a, us, rfl, h1, h2⟩ := (Items.frz h).okL s r rfl; exact ⟨a, us, rfl, .inl ⟨h1, fun p hp => k _ _ _ μ (.new hp) (s.new hp) (rep_tup s hp h2) q⟩⟩
  | scr ns => obtain ⟨a, us, rfl, h1, h2⟩ := (Items.scr ns).okL s r rfl; exact ⟨a, us, rfl, .inl ⟨h1, fun p hp => k _ _ _ μ (.new hp) (s.new hp) (rep_tup s hp h2) q⟩⟩
def cInt : DC := fun xs μ Φ => ∃ i, xs = [.int i] ∧ Φ (.int i) μ ∨ ∃ b, xs = [.bl b] ∧ Φ (.int (if b then 1 else 0)) μ
theorem rcInt : RC K (fun xs H Q => (∃ i, xs = [.int i] ∧ Q (.int i) H) ∨ ∃ k, xs = [.bl k] ∧ Q (.int (if k then 1 else 0)) H) cInt := fun H μ vs ds Φ Q s r q k => by
  obtain ⟨i, q⟩ := q
  rcases q with ⟨rfl, q⟩ | ⟨b, rfl, q⟩
  · obtain ⟨v, rfl, r⟩ := reps1 r
    obtain rfl := Rep.int_inv r
    exact .inl ⟨i, rfl, k _ H _ μ .refl s r q⟩
  · obtain ⟨v, rfl, r⟩ := reps1 r
    obtain rfl := Rep.bl_inv r
    exact .inr ⟨b, rfl, k _ H _ μ .refl s (.int _ .nil) q⟩
theorem reps_bls {μ : Sto} {H : Hp} : ∀ {vs : List V} {bs : List Bool}, Reps K μ H vs (bs.map .bl) → vs = bs.map .bl
  | [], [], _ => rfl
  | [], _ :: _, r => by have := r.length; simp at this
  | _ :: _, [], r => by have := r.length; simp at this
  | v :: vs, b :: bs, r => by
    have e := Rep.bl_inv r.split.1
    have ih := reps_bls r.split.2
    rw [e, ih, List.map_cons]
theorem reps_intsV {μ : Sto} {H : Hp} : ∀ {vs : List V} {ns : List Int}, Reps K μ H vs (ns.map .int) → vs = ns.map .int
  | [], [], _ => rfl
  | [], _ :: _, r => by have := r.length; simp at this
  | _ :: _, [], r => by have := r.length; simp at this
  | v :: vs, b :: bs, r => by
    have e := Rep.int_inv r.split.1
    have ih := reps_intsV r.split.2
    rw [e, ih, List.map_cons]
def cAll : DC := fun xs μ Φ => ∃ bs : List Bool, xs = [.lst (bs.map .bl)] ∧ Φ (.bl (bs.all id)) μ
def cAny : DC := fun xs μ Φ => ∃ bs : List Bool, xs = [.lst (bs.map .bl)] ∧ Φ (.bl (bs.any id)) μ
theorem rcAll : RC K (rAll K) cAll := fun H μ vs ds Φ Q s r q k => by
  obtain ⟨bs, rfl, q⟩ := q
  obtain ⟨v, rfl, r⟩ := reps1 r
  obtain ⟨a, us, rfl, h1, h2⟩ := Rep.lst_inv r
  have e := reps_bls h2
  subst e
  exact ⟨a, bs, rfl, h1.sq, k _ H _ μ .refl s (.bl _ .nil) q⟩
theorem rcAny : RC K (rAny K) cAny := fun H μ vs ds Φ Q s r q k => by
  obtain ⟨bs, rfl, q⟩ := q
  obtain ⟨v, rfl, r⟩ := reps1 r
  obtain ⟨a, us, rfl, h1, h2⟩ := Rep.lst_inv r
  have e := reps_bls h2
  subst e
  exact ⟨a, bs, rfl, h1.sq, k _ H _ μ .refl s (.bl _ .nil) q⟩
def cMin2 : DC := fun xs μ Φ => ∃ i j, xs = [.int i, .int j] ∧ Φ (.int (if j < i then j else i)) μ
theorem rcMin2 : RC K (fun xs H Q => ∃ i j, xs = [.int i, .int j] ∧ Q (.int (if j < i then j else i)) H) cMin2 := fun H μ vs ds Φ Q s r q k => by
  obtain ⟨i, j, rfl, q⟩ := q
  obtain ⟨v, w, rfl, r1, r2⟩ := reps2 r
  obtain rfl := Rep.int_inv r1
  obtain rfl := Rep.int_inv r2
  exact ⟨i, j, rfl, k _ H _ μ .refl s (.int _ .nil) q⟩
def cMax2 : DC := fun xs μ Φ => ∃ i j, xs = [.int i, .int j] ∧ Φ (.int (if j > i then j else i)) μ
theorem rcMax2 : RC K (fun xs H Q => ∃ i j, xs = [.int i, .int j] ∧ Q (.int (if j > i then j else i)) H) cMax2 := fun H μ vs ds Φ Q s r q k => by
  obtain ⟨i, j, rfl, q⟩ := q
  obtain ⟨v, w, rfl, r1, r2⟩ := reps2 r
  obtain rfl := Rep.int_inv r1
  obtain rfl := Rep.int_inv r2
  exact ⟨i, j, rfl, k _ H _ μ .refl s (.int _ .nil) q⟩
def cDivmod : DC := fun xs μ Φ => ∃ i j, xs = [.int i, .int j] ∧ CDivP i j ∧ Φ (.tup [.int (i / j), .int (i % j)]) μ
theorem rcDivmod : RC K (fun xs H Q => ∃ i j, xs = [.int i, .int j] ∧ CDivP i j ∧ ∀ p, H p = none → Q (.ref p) (upd H p (.tup [.int (i / j), .int (i % j)]))) cDivmod := fun H μ vs ds Φ Q s r q k => by
  obtain ⟨i, j, rfl, hc, q⟩ := q
  obtain ⟨v, w, rfl, r1, r2⟩ := reps2 r
  obtain rfl := Rep.int_inv r1
  obtain rfl := Rep.int_inv r2
  exact ⟨i, j, rfl, hc, fun p hp => k _ _ _ μ (.new hp) (s.new hp) (rep_tup s hp (.int _ (.int _ .nil))) q⟩
/-! isinstance with a built-in class -/
def tyD : D → Option String
  | .non => some "NoneType"
  | .bl _ => some "bool"
  | .int _ => some "int"
  | .str _ => some "str"
  | .tup _ => some "tuple"
  | .lst _ => some "list"
  | _ => none
theorem tyD_ok {μ : Sto} {H : Hp} {v : V} {d : D} {n : String} (r : Rep K μ H v d) (h : tyD d = some n) : TyX K H v (.type n) := by
  cases d with
  | non => cases h; cases r; exact .base .non
  | bl b => cases h; cases r; exact .base (.bl b)
  | int i => cases h; cases r; exact .base (.int i)
  | str i => cases h; cases r; exact .base (.str i)
  | tup ds =>
    cases h
    obtain ⟨a, vs, rfl, h1, h2⟩ := Rep.tup_inv r
    rcases h1 with ⟨h1 | ⟨o, h1⟩, _⟩ | ⟨o, its, n, h1, h3, _⟩
    · exact .base (.tup h1)
    · exact .fTuple h1
    · exact .kTuple h1 h3
  | lst ds =>
    cases h
    obtain ⟨a, vs, rfl, h1, h2⟩ := Rep.lst_inv r
    exact .base (.lst h1.1)
  | obj C ns ds => cases h
  | hd v => cases h
  | scr ns => cases h
def instB : D → String → Option Bool
  | .non, "int" => some false | .non, "bool" => some false | .non, "str" => some false | .non, "tuple" => some false | .non, "list" => some false
  | .int _, "int" => some true | .int _, "bool" => some false | .int _, "str" => some false | .int _, "tuple" => some false | .int _, "list" => some false
  | .bl _, "int" => some true | .bl _, "bool" => some true | .bl _, "str" => some false | .bl _, "tuple" => some false | .bl _, "list" => some false
  | .str _, "int" => some false | .str _, "bool" => some false | .str _, "str" => some true | .str _, "tuple" => some false | .str _, "list" => some false
  | .tup _, "int" => some false | .tup _, "bool" => some false | .tup _, "str" => some false | .tup _, "tuple" => some true | .tup _, "list" => some false
  | .lst _, "int" => some false | .lst _, "bool" => some false | .lst _, "str" => some false | .lst _, "tuple" => some false | .lst _, "list" => some true
  | _, _ => none
theorem instB_ok {d : D} {T : String} {b : Bool} (h : instB d T = some b) : ∃ n, tyD d = some n ∧ kitB n T = some b := by
  unfold instB at h
  split at h <;> first | (cases h; done) | (cases h; exact ⟨_, rfl, by decide +kernel⟩)
def cIsi (T : String) : DC := fun xs μ Φ => ∃ x b, xs = [x, .hd (.ty T)] ∧ instB x T = some b ∧ Φ (.bl b) μ
theorem rcIsi {T : String} : RC K (rIsi K) (cIsi T) := fun H μ vs ds Φ Q s r q k => by
  obtain ⟨x, b, rfl, hi, q⟩ := q
  obtain ⟨n, hn, hk⟩ := instB_ok hi
  obtain ⟨v, w, rfl, r1, r2⟩ := reps2 r
  obtain rfl := Rep.hd_inv r2
  exact ⟨v, _, _, _, b, rfl, .ty T, tyD_ok r1 hn, kit_ty hk, k _ H _ μ .refl s (.bl _ .nil) q⟩
/-! ### methods of handles -/
def dApp (φa φb : DE) : DE := fun Ψ δ μ Φ => φa Ψ δ μ fun x μ1 => ∃ a ds, x = .hd (.ref a) ∧ μ1 a = some (.lst ds) ∧ φb Ψ δ μ1 fun y μ2 => ∃ es, μ2 a = some (.lst es) ∧ es.length ≤ 100000 ∧ Φ .non (sset μ2 a (.lst (es ++ [y])))
theorem own_upd {μ : Sto} {H : Hp} {a : Addr} {ds es : List D} {us : List V} (s : StoOk K μ H) (h : μ a = some (.lst ds)) (r : Reps K (sset μ a (.lst es)) (upd H a (.lst us)) us es) : Evo μ H (sset μ a (.lst es)) (upd H a (.lst us)) ∧ StoOk K (sset μ a (.lst es)) (upd H a (.lst us)) := by
  have e : Evo μ H (sset μ a (.lst es)) (upd H a (.lst us)) := .cell h fun n => n.notL h
  exact ⟨e, s.cell e ⟨us, upd_same, r⟩⟩
theorem own_evo {μ : Sto} {H : Hp} {a : Addr} {ds es : List D} {us : List V} (h : μ a = some (.lst ds)) : Evo μ H (sset μ a (.lst es)) (upd H a (.lst us)) := .cell h fun n => n.notL h
theorem sApp {B : Bx K} {ta tb : TE} {φa φb : DE} (a : SE B ta φa) (b : SE B tb φb) : SE B (tBM K "list" rAppend ta (tCons tb tNil)) (dApp φa φb) := fun σ H δ μ Φ Q S q k =>
  a σ H δ μ _ _ S q fun v H1 x μ1 S1 e1 r1 q1 => by
    obtain ⟨p, ds, rfl, hp, q1⟩ := q1
    obtain rfl := Rep.hd_inv r1
    obtain ⟨us, h1, h2⟩ := S1.sto _ _ hp
    refine ⟨.inl ⟨rfl, us, .of h1⟩, b σ H1 δ μ1 _ _ S1 q1 fun w H2 y μ2 S2 e2 r2 q2 => ?_⟩
    obtain ⟨es, hp2, hz, q2⟩ := q2
    obtain ⟨ws, h3, h4⟩ := S2.sto _ _ hp2
    refine ⟨p, ws, w, rfl, rfl, h3, Nat.lt_of_le_of_lt (by rw [h4.length]; exact hz) (by decide), ?_⟩
    have e3 : Evo μ2 H2 (sset μ2 p (.lst (es ++ [y]))) (upd H2 p (.lst (ws ++ [w]))) := own_evo hp2
    obtain ⟨e4, s4⟩ := own_upd S2.sto hp2 ((h4.append r2).mono e3)
    exact k _ _ _ _ (S2.step e4 s4) ((e1.trans e2).trans e4) (.non .nil) q2
/-- o[i] = e, o a handle of a list -/
def eSub (φo φi : DE) : XP → D → DEnv → Sto → (DEnv → Sto → Prop) → Prop := fun Ψ d δ μ Φ => φo Ψ δ μ fun x μ1 => φi Ψ δ μ1 fun y μ2 => ∃ a ds i j, x = .hd (.ref a) ∧ y = .int i ∧ μ2 a = some (.lst ds) ∧ ixN ds.length i = some j ∧ Φ δ (sset μ2 a (.lst (ds.set j d)))
theorem sSub {B : Bx K} {ta tb : TE} {φa φb : DE} (a : SE B ta φa) (b : SE B tb φb) : SG B (gSub ta tb rSetL) (eSub φa φb B.Ψ) := fun v d σ H δ μ Φ Q S r q k =>
  a σ H δ μ _ _ S q fun o H1 x μ1 S1 e1 r1 q1 => b σ H1 δ μ1 _ _ S1 q1 fun i H2 y μ2 S2 e2 r2 q2 => by
    obtain ⟨p, ds, i, j, rfl, rfl, hp, hj, q2⟩ := q2
    obtain rfl := Rep.hd_inv r1
    obtain rfl := Rep.int_inv r2
    obtain ⟨us, h1, h2⟩ := S2.sto _ _ hp
    refine ⟨p, us, i, j, rfl, rfl, h1, by rw [h2.length]; exact hj, ?_⟩
    have e3 : Evo μ2 H2 (sset μ2 p (.lst (ds.set j d))) (upd H2 p (.lst (us.set j v))) := own_evo hp
    obtain ⟨e4, s4⟩ := own_upd S2.sto hp ((h2.set ((r.mono e1).mono e2) j).mono e3)
    exact k σ _ δ _ (S2.step e4 s4) ((e1.trans e2).trans e4) q2
def dAsgS (φ φo φi : DE) : DSt := fun Ψ Δ δ μ => φ Ψ δ μ fun x μ1 => eSub φo φi Ψ x δ μ1 Δ.nx
theorem sAsgS {B : Bx K} {te ta tb : TE} {φ φa φb : DE} (e : SE B te φ) (a : SE B ta φa) (b : SE B tb φb) : SS B (tAsg te (gSub ta tb rSetL)) (dAsgS φ φa φb) := fun D Δ σ H δ μ E S q =>
  e σ H δ μ _ _ S q fun v H1 x μ1 S1 e1 r1 q1 => sSub a b v x σ H1 δ μ1 _ _ S1 r1 q1 fun σ2 H2 δ2 μ2 S2 e2 q2 => E.nx σ2 H2 δ2 μ2 S2 q2
end
end DW
set_option Elab.async false
set_option linter.all false
set_option maxRecDepth 100000
namespace DW
open PySem PySem.Spec L2
section
variable {K : Fg} {B : Bx K}
/-! ### what is walked -/
abbrev DI := XP → DEnv → Sto → (List D → Sto → Prop) → Prop
/-- the iterator hands out the items, as long as what stood still stands -/
def IterOk (K : Fg) (μ1 : Sto) (H1 : Hp) (J : It) (xs : List D) : Prop := ∀ (i : Nat) (H : Hp) (μ : Sto), StoOk K μ H → Evo μ1 H1 μ H →
  (i < xs.length → J.go i H ∧ ∀ x H', J.yld i H x H' → ∃ d, xs[i]? = some d ∧ StoOk K μ H' ∧ Evo μ H μ H' ∧ Rep K μ H' x d) ∧ (xs.length ≤ i → J.stop i H)
def SI (B : Bx K) (wi : TI) (ι : DI) : Prop := ∀ (σ : L2.St) (H : Hp) (δ : DEnv) (μ : Sto) (Φ : List D → Sto → Prop) (R : It → Hp → Prop), B.S σ H δ μ → ι B.Ψ δ μ Φ →
  (∀ xs J H' μ', B.S σ H' δ μ' → Evo μ H μ' H' → IterOk K μ' H' J xs → Φ xs μ' → R J H') → wi σ H R
def iSeqT (φ : DE) : DI := fun Ψ δ μ Φ => φ Ψ δ μ fun x μ1 => ∃ ds, x = .tup ds ∧ Φ ds μ1
def iSeqL (φ : DE) : DI := fun Ψ δ μ Φ => φ Ψ δ μ fun x μ1 => ∃ ds, x = .lst ds ∧ Φ ds μ1
theorem siT {te : TE} {φ : DE} (a : SE B te φ) : SI B (iTup K te) (iSeqT φ) := fun σ H δ μ Φ R S q k =>
  a σ H δ μ _ _ S q fun v H1 x μ1 S1 e1 r1 q1 => by
    obtain ⟨ds, rfl, q2⟩ := q1
    obtain ⟨p, vs, rfl, h1, h2⟩ := Rep.tup_inv r1
    refine ⟨p, rfl, ⟨vs, h1.sq⟩, k ds _ H1 μ1 S1 e1 (fun i H2 μ2 s2 e2 => ⟨fun hi => ?_, fun hi => ⟨vs, (h1.mono e2).sq, by rw [h2.length]; exact hi⟩⟩) q2⟩
    have hv : i < vs.length := by rw [h2.length]; exact hi
    refine ⟨⟨vs, vs[i], (h1.mono e2).sq, List.getElem?_eq_getElem hv⟩, fun x H' ⟨eH, hy⟩ => ?_⟩
    subst eH
    obtain ⟨d, hd, rd⟩ := (h2.mono e2).getV (hy vs (h1.mono e2).sq)
    exact ⟨d, hd, s2, .refl, rd⟩
theorem siL {te : TE} {φ : DE} (a : SE B te φ) : SI B (iList K te) (iSeqL φ) := fun σ H δ μ Φ R S q k =>
  a σ H δ μ _ _ S q fun v H1 x μ1 S1 e1 r1 q1 => by
    obtain ⟨ds, rfl, q2⟩ := q1
    obtain ⟨p, vs, rfl, h1, h2⟩ := Rep.lst_inv r1
    refine ⟨p, rfl, ⟨vs, h1.sq⟩, k ds _ H1 μ1 S1 e1 (fun i H2 μ2 s2 e2 => ⟨fun hi => ?_, fun hi => ⟨vs, (h1.mono e2).sq, by rw [h2.length]; exact hi⟩⟩) q2⟩
    have hv : i < vs.length := by rw [h2.length]; exact hi
    refine ⟨⟨vs, vs[i], (h1.mono e2).sq, List.getElem?_eq_getElem hv⟩, fun x H' ⟨eH, hy⟩ => ?_⟩
    subst eH
    obtain ⟨d, hd, rd⟩ := (h2.mono e2).getV (hy vs (h1.mono e2).sq)
    exact ⟨d, hd, s2, .refl, rd⟩
def rngD (lo : Int) (n : Nat) : List D := (List.range n).map fun (i : Nat) => .int (lo + (i : Int))
theorem rngD_len {lo : Int} {n : Nat} : (rngD lo n).length = n := by unfold rngD; rw [List.length_map, List.length_range]
theorem rngD_at {lo : Int} {n i : Nat} (h : i < n) : (rngD lo n)[i]? = some (.int (lo + (i : Int))) := by
  unfold rngD
  rw [List.getElem?_map, List.getElem?_range h]
  rfl
theorem iter_rng {μ : Sto} {H : Hp} {lo : Int} {n : Nat} : IterOk K μ H (Itr lo n) (rngD lo n) := fun i H2 μ2 s2 e2 => by
  rw [rngD_len]
  refine ⟨fun hi => ⟨hi, fun x H' ⟨eH, hy⟩ => ?_⟩, fun hi => hi⟩
  subst eH hy
  exact ⟨_, rngD_at hi, s2, .refl, .int _ .nil⟩
def iR1 (φ : DE) : DI := fun Ψ δ μ Φ => φ Ψ δ μ fun x μ1 => ∃ j, x = .int j ∧ j < 4611686018427387904 ∧ -4611686018427387904 ≤ j ∧ Φ (rngD 0 j.toNat) μ1
theorem siR1 {te : TE} {φ : DE} (a : SE B te φ) : SI B (iRng1 (tCons te tNil)) (iR1 φ) := fun σ H δ μ Φ R S q k =>
  a σ H δ μ _ _ S q fun v H1 x μ1 S1 e1 r1 q1 => by
    obtain ⟨j, rfl, h1, h2, q2⟩ := q1
    obtain rfl := Rep.int_inv r1
    exact ⟨j, rfl, by omega, by omega, k _ _ H1 μ1 S1 e1 iter_rng q2⟩
def iR2 (φ φ' : DE) : DI := fun Ψ δ μ Φ => φ Ψ δ μ fun x μ1 => φ' Ψ δ μ1 fun y μ2 => ∃ i j, x = .int i ∧ y = .int j ∧ (-4611686018427387904 ≤ i ∧ i < 4611686018427387904 ∧ -4611686018427387904 ≤ j ∧ j < 4611686018427387904) ∧ Φ (rngD i (j - i).toNat) μ2
theorem siR2 {te tf : TE} {φ φ' : DE} (a : SE B te φ) (b : SE B tf φ') : SI B (iRng2 (tCons te (tCons tf tNil))) (iR2 φ φ') := fun σ H δ μ Φ R S q k =>
  a σ H δ μ _ _ S q fun v H1 x μ1 S1 e1 r1 q1 => b σ H1 δ μ1 _ _ S1 q1 fun w H2 y μ2 S2 e2 r2 q2 => by
    obtain ⟨i, j, rfl, rfl, h, q2⟩ := q2
    obtain rfl := Rep.int_inv r1
    obtain rfl := Rep.int_inv r2
    exact ⟨i, j, rfl, by omega, k _ _ H2 μ2 S2 (e1.trans e2) iter_rng q2⟩
/-- zip of two tuples -/
def iZipT (φ φ' : DE) : DI := fun Ψ δ μ Φ => φ Ψ δ μ fun x μ1 => φ' Ψ δ μ1 fun y μ2 => ∃ xs ys, x = .tup xs ∧ y = .tup ys ∧ Φ ((xs.zip ys).map fun p => .tup [p.1, p.2]) μ2
theorem siZipT {te tf : TE} {φ φ' : DE} (a : SE B te φ) (b : SE B tf φ') : SI B (RZ.iZipA K (tCons te (tCons tf tNil))) (iZipT φ φ') := fun σ H δ μ Φ R S q k =>
  a σ H δ μ _ _ S q fun v H1 x μ1 S1 e1 r1 q1 => b σ H1 δ μ1 _ _ S1 q1 fun w H2 y μ2 S2 e2 r2 q2 => by
    obtain ⟨xs, ys, rfl, rfl, q2⟩ := q2
    obtain ⟨p, vs, rfl, h1, h2⟩ := Rep.tup_inv (r1.mono e2)
    obtain ⟨p', us, rfl, h3, h4⟩ := Rep.tup_inv r2
    refine ⟨p, p', vs, us, rfl, .inr ⟨h1.sq, h3.sq, k _ _ H2 μ2 S2 (e1.trans e2) (fun i H3 μ3 s3 e3 => ?_) q2⟩⟩
    rw [List.length_map, List.length_zip]
    have l1 := h2.length
    have l2 := h4.length
    refine ⟨fun hi => ?_, fun hi => ⟨vs, us, (h1.mono e3).sq, (h3.mono e3).sq, by omega⟩⟩
    have hv : i < vs.length := by omega
    have hu : i < us.length := by omega
    refine ⟨⟨vs, us, vs[i], us[i], (h1.mono e3).sq, (h3.mono e3).sq, List.getElem?_eq_getElem hv, List.getElem?_eq_getElem hu⟩, fun z H' ⟨T, v1, v2, ez, hT, eH, hy1, hy2⟩ => ?_⟩
    subst ez eH
    obtain ⟨d1, hd1, rd1⟩ := (h2.mono e3).getV (hy1 vs (h1.mono e3).sq)
    obtain ⟨d2, hd2, rd2⟩ := (h4.mono e3).getV (hy2 us (h3.mono e3).sq)
    refine ⟨.tup [d1, d2], ?_, s3.new hT, .new hT, rep_tup s3 hT (.cons rd1 (.cons rd2 .nil))⟩
    rw [List.getElem?_map, (List.getElem?_zip_eq_some (z := (d1, d2))).mpr ⟨hd1, hd2⟩]
    rfl
/-- a text, sign by sign -/
def iText (φ : DE) : DI := fun Ψ δ μ Φ => φ Ψ δ μ fun x μ1 => ∃ s, x = .str s ∧ Φ (s.cps.toList.map fun c => .str ⟨#[c]⟩) μ1
theorem siText {te : TE} {φ : DE} (a : SE B te φ) : SI B (iStr te) (iText φ) := fun σ H δ μ Φ R S q k =>
  a σ H δ μ _ _ S q fun v H1 x μ1 S1 e1 r1 q1 => by
    obtain ⟨s, rfl, q2⟩ := q1
    obtain rfl := Rep.str_inv r1
    refine ⟨s, rfl, k _ _ H1 μ1 S1 e1 (fun i H2 μ2 s2 e2 => ?_) q2⟩
    rw [List.length_map, Array.length_toList]
    refine ⟨fun hi => ⟨hi, fun z H' ⟨eH, c, hc, ez⟩ => ?_⟩, fun hi => hi⟩
    subst eH ez
    refine ⟨.str ⟨#[c]⟩, ?_, s2, .refl, .str _ .nil⟩
    rw [List.getElem?_map, Array.getElem?_toList, hc]
    rfl
/-- a loop -/
def dFor (ι : DI) (γ : DG) (ω : DSt) : DSt := fun Ψ Δ δ μ => ι Ψ δ μ fun xs μ1 => ∃ W : Nat → DEnv → Sto → Prop, W 0 δ μ1 ∧
  (∀ i d δ' μ', xs[i]? = some d → W i δ' μ' → γ d δ' μ' fun δ2 μ2 => ω Ψ { Δ with nx := W (i + 1), ct := W (i + 1), bk := Δ.nx } δ2 μ2) ∧ ∀ δ' μ', W xs.length δ' μ' → Δ.nx δ' μ'
theorem sFor {wi : TI} {g : TG} {tb : TS} {ι : DI} {γ : DG} {ω : DSt} (a : SI B wi ι) (b : ∀ H1 μ1 e, SG (B.re H1 μ1 e) g γ) (c : ∀ H1 μ1 e, SS (B.re H1 μ1 e) tb ω) : SS B (tFor wi g tb) (dFor ι γ ω) := fun D Δ σ H δ μ E S q =>
  a σ H δ μ _ _ S q fun xs J H1 μ1 S1 e1 it q1 => by
    obtain ⟨W, w0, ws, wd⟩ := q1
    refine ⟨fun i m σ' H' => m = xs.length - i ∧ i ≤ xs.length ∧ ∃ δ' μ', (B.re H1 μ1 S1.evo).S σ' H' δ' μ' ∧ W i δ' μ', ⟨xs.length, by simp, Nat.zero_le _, δ, μ1, ⟨.refl, S1.sto, S1.env⟩, w0⟩, ?_⟩
    rintro i m σ' H' ⟨rfl, hi, δ', μ', S', w⟩
    by_cases hlt : i < xs.length
    · obtain ⟨hgo, hy⟩ := (it i H' μ' S'.sto S'.evo).1 hlt
      refine .inr ⟨hgo, fun σ2 H2 => ∃ δ2 μ2, (B.re H1 μ1 S1.evo).S σ2 H2 δ2 μ2 ∧ W (i + 1) δ2 μ2, fun σ2 H2 ⟨δ2, μ2, S2, w2⟩ => ⟨xs.length - (i + 1), by omega, rfl, by omega, δ2, μ2, S2, w2⟩, fun x H2 y => ?_⟩
      obtain ⟨d, hd, s2, e2, r2⟩ := hy x H2 y
      refine b H1 μ1 S1.evo x d σ' H2 δ' μ' _ _ (S'.step e2 s2) r2 (ws i d δ' μ' hd w) fun σ3 H3 δ3 μ3 S3 e3 q3 => ?_
      exact c H1 μ1 S1.evo _ { Δ with nx := W (i + 1), ct := W (i + 1), bk := Δ.nx } σ3 H3 δ3 μ3 ⟨fun σ4 H4 δ4 μ4 S4 q4 => ⟨δ4, μ4, S4, q4⟩, fun v4 H4 d4 μ4 σ4 δ4 S4 r4 q4 => E.rt v4 H4 d4 μ4 σ4 δ4 ⟨S1.evo.trans S4.evo, S4.sto, S4.env⟩ r4 q4, fun σ4 H4 δ4 μ4 S4 q4 => E.nx σ4 H4 δ4 μ4 ⟨S1.evo.trans S4.evo, S4.sto, S4.env⟩ q4, fun σ4 H4 δ4 μ4 S4 q4 => ⟨δ4, μ4, S4, q4⟩⟩ S3 q3
    · have e : i = xs.length := by omega
      subst e
      exact .inl ⟨(it _ H' μ' S'.sto S'.evo).2 (Nat.le_refl _), E.nx σ' H' δ' μ' ⟨S1.evo.trans S'.evo, S'.sto, S'.env⟩ (wd δ' μ' w)⟩
/-! ### comprehensions -/
def dwipe (δ : DEnv) : List Nat → DEnv
  | [] => δ
  | v :: vs => (dwipe δ vs).set v none
theorem EnvOk.unset {μ : Sto} {H : Hp} {σ : L2.St} {δ : DEnv} (h : EnvOk K μ H σ δ) (j : Nat) : EnvOk K μ H (σ.set j none) (δ.set j none) := ⟨by rw [List.length_set, List.length_set]; exact h.len, fun i x q => by
  rw [List.getElem?_set] at q
  by_cases hj : j = i
  · rw [if_pos hj] at q
    split at q <;> cases q
  · rw [if_neg hj] at q
    obtain ⟨v, e, r⟩ := h.at_ i x q
    exact ⟨v, by rw [List.getElem?_set, if_neg hj]; exact e, r⟩⟩
theorem EnvOk.wipe {μ : Sto} {H : Hp} {σ : L2.St} {δ : DEnv} (h : EnvOk K μ H σ δ) : ∀ vs, EnvOk K μ H (L2.wipe σ vs) (dwipe δ vs)
  | [] => h
  | v :: vs => (EnvOk.wipe h vs).unset v
theorem wipe_get (σ : L2.St) : ∀ (vs : List Nat) (i : Nat), (L2.wipe σ vs)[i]? = if i ∈ vs ∧ i < σ.length then some none else σ[i]?
  | [], i => by simp [L2.wipe]
  | v :: vs, i => by
    have ih := wipe_get σ vs i
    show ((L2.wipe σ vs).set v none)[i]? = _
    rw [List.getElem?_set, L2.wipe_length, ih]
    by_cases h : v = i
    · subst h
      rw [if_pos rfl]
      by_cases hl : v < σ.length
      · rw [if_pos hl, if_pos ⟨List.mem_cons_self, hl⟩]
      · rw [if_neg hl, if_neg fun z => hl z.2, List.getElem?_eq_none (by omega)]
    · rw [if_neg h]
      have : (i ∈ v :: vs ∧ i < σ.length) ↔ (i ∈ vs ∧ i < σ.length) := by
        constructor
        · rintro ⟨a, b⟩
          rcases List.mem_cons.mp a with e | e
          · exact absurd e.symm h
          · exact ⟨e, b⟩
        · rintro ⟨a, b⟩
          exact ⟨List.mem_cons_of_mem _ a, b⟩
      simp only [this]
theorem wipe_set {σ : L2.St} {vs : List Nat} {j : Nat} {x : Option V} (h : j ∈ vs) : L2.wipe (σ.set j x) vs = L2.wipe σ vs := by
  apply List.ext_getElem?
  intro i
  rw [wipe_get, wipe_get, List.length_set, List.getElem?_set]
  by_cases hi : i ∈ vs ∧ i < σ.length
  · rw [if_pos hi, if_pos hi]
  · rw [if_neg hi, if_neg hi]
    by_cases e : j = i
    · subst e
      rw [if_pos rfl, if_neg (fun z => hi ⟨h, z⟩), List.getElem?_eq_none (Nat.le_of_not_lt fun z => hi ⟨h, z⟩)]
    · rw [if_neg e]
theorem wipe_wipe {σ : L2.St} {vs : List Nat} : L2.wipe (L2.wipe σ vs) vs = L2.wipe σ vs := by
  apply List.ext_getElem?
  intro i
  rw [wipe_get, L2.wipe_length, wipe_get]
  split <;> rfl
/-- a target stores nothing but own names -/
def GW (vs : List Nat) (g : TG) : Prop := ∀ (v : V) (σ W : L2.St) (H : Hp) (Q : L2.St → Hp → Prop), L2.wipe σ vs = W → g v σ H Q → g v σ H fun σ2 H2 => L2.wipe σ2 vs = W ∧ Q σ2 H2
def GWs (vs : List Nat) (g : TGs) : Prop := ∀ (v : List V) (σ W : L2.St) (H : Hp) (Q : L2.St → Hp → Prop), L2.wipe σ vs = W → g v σ H Q → g v σ H fun σ2 H2 => L2.wipe σ2 vs = W ∧ Q σ2 H2
theorem gwName {vs : List Nat} {j : Nat} (h : j ∈ vs) : GW vs (gName j) := fun v σ W H Q e q => ⟨by rw [wipe_set h]; exact e, q⟩
theorem gwNil {vs : List Nat} : GWs vs gNil := fun v σ W H Q e q => ⟨q.1, e, q.2⟩
theorem gwCons {vs : List Nat} {g : TG} {gs : TGs} (mono : ∀ v σ H (Q Q' : L2.St → Hp → Prop), (∀ a b, Q a b → Q' a b) → g v σ H Q → g v σ H Q') (a : GW vs g) (b : GWs vs gs) : GWs vs (gCons g gs) := fun v σ W H Q e q => by
  obtain ⟨x, r, rfl, q⟩ := q
  exact ⟨x, r, rfl, mono _ _ _ _ _ (fun σ2 H2 ⟨e2, q2⟩ => b r σ2 W H2 Q e2 q2) (a x σ W H _ e q)⟩
theorem gwConsN {vs : List Nat} {j : Nat} {gs : TGs} (h : j ∈ vs) (b : GWs vs gs) : GWs vs (gCons (gName j) gs) := gwCons (fun _ _ _ _ _ f q => f _ _ q) (gwName h) b
theorem gwTup {vs : List Nat} {n : Nat} {gs : TGs} (b : GWs vs gs) : GW vs (gTup K n gs) := fun v σ W H Q e q => by
  obtain ⟨a, xs, rfl, h1, h2, q⟩ := q
  exact ⟨a, xs, rfl, h1, h2, b xs σ W H Q e q⟩
def dLc (ι : DI) (γ : DG) (θ : DT) (φ : DE) (vs : List Nat) : DE := fun Ψ δ μ Φ => ι Ψ δ μ fun xs μ1 => ∀ p, μ1 p = none → ∃ W : Nat → Sto → Prop, W 0 (sset μ1 p (.lst [])) ∧
  (∀ i d μ2, xs[i]? = some d → W i μ2 → γ d (dwipe δ vs) μ2 fun δ3 μ3 => θ Ψ δ3 μ3 fun b μ4 =>
    (b = true → φ Ψ δ3 μ4 fun y μ5 => ∃ acc, μ5 p = some (.lst acc) ∧ acc.length ≤ 100000 ∧ W (i + 1) (sset μ5 p (.lst (acc ++ [y])))) ∧ (b = false → W (i + 1) μ4)) ∧
  ∀ μ2, W xs.length μ2 → ∃ acc, μ2 p = some (.lst acc) ∧ Φ (.lst acc) (sdel μ2 p)
theorem sLc {wi : TI} {g : TG} {tt : TT} {te : TE} {vs : List Nat} {ι : DI} {γ : DG} {θ : DT} {φ : DE} (a : SI B wi ι) (w : GW vs g) (b : ∀ H1 μ1 e, SG (B.re H1 μ1 e) g γ) (c : ∀ H1 μ1 e, ST (B.re H1 μ1 e) tt θ) (d : ∀ H1 μ1 e, SE (B.re H1 μ1 e) te φ) :
    SE B (tLc wi g tt te vs) (dLc ι γ θ φ vs) := fun σ H δ μ Φ Q S q k =>
  a σ H δ μ _ _ S q fun xs J H1 μ1 S1 e1 it q1 => fun p hp => by
    have hμp : μ1 p = none := S1.sto.fresh hp
    obtain ⟨W, w0, ws, wd⟩ := q1 p hμp
    refine ⟨fun i m H' => m = xs.length - i ∧ i ≤ xs.length ∧ ∃ μ', Evo μ1 H1 μ' H' ∧ StoOk K μ' H' ∧ W i μ', ⟨xs.length, by simp, Nat.zero_le _, _, .newC S1.sto hp, sto_own S1.sto hp .nil, w0⟩, ?_⟩
    rintro i m H' ⟨rfl, hi, μ', e', s', wi'⟩
    by_cases hlt : i < xs.length
    · obtain ⟨hgo, hy⟩ := (it i H' μ' s' e').1 hlt
      refine .inr ⟨hgo, fun H2 => ∃ μ2, Evo μ1 H1 μ2 H2 ∧ StoOk K μ2 H2 ∧ W (i + 1) μ2, fun H2 ⟨μ2, e2, s2, w2⟩ => ⟨xs.length - (i + 1), by omega, rfl, by omega, μ2, e2, s2, w2⟩, fun x H2 y => ?_⟩
      obtain ⟨dd, hd, s2, e2, r2⟩ := hy x H2 y
      have S2 : (B.re H1 μ1 S1.evo).S (L2.wipe σ vs) H2 (dwipe δ vs) μ' := ⟨e'.trans e2, s2, ((S1.env.mono e').mono e2).wipe vs⟩
      refine w x (L2.wipe σ vs) (L2.wipe σ vs) H2 _ wipe_wipe ?_
      refine b H1 μ1 S1.evo x dd (L2.wipe σ vs) H2 (dwipe δ vs) μ' _ _ S2 r2 (ws i dd μ' hd wi') fun σ3 H3 δ3 μ3 S3 e3 q3 => ?_
      refine c H1 μ1 S1.evo σ3 H3 δ3 μ3 _ _ S3 q3 fun b4 H4 μ4 S4 e4 q4 => ?_
      cases b4 with
      | true =>
        rw [if_pos rfl]
        refine d H1 μ1 S1.evo σ3 H4 δ3 μ4 _ _ S4 (q4.1 rfl) fun v5 H5 y5 μ5 S5 e5 r5 q5 => ?_
        obtain ⟨acc, hacc, hz, w5⟩ := q5
        obtain ⟨us, h5, hr5⟩ := S5.sto _ _ hacc
        have e6 : Evo μ5 H5 (sset μ5 p (.lst (acc ++ [y5]))) (upd H5 p (.lst (us ++ [v5]))) := own_evo hacc
        obtain ⟨e7, s7⟩ := own_upd S5.sto hacc ((hr5.append r5).mono e6)
        exact ⟨us, h5, Nat.lt_of_le_of_lt (by rw [hr5.length]; exact hz) (by decide), _, S5.evo.trans e7, s7, w5⟩
      | false =>
        rw [if_neg Bool.false_ne_true]
        exact ⟨μ4, S4.evo, S4.sto, q4.2 rfl⟩
    · have e : i = xs.length := by omega
      subst e
      obtain ⟨acc, hacc, q2⟩ := wd μ' wi'
      obtain ⟨us, h5, hr5⟩ := s' _ _ hacc
      refine .inl ⟨(it _ H' μ' s' e').2 (Nat.le_refl _), ?_⟩
      have e8 : Evo μ1 H1 (sdel μ' p) H' := e'.trans sdel_sub.evo
      exact k (.ref p) H' (.lst acc) (sdel μ' p) (S1.step e8 (sdel_sub.sto s')) (e1.trans e8) (.lst ⟨h5, .of sdel_same⟩ (hr5.mono sdel_sub.evo) .nil) q2
def dYes : DT := fun _ _ μ Φ => Φ true μ
theorem sYes : ST B tYes dYes := fun σ H δ μ Φ Q S q k => k true H μ S .refl q
/-! ### promises -/
abbrev Con := List D → Sto → DK → (XD → Sto → Prop) → Prop
def spOf (K : Fg) (c : Con) : Sp := fun vs H Q E => ∃ μ ds Φ Ψ, StoOk K μ H ∧ Reps K μ H vs ds ∧ c ds μ Φ Ψ ∧
  (∀ v H' d μ', Evo μ H μ' H' → StoOk K μ' H' → Rep K μ' H' v d → Φ d μ' → Q v H') ∧
  ∀ cls dd H' x μ', Evo μ H μ' H' → StoOk K μ' H' → RepX K μ' H' cls dd x → Ψ x μ' → E cls dd H'
/-- a call that raises nothing -/
def dCall (c : Con) (ψ : DA) : DE := fun Ψ δ μ Φ => ψ Ψ δ μ fun xs μ1 => c xs μ1 Φ fun _ _ => False
theorem sCall {c : Con} {tas : TA} {ψ : DA} (a : SA B tas ψ) : SE B (tCall (spOf K c) [] E0 tas) (dCall c ψ) := fun σ H δ μ Φ Q S q k =>
  a σ H δ μ _ _ S q fun vs H1 xs μ1 S1 e1 r1 q1 => by
    rw [List.append_nil]
    exact ⟨μ1, xs, Φ, fun _ _ => False, S1.sto, r1, q1, fun v H2 d μ2 e2 s2 r2 q2 => k v H2 d μ2 (S1.step e2 s2) (e1.trans e2) r2 q2, fun _ _ _ _ _ _ _ _ z => z⟩
/-- a call that may raise -/
def dCallS (c : Con) (ψ : DA) : DE := fun Ψ δ μ Φ => ψ Ψ δ μ fun xs μ1 => c xs μ1 Φ fun x μ2 => Ψ x δ μ2
theorem sCallS {c : Con} {tas : TA} {ψ : DA} (a : SA B tas ψ) : SE B (tCallS (spOf K c) (WE B.W) tas) (dCallS c ψ) := fun σ H δ μ Φ Q S q k =>
  a σ H δ μ _ _ S q fun vs H1 xs μ1 S1 e1 r1 q1 =>
    ⟨μ1, xs, Φ, fun x μ2 => B.Ψ x δ μ2, S1.sto, r1, q1, fun v H2 d μ2 e2 s2 r2 q2 => k v H2 d μ2 (S1.step e2 s2) (e1.trans e2) r2 q2, fun cls dd H2 x μ2 e2 s2 r2 q2 => B.hW cls dd σ H2 x δ μ2 (S1.step e2 s2) r2 q2⟩
/-- raise C('..'), a class without own fields -/
def dRaise0 (C : Addr) : DSt := fun Ψ _ δ μ => Ψ (.mk C none) δ μ
theorem sRaise0 {C : Addr} : SS B (fun _ σ H => (fun (_ : L2.St) (H : Hp) (Q : XK) => Q (.ref C) none H) σ H fun cls d H' => B.W cls d σ H') (dRaise0 C) := fun D Δ σ H δ μ E S q => B.hW _ _ σ H (.mk C none) δ μ S ⟨rfl, rfl⟩ q
def dstart (N : List Str) (ds : List D) : DEnv := ds.map some ++ List.replicate (N.length - ds.length) none
theorem env_start {μ : Sto} {H : Hp} {N : List Str} {vs : List V} {ds : List D} (r : Reps K μ H vs ds) : EnvOk K μ H (L2.start N vs) (dstart N ds) := by
  have hl := r.length
  refine ⟨by unfold L2.start dstart; simp [hl], fun i d q => ?_⟩
  unfold dstart at q
  unfold L2.start
  by_cases h : i < ds.length
  · rw [List.getElem?_append_left (by simpa using h), List.getElem?_map] at q
    cases e : ds[i]? with
    | none => rw [e] at q; cases q
    | some y =>
      rw [e] at q
      cases q
      obtain ⟨v, ev, rv⟩ := r.get e
      exact ⟨v, by rw [List.getElem?_append_left (by simpa [hl] using h), List.getElem?_map, ev]; rfl, rv⟩
  · rw [List.getElem?_append_right (by simpa using h), List.getElem?_replicate] at q
    split at q <;> cases q
/-- what a def's body must bring about -/
abbrev goalE (Φ : DK) : DEnds := ⟨fun _ μ' => ∃ μ2, Sub μ2 μ' ∧ Φ .non μ2, fun d μ' => ∃ μ2, Sub μ2 μ' ∧ Φ d μ2, fun _ _ => False, fun _ _ => False⟩
abbrev goalX (Ψ : XD → Sto → Prop) : XP := fun x _ μ' => ∃ μ2, Sub μ2 μ' ∧ Ψ x μ2
theorem RepX.mono {μ μ' : Sto} {H H' : Hp} {cls : Value} {dd : Option Addr} {x : XD} (e : Evo μ H μ' H') (h : RepX K μ H cls dd x) : RepX K μ' H' cls dd x := by
  obtain ⟨C, fs⟩ := x
  cases fs with
  | none => exact h
  | some f =>
    obtain ⟨ns, ds⟩ := f
    obtain ⟨h1, d, us, h2, h3, h4, h5, h6⟩ := h
    exact ⟨h1, d, us, h2, (e.st _ _ h3 h4).1, (e.st _ _ h3 h4).2, h5, h6.mono e⟩
/-- THE RULE for a def -/
theorem def_ok {P : Program} {w : World} {mg : Str → Option Value} {base : Heap} {x qual : Str} {st : Stmt} {f : Addr} {fd : FuncData} {N ps : List Str} {k : Nat} {c : Con} (F : Fun K x qual st f fd) (Sc : FnScope N ps (defScope st)) (φ : DSt)
    (hl : ∀ ds μ Φ Ψ, c ds μ Φ Ψ → ds.length = ps.length)
    (hb : ∀ (cdv : Value) (A : Around) (outer : List Env) (s : Shared) (H : Hp) (E : XK) (B : Bx K), B.W = (fun cls d _ H => E cls d H) → Room k (A.deeper (PyProof.Rows.envOfC qual (defScope st) s.heap.objs.size f cdv)) →
      ∃ t, PSs (cxOf (L2.CX P w) P w K mg base N qual (defScope st) f cdv A outer s H E) (defBody st) t ∧ SS B t φ)
    (hv : ∀ ds μ Φ Ψ, c ds μ Φ Ψ → φ (goalX Ψ) (goalE Φ) (dstart N ds) μ) : FnOk P w K mg base (L2.CX P w) (k + 1) f fd ps (spOf K c) := by
  refine F.okX Sc (fun vs H Q E h => ?_) (fun cdv A outer s H vs Q E hr h => ?_)
  · obtain ⟨μ, ds, Φ, Ψ, _, r, hc, _⟩ := h
    rw [r.length]
    exact hl ds μ Φ Ψ hc
  · obtain ⟨μ, ds, Φ, Ψ, s0, r, hc, hq, hx⟩ := h
    let B : Bx K := ⟨H, μ, fun cls d _ H => E cls d H, goalX Ψ, fun cls dd σ H' x δ μ' S rx ⟨μ2, hs, q⟩ => hx cls dd H' x μ2 (S.evo.trans hs.evo) (hs.sto S.sto) (rx.mono hs.evo) q⟩
    obtain ⟨t, ht, hs⟩ := hb cdv A outer s H E B rfl hr
    refine ⟨t, ht, hs { nx := fun _ H' => Q .non H', rt := Q } (goalE Φ) (L2.start N vs) H (dstart N ds) μ ⟨fun σ H' δ μ' S ⟨μ2, h2, q⟩ => ?_, fun v H' d μ' σ δ S rv ⟨μ2, h2, q⟩ => ?_, fun _ _ _ _ _ z => z, fun _ _ _ _ _ z => z⟩ ⟨.refl, s0, env_start r⟩ (hv ds μ Φ Ψ hc)⟩
    · exact hq .non H' .non μ2 (S.evo.trans h2.evo) (h2.sto S.sto) (.non .nil) q
    · exact hq v H' d μ2 (S.evo.trans h2.evo) (h2.sto S.sto) (rv.mono h2.evo) q
end
end DW
set_option Elab.async false
set_option linter.all false
set_option maxRecDepth 100000
namespace DW
open PySem PySem.Spec L2
/-! ### shortening readings -/
section
variable {α : Type} {μ μ' : Sto} {Φ : DK} {i j : Int} {x y : D} {xs ys ds : List D} {δ : DEnv} {Ψ : XP} {Δ : DEnds} {b : Bool} {s t : Str}
theorem ex_some {a : α} {P : α → Prop} : (∃ d, some (some a) = some (some d) ∧ P d) = P a := propext ⟨fun ⟨d, e, p⟩ => by cases e; exact p, fun p => ⟨a, rfl, p⟩⟩
theorem w_I0 {g : Int → Int → D} : oI0 g (.int i) (.int j) μ Φ = Φ (g i j) μ := propext ⟨fun ⟨a, b, e1, e2, q⟩ => by cases e1; cases e2; exact q, fun q => ⟨i, j, rfl, rfl, q⟩⟩
theorem w_I {C : Int → Int → Prop} {g : Int → Int → D} : oI C g (.int i) (.int j) μ Φ = (C i j ∧ Φ (g i j) μ) := propext ⟨fun ⟨a, b, e1, e2, q⟩ => by cases e1; cases e2; exact q, fun q => ⟨i, j, rfl, rfl, q⟩⟩
theorem w_uI {g : Int → Int} : uI g (.int i) μ Φ = Φ (.int (g i)) μ := propext ⟨fun ⟨a, e1, q⟩ => by cases e1; exact q, fun q => ⟨i, rfl, q⟩⟩
theorem w_int : cInt [.int i] μ Φ = Φ (.int i) μ := propext (Iff.intro (by
  rintro ⟨a, q⟩
  rcases q with ⟨e, q⟩ | ⟨_, e, q⟩
  · cases e; exact q
  · cases e) (fun q => ⟨i, .inl ⟨rfl, q⟩⟩))
theorem w_bl {P : Bool → Prop} : (∃ c, D.bl b = .bl c ∧ P c) = P b := propext ⟨fun ⟨c, e, q⟩ => by cases e; exact q, fun q => ⟨b, rfl, q⟩⟩
theorem w_bl2 {P : Bool → Prop} : (∃ c, (D.bl b = .bl c) ∧ P c) = P b := w_bl
theorem w_isi {T : String} : cIsi T [x, .hd (.ty T)] μ Φ = ∃ b, instB x T = some b ∧ Φ (.bl b) μ := propext ⟨fun ⟨y, b, e, q⟩ => by cases e; exact ⟨b, q⟩, fun ⟨b, q⟩ => ⟨x, b, rfl, q⟩⟩
theorem w_someb {P : Bool → Prop} : (∃ c, some b = some c ∧ P c) = P b := propext ⟨fun ⟨c, e, q⟩ => by cases e; exact q, fun q => ⟨b, rfl, q⟩⟩
theorem w_eqI : oEq (.int i) (.int j) μ Φ = Φ (.bl (decide (i = j))) μ := w_someb
theorem w_neI : oNe (.int i) (.int j) μ Φ = Φ (.bl (!decide (i = j))) μ := w_someb
theorem w_eqS : oEq (.str s) (.str t) μ Φ = Φ (.bl (decide (s = t))) μ := w_someb
theorem w_neS : oNe (.str s) (.str t) μ Φ = Φ (.bl (!decide (s = t))) μ := w_someb
theorem w_ite {P Q : Prop} : ((b = true → P) ∧ (b = false → Q)) = (if b = true then P else Q) := by cases b <;> simp
theorem w_lenT : cLen [.tup ds] μ Φ = Φ (.int ds.length) μ := propext ⟨fun ⟨x, es, e, h, q⟩ => by cases e; cases h; exact q, fun q => ⟨_, _, rfl, .tup ds, q⟩⟩
theorem w_lenL : cLen [.lst ds] μ Φ = Φ (.int ds.length) μ := propext ⟨fun ⟨x, es, e, h, q⟩ => by cases e; cases h; exact q, fun q => ⟨_, _, rfl, .lst ds, q⟩⟩
theorem w_lenS {ns : List Int} : cLen [.scr ns] μ Φ = Φ (.int ns.length) μ := propext ⟨fun ⟨x, es, e, h, q⟩ => by cases e; cases h; rw [List.length_map] at q; exact q, fun q => ⟨_, _, rfl, .scr ns, by rw [List.length_map]; exact q⟩⟩
theorem w_lenH {a : Addr} (h : μ a = some (.lst ds)) : cLen [.hd (.ref a)] μ Φ = Φ (.int ds.length) μ := propext (Iff.intro (by
  rintro ⟨x, es, e, hi, q⟩
  cases e
  cases hi with
  | own h2 => rw [h] at h2; cases h2; exact q
  | frz h2 => rw [h] at h2; cases h2) (fun q => ⟨_, _, rfl, .own h, q⟩))
theorem w_tupL : cTuple [.lst ds] μ Φ = Φ (.tup ds) μ := propext ⟨fun ⟨x, es, e, h, q⟩ => by cases e; cases h; exact q, fun q => ⟨_, _, rfl, .lst ds, q⟩⟩
theorem w_tupT : cTuple [.tup ds] μ Φ = Φ (.tup ds) μ := propext ⟨fun ⟨x, es, e, h, q⟩ => by cases e; cases h; exact q, fun q => ⟨_, _, rfl, .tup ds, q⟩⟩
theorem w_tupH {a : Addr} (h : μ a = some (.lst ds)) : cTuple [.hd (.ref a)] μ Φ = Φ (.tup ds) μ := propext (Iff.intro (by
  rintro ⟨x, es, e, hi, q⟩
  cases e
  cases hi with
  | own h2 => rw [h] at h2; cases h2; exact q
  | frz h2 => rw [h] at h2; cases h2) (fun q => ⟨_, _, rfl, .own h, q⟩))
theorem w_ixT : oIxT (.tup ds) (.int i) μ Φ = ∃ d, atI ds i = some d ∧ Φ d μ := propext ⟨fun ⟨x, es, d, e1, e2, q⟩ => by cases e1; cases e2; exact ⟨d, q⟩, fun ⟨d, q⟩ => ⟨_, _, d, rfl, rfl, q⟩⟩
theorem w_ixL : oIxL (.lst ds) (.int i) μ Φ = ∃ d, atI ds i = some d ∧ Φ d μ := propext ⟨fun ⟨x, es, d, e1, _, e2, q⟩ => by cases e1; cases e2; exact ⟨d, q⟩, fun ⟨d, q⟩ => ⟨_, _, d, .lst ds, rfl, rfl, q⟩⟩
theorem w_ixS {ns : List Int} : oIxL (.scr ns) (.int i) μ Φ = ∃ d, atI (ns.map D.int) i = some d ∧ Φ d μ := propext ⟨fun ⟨x, es, d, e1, _, e2, q⟩ => by cases e1; cases e2; exact ⟨d, q⟩, fun ⟨d, q⟩ => ⟨_, _, d, .scr ns, rfl, rfl, q⟩⟩
theorem w_ixH {a : Addr} (h : μ a = some (.lst ds)) : oIxL (.hd (.ref a)) (.int i) μ Φ = ∃ d, atI ds i = some d ∧ Φ d μ := propext (Iff.intro (by
  rintro ⟨x, es, d, e1, _, e2, q⟩
  cases e2
  cases e1 with
  | own h2 => rw [h] at h2; cases h2; exact ⟨d, q⟩
  | frz h2 => rw [h] at h2; cases h2) (fun ⟨d, q⟩ => ⟨_, _, d, .own h, rfl, rfl, q⟩))
theorem w_catT : oCatT (.tup xs) (.tup ys) μ Φ = (xs.length + ys.length ≤ 100000 ∧ Φ (.tup (xs ++ ys)) μ) := propext ⟨fun ⟨x, es, e1, e2, q⟩ => by cases e1; cases e2; exact q, fun q => ⟨_, _, rfl, rfl, q⟩⟩
theorem w_catL : oCatL (.lst xs) (.lst ys) μ Φ = (xs.length + ys.length ≤ 100000 ∧ Φ (.lst (xs ++ ys)) μ) := propext ⟨fun ⟨x, es, e1, e2, q⟩ => by cases e1; cases e2; exact q, fun q => ⟨_, _, rfl, rfl, q⟩⟩
theorem w_all {bs : List Bool} : cAll [.lst (bs.map .bl)] μ Φ = Φ (.bl (bs.all id)) μ := propext (Iff.intro (by
  rintro ⟨cs, e, q⟩
  have e2 : bs = cs := by
    injection e with e _
    injection e with e
    exact (List.map_inj_right (fun _ _ z => by cases z; rfl)).mp e
  subst e2
  exact q) (fun q => ⟨bs, rfl, q⟩))
theorem w_any {bs : List Bool} : cAny [.lst (bs.map .bl)] μ Φ = Φ (.bl (bs.any id)) μ := propext (Iff.intro (by
  rintro ⟨cs, e, q⟩
  have e2 : bs = cs := by
    injection e with e _
    injection e with e
    exact (List.map_inj_right (fun _ _ z => by cases z; rfl)).mp e
  subst e2
  exact q) (fun q => ⟨bs, rfl, q⟩))
theorem w_min2 : cMin2 [.int i, .int j] μ Φ = Φ (.int (if j < i then j else i)) μ := propext ⟨fun ⟨a, b, e, q⟩ => by cases e; exact q, fun q => ⟨_, _, rfl, q⟩⟩
theorem w_divmod : cDivmod [.int i, .int j] μ Φ = (CDivP i j ∧ Φ (.tup [.int (i / j), .int (i % j)]) μ) := propext ⟨fun ⟨a, b, e, q⟩ => by cases e; exact q, fun q => ⟨_, _, rfl, q⟩⟩
theorem w_listS {ns : List Int} : cList [.scr ns] μ Φ = Φ (.lst (ns.map .int)) μ := propext ⟨fun ⟨x, es, e, h, q⟩ => by cases e; cases h; exact q, fun q => ⟨_, _, rfl, .scr ns, q⟩⟩
theorem w_listL : cList [.lst ds] μ Φ = Φ (.lst ds) μ := propext ⟨fun ⟨x, es, e, h, q⟩ => by cases e; cases h; exact q, fun q => ⟨_, _, rfl, .lst ds, q⟩⟩
theorem w_listT : cList [.tup ds] μ Φ = Φ (.lst ds) μ := propext ⟨fun ⟨x, es, e, h, q⟩ => by cases e; cases h; exact q, fun q => ⟨_, _, rfl, .tup ds, q⟩⟩
theorem w_listH {a : Addr} (h : μ a = some (.lst ds)) : cList [.hd (.ref a)] μ Φ = Φ (.lst ds) μ := propext (Iff.intro (by
  rintro ⟨x, es, e, hi, q⟩
  cases e
  cases hi with
  | own h2 => rw [h] at h2; cases h2; exact q
  | frz h2 => rw [h] at h2; cases h2) (fun q => ⟨_, _, rfl, .own h, q⟩))
theorem w_isN {x : D} : oIsN x .non μ Φ = ∃ b, isNone x = some b ∧ Φ (.bl b) μ := propext ⟨fun ⟨_, q⟩ => q, fun q => ⟨rfl, q⟩⟩
theorem w_notN {x : D} : oNotN x .non μ Φ = ∃ b, isNone x = some b ∧ Φ (.bl (!b)) μ := propext ⟨fun ⟨_, q⟩ => q, fun q => ⟨rfl, q⟩⟩
section
variable {φ φa φb φc : DE} {γ : DG} {ω ζ : DSt} {θ ϑ : DT} {ψ : DA} {ρ ρ' : DO} {σ : DU} {κ : DC} {c : Con} {n : Nat} {C : Addr} {d : D} {Th : Bool → Sto → Prop} {Ls : List D → Sto → Prop} {Pn : DEnv → Sto → Prop} {η : List D → DEnv → Sto → (DEnv → Sto → Prop) → Prop} {ol oh : XP → DEnv → Sto → (Option Int → Sto → Prop) → Prop} {Xo : Option Int → Sto → Prop}
theorem u_seq : dSeq ω ζ Ψ Δ δ μ = ω Ψ { Δ with nx := ζ Ψ Δ } δ μ := rfl
theorem u_asg : dAsg φ γ Ψ Δ δ μ = φ Ψ δ μ fun x μ1 => γ x δ μ1 Δ.nx := rfl
theorem u_asgS : dAsgS φ φa φb Ψ Δ δ μ = φ Ψ δ μ fun x μ1 => eSub φa φb Ψ x δ μ1 Δ.nx := rfl
theorem u_ret : dRet φ Ψ Δ δ μ = φ Ψ δ μ Δ.rt := rfl
theorem u_retN : dRetN Ψ Δ δ μ = Δ.rt .non μ := rfl
theorem u_if : dIfS θ ω ζ Ψ Δ δ μ = θ Ψ δ μ fun b μ1 => (b = true → ω Ψ Δ δ μ1) ∧ (b = false → ζ Ψ Δ δ μ1) := rfl
theorem u_next : dNext Ψ Δ δ μ = Δ.nx δ μ := rfl
theorem u_break : dBreak Ψ Δ δ μ = Δ.bk δ μ := rfl
theorem u_cont : dCont Ψ Δ δ μ = Δ.ct δ μ := rfl
theorem u_drop : dDrop φ Ψ Δ δ μ = φ Ψ δ μ fun _ μ1 => Δ.nx δ μ1 := rfl
theorem u_raise : dRaise0 C Ψ Δ δ μ = Ψ (.mk C none) δ μ := rfl
theorem u_aug : dAug n φ ρ Ψ Δ δ μ = ∃ x, δ[n]? = some (some x) ∧ φ Ψ δ μ fun y μ1 => ρ x y μ1 fun z μ2 => Δ.nx (δ.set n (some z)) μ2 := rfl
theorem u_var : dVar n Ψ δ μ Φ = ∃ d, δ[n]? = some (some d) ∧ Φ d μ := rfl
theorem u_rest : dRest n Ψ δ μ Φ = ∃ a ds, δ[n]? = some (some (.hd (.ref a))) ∧ μ a = some (.lst ds) ∧ Φ (.lst ds) (sset μ a (.frz ds)) := rfl
theorem u_c : dC d Ψ δ μ Φ = Φ d μ := rfl
theorem u_op : dOp ρ φa φb Ψ δ μ Φ = φa Ψ δ μ fun x μ1 => φb Ψ δ μ1 fun y μ2 => ρ x y μ2 Φ := rfl
theorem u_un : dUn σ φa Ψ δ μ Φ = φa Ψ δ μ fun x μ1 => σ x μ1 Φ := rfl
theorem u_test : dTest φ Ψ δ μ Th = φ Ψ δ μ fun x μ1 => ∃ b, x = .bl b ∧ Th b μ1 := rfl
theorem u_and : dAnd θ ϑ Ψ δ μ Th = θ Ψ δ μ fun b μ1 => (b = true → ϑ Ψ δ μ1 Th) ∧ (b = false → Th false μ1) := rfl
theorem u_or : dOr θ ϑ Ψ δ μ Th = θ Ψ δ μ fun b μ1 => (b = true → Th true μ1) ∧ (b = false → ϑ Ψ δ μ1 Th) := rfl
theorem u_not : dNot θ Ψ δ μ Th = θ Ψ δ μ fun b μ1 => Th (!b) μ1 := rfl
theorem u_yes : dYes Ψ δ μ Th = Th true μ := rfl
theorem u_andV : dAndV φa φb Ψ δ μ Φ = φa Ψ δ μ fun x μ1 => ∃ b, x = .bl b ∧ (b = true → φb Ψ δ μ1 Φ) ∧ (b = false → Φ (.bl false) μ1) := rfl
theorem u_orV : dOrV φa φb Ψ δ μ Φ = φa Ψ δ μ fun x μ1 => ∃ b, x = .bl b ∧ (b = true → Φ (.bl true) μ1) ∧ (b = false → φb Ψ δ μ1 Φ) := rfl
theorem u_notV : dNotV φa Ψ δ μ Φ = φa Ψ δ μ fun x μ1 => ∃ b, x = .bl b ∧ Φ (.bl (!b)) μ1 := rfl
theorem u_ifE : dIf θ φa φb Ψ δ μ Φ = θ Ψ δ μ fun b μ1 => (b = true → φa Ψ δ μ1 Φ) ∧ (b = false → φb Ψ δ μ1 Φ) := rfl
theorem u_chain : dChain ρ ρ' φa φb φc Ψ δ μ Φ = φa Ψ δ μ fun x μ1 => φb Ψ δ μ1 fun y μ2 => ρ x y μ2 fun z μ3 => ∃ b, z = .bl b ∧ (b = true → φc Ψ δ μ3 fun u μ4 => ρ' y u μ4 Φ) ∧ (b = false → Φ (.bl false) μ3) := rfl
theorem u_nil : dNil Ψ δ μ Ls = Ls [] μ := rfl
theorem u_cons : dCons φ ψ Ψ δ μ Ls = φ Ψ δ μ fun x μ1 => ψ Ψ δ μ1 fun xs μ2 => Ls (x :: xs) μ2 := rfl
theorem u_tup : dTup ψ Ψ δ μ Φ = ψ Ψ δ μ fun xs μ1 => xs.length ≤ 100000 ∧ Φ (.tup xs) μ1 := rfl
theorem u_lst : dLst ψ Ψ δ μ Φ = ψ Ψ δ μ fun xs μ1 => xs.length ≤ 100000 ∧ Φ (.lst xs) μ1 := rfl
theorem u_own : dOwn ψ Ψ δ μ Φ = ψ Ψ δ μ fun xs μ1 => xs.length ≤ 100000 ∧ ∀ p, μ1 p = none → Φ (.hd (.ref p)) (sset μ1 p (.lst xs)) := rfl
theorem u_cb : dCB κ ψ Ψ δ μ Φ = ψ Ψ δ μ fun xs μ1 => κ xs μ1 Φ := rfl
theorem u_call : dCall c ψ Ψ δ μ Φ = ψ Ψ δ μ fun xs μ1 => c xs μ1 Φ fun _ _ => False := rfl
theorem u_callS : dCallS c ψ Ψ δ μ Φ = ψ Ψ δ μ fun xs μ1 => c xs μ1 Φ fun x μ2 => Ψ x δ μ2 := rfl
theorem u_name : eName n d δ μ Pn = Pn (δ.set n (some d)) μ := rfl
theorem u_etup : eTup n η d δ μ Pn = ∃ ds, d = .tup ds ∧ ds.length = n ∧ η ds δ μ Pn := rfl
theorem u_enil : eNil xs δ μ Pn = (xs = [] ∧ Pn δ μ) := rfl
theorem u_econs : eCons γ η xs δ μ Pn = ∃ d r, xs = d :: r ∧ γ d δ μ fun δ' μ' => η r δ' μ' Pn := rfl
theorem u_sub : eSub φa φb Ψ d δ μ Pn = φa Ψ δ μ fun x μ1 => φb Ψ δ μ1 fun y μ2 => ∃ a ds i j, x = .hd (.ref a) ∧ y = .int i ∧ μ2 a = some (.lst ds) ∧ ixN ds.length i = some j ∧ Pn δ (sset μ2 a (.lst (ds.set j d))) := rfl
theorem u_app : dApp φa φb Ψ δ μ Φ = φa Ψ δ μ fun x μ1 => ∃ a ds, x = .hd (.ref a) ∧ μ1 a = some (.lst ds) ∧ φb Ψ δ μ1 fun y μ2 => ∃ es, μ2 a = some (.lst es) ∧ es.length ≤ 100000 ∧ Φ .non (sset μ2 a (.lst (es ++ [y]))) := rfl
theorem u_slT : dSlT φ ol oh Ψ δ μ Φ = φ Ψ δ μ fun x μ1 => ol Ψ δ μ1 fun lo μ2 => oh Ψ δ μ2 fun hi μ3 => ∃ ds, x = .tup ds ∧ Φ (.tup (cutD ds lo hi)) μ3 := rfl
theorem u_slL : dSlL φ ol oh Ψ δ μ Φ = φ Ψ δ μ fun x μ1 => ol Ψ δ μ1 fun lo μ2 => oh Ψ δ μ2 fun hi μ3 => ∃ ds, Items μ3 x ds ∧ isTup x = false ∧ Φ (.lst (cutD ds lo hi)) μ3 := rfl
theorem u_noPart : dNoPart Ψ δ μ Xo = Xo none μ := rfl
theorem u_part : dPart φ Ψ δ μ Xo = φ Ψ δ μ fun x μ1 => ∃ i, x = .int i ∧ Xo (some i) μ1 := rfl
theorem u_revL : dRevL φ Ψ δ μ Φ = φ Ψ δ μ fun x μ1 => ∃ ds, Items μ1 x ds ∧ isTup x = false ∧ Φ (.lst ds.reverse) μ1 := rfl
end
theorem w_tupE {P : List D → Prop} : (∃ es, D.tup ds = .tup es ∧ P es) = P ds := propext ⟨fun ⟨c, e, q⟩ => by cases e; exact q, fun q => ⟨ds, rfl, q⟩⟩
theorem w_intE {P : Int → Prop} : (∃ j, D.int i = .int j ∧ P j) = P i := propext ⟨fun ⟨c, e, q⟩ => by cases e; exact q, fun q => ⟨i, rfl, q⟩⟩
theorem w_consE {P : D → List D → Prop} : (∃ d r, x :: xs = d :: r ∧ P d r) = P x xs := propext ⟨fun ⟨c, r, e, q⟩ => by cases e; exact q, fun q => ⟨x, xs, rfl, q⟩⟩
theorem w_hdE {a : Addr} {P : Addr → List D → Prop} : (∃ b es, D.hd (.ref a) = .hd (.ref b) ∧ P b es) = ∃ es, P a es := propext ⟨fun ⟨b, es, e, q⟩ => by cases e; exact ⟨es, q⟩, fun ⟨es, q⟩ => ⟨a, es, rfl, q⟩⟩
theorem w_cell {a : Addr} {P : List D → Prop} (h : μ a = some (.lst ds)) : (∃ es, μ a = some (.lst es) ∧ P es) = P ds := propext ⟨fun ⟨es, e, q⟩ => by rw [h] at e; cases e; exact q, fun q => ⟨ds, h, q⟩⟩
theorem w_cellS {a : Addr} {P : List D → Prop} : (∃ es, sset μ a (.lst ds) a = some (.lst es) ∧ P es) = P ds := w_cell sset_same
theorem w_set {a : Addr} {P' : Addr → List D → Nat → Prop} : (∃ b es k j, D.hd (.ref a) = .hd (.ref b) ∧ D.int i = .int k ∧ μ b = some (.lst es) ∧ ixN es.length k = some j ∧ P' b es j) = (∃ es, μ a = some (.lst es) ∧ ∃ j, ixN es.length i = some j ∧ P' a es j) := propext ⟨fun ⟨b, es, k, j, e1, e2, q1, q2⟩ => by cases e1; cases e2; exact ⟨es, q1, j, q2⟩, fun ⟨es, q1, j, q2⟩ => ⟨a, es, i, j, rfl, rfl, q1, q2⟩⟩
theorem at0 {P : D → Prop} {x0 : D} : (∃ d, atI (x0 :: xs) 0 = some d ∧ P d) = P x0 := propext ⟨fun ⟨d, e, q⟩ => by rw [show (0 : Int) = ((0 : Nat) : Int) from rfl, atI_nat (j := 0) rfl] at e; cases e; exact q, fun q => ⟨x0, atI_nat (j := 0) rfl, q⟩⟩
theorem at1 {P : D → Prop} {x0 x1 : D} : (∃ d, atI (x0 :: x1 :: xs) 1 = some d ∧ P d) = P x1 := propext ⟨fun ⟨d, e, q⟩ => by rw [show (1 : Int) = ((1 : Nat) : Int) from rfl, atI_nat (j := 1) rfl] at e; cases e; exact q, fun q => ⟨x1, atI_nat (j := 1) rfl, q⟩⟩
theorem at2 {P : D → Prop} {x0 x1 x2 : D} : (∃ d, atI (x0 :: x1 :: x2 :: xs) 2 = some d ∧ P d) = P x2 := propext ⟨fun ⟨d, e, q⟩ => by rw [show (2 : Int) = ((2 : Nat) : Int) from rfl, atI_nat (j := 2) rfl] at e; cases e; exact q, fun q => ⟨x2, atI_nat (j := 2) rfl, q⟩⟩
theorem at3 {P : D → Prop} {x0 x1 x2 x3 : D} : (∃ d, atI (x0 :: x1 :: x2 :: x3 :: xs) 3 = some d ∧ P d) = P x3 := propext ⟨fun ⟨d, e, q⟩ => by rw [show (3 : Int) = ((3 : Nat) : Int) from rfl, atI_nat (j := 3) rfl] at e; cases e; exact q, fun q => ⟨x3, atI_nat (j := 3) rfl, q⟩⟩
theorem ix40 {P : Nat → Prop} : (∃ j, ixN 4 0 = some j ∧ P j) = P 0 := propext ⟨fun ⟨j, e, q⟩ => by cases e; exact q, fun q => ⟨0, rfl, q⟩⟩
theorem ix42 {P : Nat → Prop} : (∃ j, ixN 4 2 = some j ∧ P j) = P 2 := propext ⟨fun ⟨j, e, q⟩ => by cases e; exact q, fun q => ⟨2, rfl, q⟩⟩
theorem ix43 {P : Nat → Prop} : (∃ j, ixN 4 3 = some j ∧ P j) = P 3 := propext ⟨fun ⟨j, e, q⟩ => by cases e; exact q, fun q => ⟨3, rfl, q⟩⟩
theorem ix_nat {n j : Nat} (h : j < n) : ixN n (j : Int) = some j := by unfold ixN; rw [if_pos (by omega), if_pos (by omega)]; simp
theorem true_imp {P : Prop} : (true = true → P) = P := propext ⟨fun h => h rfl, fun h _ => h⟩
theorem imp_tf {P : Prop} : (true = false → P) = True := propext ⟨fun _ => trivial, fun _ h => nomatch h⟩
theorem imp_ft {P : Prop} : (false = true → P) = True := propext ⟨fun _ => trivial, fun _ h => nomatch h⟩
theorem mapI_get {ws : List Int} {i : Nat} {d : D} (h : (ws.map D.int)[i]? = some d) : ∃ z, ws[i]? = some z ∧ d = .int z := by
  rw [List.getElem?_map] at h
  cases e : ws[i]? with
  | none => rw [e] at h; cases h
  | some z => rw [e] at h; cases h; exact ⟨z, rfl, rfl⟩
theorem v_ixH {a : Addr} : oIxL (.hd (.ref a)) (.int i) μ Φ = ((∃ es, μ a = some (.lst es) ∧ ∃ d, atI es i = some d ∧ Φ d μ) ∨ (∃ es, μ a = some (.frz es) ∧ ∃ d, atI es i = some d ∧ Φ d μ)) := propext (Iff.intro (by
  rintro ⟨es, k, d, hi, _, e, q⟩
  cases e
  cases hi with
  | own h => exact .inl ⟨es, h, d, q⟩
  | frz h => exact .inr ⟨es, h, d, q⟩) (by
  rintro (⟨es, h, d, q⟩ | ⟨es, h, d, q⟩)
  · exact ⟨es, i, d, .own h, rfl, rfl, q⟩
  · exact ⟨es, i, d, .frz h, rfl, rfl, q⟩))
theorem v_items {a : Addr} {P : List D → Prop} : (∃ es, Items μ (.hd (.ref a)) es ∧ P es) = ((∃ es, μ a = some (.lst es) ∧ P es) ∨ (∃ es, μ a = some (.frz es) ∧ P es)) := propext (Iff.intro (by
  rintro ⟨es, hi, q⟩
  cases hi with
  | own h => exact .inl ⟨es, h, q⟩
  | frz h => exact .inr ⟨es, h, q⟩) (by
  rintro (⟨es, h, q⟩ | ⟨es, h, q⟩)
  · exact ⟨es, .own h, q⟩
  · exact ⟨es, .frz h, q⟩))
theorem v_itemsT {P : List D → Prop} : (∃ es, Items μ (.tup ds) es ∧ P es) = P ds := propext ⟨fun ⟨es, h, q⟩ => by cases h; exact q, fun q => ⟨ds, .tup ds, q⟩⟩
theorem v_itemsL {P : List D → Prop} : (∃ es, Items μ (.lst ds) es ∧ P es) = P ds := propext ⟨fun ⟨es, h, q⟩ => by cases h; exact q, fun q => ⟨ds, .lst ds, q⟩⟩
theorem v_itemsS {ns : List Int} {P : List D → Prop} : (∃ es, Items μ (.scr ns) es ∧ P es) = P (ns.map .int) := propext ⟨fun ⟨es, h, q⟩ => by cases h; exact q, fun q => ⟨_, .scr ns, q⟩⟩
theorem v_len : cLen [x] μ Φ = ∃ es, Items μ x es ∧ Φ (.int es.length) μ := propext ⟨fun ⟨y, es, e, h, q⟩ => by cases e; exact ⟨es, h, q⟩, fun ⟨es, h, q⟩ => ⟨x, es, rfl, h, q⟩⟩
theorem v_tuple : cTuple [x] μ Φ = ∃ es, Items μ x es ∧ Φ (.tup es) μ := propext ⟨fun ⟨y, es, e, h, q⟩ => by cases e; exact ⟨es, h, q⟩, fun ⟨es, h, q⟩ => ⟨x, es, rfl, h, q⟩⟩
theorem v_list : cList [x] μ Φ = ∃ es, Items μ x es ∧ Φ (.lst es) μ := propext ⟨fun ⟨y, es, e, h, q⟩ => by cases e; exact ⟨es, h, q⟩, fun ⟨es, h, q⟩ => ⟨x, es, rfl, h, q⟩⟩
theorem v_listOwn : cListOwn [x] μ Φ = ∃ es, Items μ x es ∧ ∀ p, μ p = none → Φ (.hd (.ref p)) (sset μ p (.lst es)) := propext ⟨fun ⟨y, es, e, h, q⟩ => by cases e; exact ⟨es, h, q⟩, fun ⟨es, h, q⟩ => ⟨x, es, rfl, h, q⟩⟩
section
variable {T : String}
theorem i_tT : instB (.tup xs) "tuple" = some true := rfl
theorem i_tI : instB (.tup xs) "int" = some false := rfl
theorem i_tB : instB (.tup xs) "bool" = some false := rfl
theorem i_tS : instB (.tup xs) "str" = some false := rfl
theorem i_nT : instB .non "tuple" = some false := rfl
theorem i_nI : instB .non "int" = some false := rfl
theorem i_nB : instB .non "bool" = some false := rfl
theorem i_nS : instB .non "str" = some false := rfl
theorem i_iT : instB (.int i) "tuple" = some false := rfl
theorem i_iI : instB (.int i) "int" = some true := rfl
theorem i_iB : instB (.int i) "bool" = some false := rfl
theorem i_iS : instB (.int i) "str" = some false := rfl
theorem i_bT : instB (.bl b) "tuple" = some false := rfl
theorem i_bI : instB (.bl b) "int" = some true := rfl
theorem i_bB : instB (.bl b) "bool" = some true := rfl
theorem i_bS : instB (.bl b) "str" = some false := rfl
theorem i_sT : instB (.str s) "tuple" = some false := rfl
theorem i_sI : instB (.str s) "int" = some false := rfl
theorem i_sB : instB (.str s) "bool" = some false := rfl
theorem i_sS : instB (.str s) "str" = some true := rfl
end
theorem w_eqB {c : Bool} : oEq (.bl b) (.bl c) μ Φ = Φ (.bl (decide (b = c))) μ := w_someb
/-- the turns of a comprehension that changes nothing -/
def givenD (n : Nat) (f : Nat → Bool) (v : Nat → D) : List D := ((List.range n).filter f).map v
theorem givenD_yes {n : Nat} {f : Nat → Bool} {v : Nat → D} (h : f n = true) : givenD (n + 1) f v = givenD n f v ++ [v n] := by
  unfold givenD
  rw [List.range_succ, List.filter_append, List.map_append, List.filter_cons, if_pos h] <;> rfl
theorem givenD_no {n : Nat} {f : Nat → Bool} {v : Nat → D} (h : f n = false) : givenD (n + 1) f v = givenD n f v := by
  unfold givenD
  rw [List.range_succ, List.filter_append, List.map_append, List.filter_cons, if_neg (by rw [h]; decide)]
  exact List.append_nil _
theorem givenD_len (n : Nat) (f : Nat → Bool) (v : Nat → D) : (givenD n f v).length ≤ n := by
  unfold givenD
  rw [List.length_map]
  have h := List.length_filter_le f (List.range n)
  rw [List.length_range] at h
  exact h
theorem givenD_all (n : Nat) (v : Nat → D) : givenD n (fun _ => true) v = (List.range n).map v := by
  unfold givenD
  rw [List.filter_eq_self.mpr fun _ _ => rfl]
theorem lc_go {γ : DG} {θ : DT} {φ : DE} {δw : DEnv} {μ1 : Sto} {xs : List D} (f : Nat → Bool) (v : Nat → D) (hz : xs.length ≤ 100000)
    (hs : ∀ (i : Nat) (d : D) (μ2 : Sto) (X : DK) (Y : Sto → Prop), xs[i]? = some d → Sub μ1 μ2 → (f i = true → X (v i) μ2) → (f i = false → Y μ2) →
      γ d δw μ2 fun δ3 μ3 => θ Ψ δ3 μ3 fun b μ4 => (b = true → φ Ψ δ3 μ4 X) ∧ (b = false → Y μ4))
    (hd : Φ (.lst (givenD xs.length f v)) μ1) : ∀ p, μ1 p = none → ∃ W : Nat → Sto → Prop, W 0 (sset μ1 p (.lst [])) ∧
  (∀ i d μ2, xs[i]? = some d → W i μ2 → γ d δw μ2 fun δ3 μ3 => θ Ψ δ3 μ3 fun b μ4 =>
    (b = true → φ Ψ δ3 μ4 fun y μ5 => ∃ acc, μ5 p = some (.lst acc) ∧ acc.length ≤ 100000 ∧ W (i + 1) (sset μ5 p (.lst (acc ++ [y])))) ∧ (b = false → W (i + 1) μ4)) ∧
  ∀ μ2, W xs.length μ2 → ∃ acc, μ2 p = some (.lst acc) ∧ Φ (.lst acc) (sdel μ2 p) := fun p hp => by
  refine ⟨fun i μ' => μ' = sset μ1 p (.lst (givenD i f v)), rfl, fun i d μ2 hi e => ?_, fun μ2 e => ?_⟩
  · subst e
    have hl : i < xs.length := (List.getElem?_eq_some_iff.mp hi).1
    refine hs i d _ _ _ hi (.set Sub.refl hp) (fun hf => ⟨_, sset_same, ?_, ?_⟩) fun hf => ?_
    · have := givenD_len i f v; omega
    · show sset (sset μ1 p (.lst (givenD i f v))) p (.lst (givenD i f v ++ [v i])) = sset μ1 p (.lst (givenD (i + 1) f v))
      rw [sset_sset, givenD_yes hf]
    · show sset μ1 p (.lst (givenD i f v)) = sset μ1 p (.lst (givenD (i + 1) f v))
      rw [givenD_no hf]
  · subst e
    refine ⟨_, sset_same, ?_⟩
    rw [sdel_sset hp]
    exact hd
/-- the same, by the items -/
theorem givenD_items (f : D → Bool) (v : D → D) : ∀ xs : List D, givenD xs.length (fun i => f (xs.getD i .non)) (fun i => v (xs.getD i .non)) = (xs.filter f).map v
  | xs => by
    have h : ∀ n, n ≤ xs.length → givenD n (fun i => f (xs.getD i .non)) (fun i => v (xs.getD i .non)) = ((xs.take n).filter f).map v := by
      intro n
      induction n with
      | zero => intro _; rfl
      | succ n ih =>
        intro hn
        have hl : n < xs.length := by omega
        have e : xs.getD n .non = xs[n] := by rw [List.getD_eq_getElem?_getD, List.getElem?_eq_getElem hl]; rfl
        rw [List.take_add_one, List.getElem?_eq_getElem hl, List.filter_append, List.map_append, ← ih (by omega)]
        by_cases c : f xs[n] = true
        · rw [givenD_yes (by rw [e]; exact c), e]
          simp [c]
        · have c' : f xs[n] = false := by simpa using c
          rw [givenD_no (by rw [e]; exact c')]
          simp [c']
    have := h xs.length (Nat.le_refl _)
    rw [List.take_length] at this
    exact this
theorem lc_items {γ : DG} {θ : DT} {φ : DE} {δw : DEnv} {μ1 : Sto} {xs : List D} (f : D → Bool) (v : D → D) (hz : xs.length ≤ 100000)
    (hs : ∀ (d : D) (μ2 : Sto) (X : DK) (Y : Sto → Prop), d ∈ xs → Sub μ1 μ2 → (f d = true → X (v d) μ2) → (f d = false → Y μ2) →
      γ d δw μ2 fun δ3 μ3 => θ Ψ δ3 μ3 fun b μ4 => (b = true → φ Ψ δ3 μ4 X) ∧ (b = false → Y μ4))
    (hd : Φ (.lst ((xs.filter f).map v)) μ1) : ∀ p, μ1 p = none → ∃ W : Nat → Sto → Prop, W 0 (sset μ1 p (.lst [])) ∧
  (∀ i d μ2, xs[i]? = some d → W i μ2 → γ d δw μ2 fun δ3 μ3 => θ Ψ δ3 μ3 fun b μ4 =>
    (b = true → φ Ψ δ3 μ4 fun y μ5 => ∃ acc, μ5 p = some (.lst acc) ∧ acc.length ≤ 100000 ∧ W (i + 1) (sset μ5 p (.lst (acc ++ [y])))) ∧ (b = false → W (i + 1) μ4)) ∧
  ∀ μ2, W xs.length μ2 → ∃ acc, μ2 p = some (.lst acc) ∧ Φ (.lst acc) (sdel μ2 p) := by
  refine lc_go (fun i => f (xs.getD i .non)) (fun i => v (xs.getD i .non)) hz (fun i d μ2 X Y hi hsub hx hy => ?_) (by rw [givenD_items]; exact hd)
  have e : xs.getD i .non = d := by rw [List.getD_eq_getElem?_getD, hi]; rfl
  rw [e] at hx hy
  exact hs d μ2 X Y (List.mem_of_getElem? hi) hsub hx hy
/-- the list of a comprehension -/
def LcG (γ : DG) (θ : DT) (φ : DE) (δw : DEnv) (Ψ : XP) (xs : List D) (μ1 : Sto) (Φ : DK) : Prop := ∀ p, μ1 p = none → ∃ W : Nat → Sto → Prop, W 0 (sset μ1 p (.lst [])) ∧
  (∀ i d μ2, xs[i]? = some d → W i μ2 → γ d δw μ2 fun δ3 μ3 => θ Ψ δ3 μ3 fun b μ4 =>
    (b = true → φ Ψ δ3 μ4 fun y μ5 => ∃ acc, μ5 p = some (.lst acc) ∧ acc.length ≤ 100000 ∧ W (i + 1) (sset μ5 p (.lst (acc ++ [y])))) ∧ (b = false → W (i + 1) μ4)) ∧
  ∀ μ2, W xs.length μ2 → ∃ acc, μ2 p = some (.lst acc) ∧ Φ (.lst acc) (sdel μ2 p)
theorem u_lc {ι : DI} {γ : DG} {θ : DT} {φ : DE} {vs : List Nat} : dLc ι γ θ φ vs Ψ δ μ Φ = ι Ψ δ μ fun xs μ1 => LcG γ θ φ (dwipe δ vs) Ψ xs μ1 Φ := rfl
theorem lcG_pure {γ : DG} {θ : DT} {φ : DE} {δw : DEnv} {μ1 : Sto} {xs : List D} (f : Nat → Bool) (v : Nat → D) (hz : xs.length ≤ 100000)
    (hs : ∀ (i : Nat) (d : D) (μ2 : Sto) (X : DK) (Y : Sto → Prop), xs[i]? = some d → Sub μ1 μ2 → (f i = true → X (v i) μ2) → (f i = false → Y μ2) →
      γ d δw μ2 fun δ3 μ3 => θ Ψ δ3 μ3 fun b μ4 => (b = true → φ Ψ δ3 μ4 X) ∧ (b = false → Y μ4))
    (hd : Φ (.lst (givenD xs.length f v)) μ1) : LcG γ θ φ δw Ψ xs μ1 Φ := lc_go f v hz hs hd
/-- each item gives one -/
theorem lcG_map {γ : DG} {φ : DE} {δw : DEnv} {μ1 : Sto} {xs : List D} (v : Nat → D) (hz : xs.length ≤ 100000)
    (hs : ∀ (i : Nat) (d : D) (μ2 : Sto) (X : DK), xs[i]? = some d → Sub μ1 μ2 → X (v i) μ2 → γ d δw μ2 fun δ3 μ3 => φ Ψ δ3 μ3 X)
    (hd : Φ (.lst ((List.range xs.length).map v)) μ1) (mono : ∀ d δ μ (P Q : DEnv → Sto → Prop), (∀ a b, P a b → Q a b) → γ d δ μ P → γ d δ μ Q) : LcG γ dYes φ δw Ψ xs μ1 Φ := by
  refine lcG_pure (fun _ => true) v hz (fun i d μ2 X Y hi hsub hx hy => ?_) (by rw [givenD_all]; exact hd)
  exact mono _ _ _ _ _ (fun δ3 μ3 h => ⟨fun _ => h, fun z => nomatch z⟩) (hs i d μ2 X hi hsub (hx rfl))
theorem lcG_mapN {n : Nat} {φ : DE} {δw : DEnv} {μ1 : Sto} {xs : List D} (v : Nat → D) (hz : xs.length ≤ 100000)
    (hs : ∀ (i : Nat) (d : D) (μ2 : Sto) (X : DK), xs[i]? = some d → Sub μ1 μ2 → X (v i) μ2 → φ Ψ (δw.set n (some d)) μ2 X)
    (hd : Φ (.lst ((List.range xs.length).map v)) μ1) : LcG (eName n) dYes φ δw Ψ xs μ1 Φ :=
  lcG_map v hz hs hd fun d δ μ P Q h q => h _ _ q
theorem u_for {ι : DI} {γ : DG} {ω : DSt} : dFor ι γ ω Ψ Δ δ μ = ι Ψ δ μ fun xs μ1 => ∃ W : Nat → DEnv → Sto → Prop, W 0 δ μ1 ∧
  (∀ i d δ' μ', xs[i]? = some d → W i δ' μ' → γ d δ' μ' fun δ2 μ2 => ω Ψ { Δ with nx := W (i + 1), ct := W (i + 1), bk := Δ.nx } δ2 μ2) ∧ ∀ δ' μ', W xs.length δ' μ' → Δ.nx δ' μ' := rfl
section
variable {φ φ' : DE} {Ls : List D → Sto → Prop}
theorem u_iT : iSeqT φ Ψ δ μ Ls = φ Ψ δ μ fun x μ1 => ∃ ds, x = .tup ds ∧ Ls ds μ1 := rfl
theorem u_iL : iSeqL φ Ψ δ μ Ls = φ Ψ δ μ fun x μ1 => ∃ ds, x = .lst ds ∧ Ls ds μ1 := rfl
theorem u_iR1 : iR1 φ Ψ δ μ Ls = φ Ψ δ μ fun x μ1 => ∃ j, x = .int j ∧ j < 4611686018427387904 ∧ -4611686018427387904 ≤ j ∧ Ls (rngD 0 j.toNat) μ1 := rfl
theorem u_iR2 : iR2 φ φ' Ψ δ μ Ls = φ Ψ δ μ fun x μ1 => φ' Ψ δ μ1 fun y μ2 => ∃ i j, x = .int i ∧ y = .int j ∧ (-4611686018427387904 ≤ i ∧ i < 4611686018427387904 ∧ -4611686018427387904 ≤ j ∧ j < 4611686018427387904) ∧ Ls (rngD i (j - i).toNat) μ2 := rfl
theorem u_iZ : iZipT φ φ' Ψ δ μ Ls = φ Ψ δ μ fun x μ1 => φ' Ψ δ μ1 fun y μ2 => ∃ xs ys, x = .tup xs ∧ y = .tup ys ∧ Ls ((xs.zip ys).map fun p => .tup [p.1, p.2]) μ2 := rfl
theorem u_iS : iText φ Ψ δ μ Ls = φ Ψ δ μ fun x μ1 => ∃ s, x = .str s ∧ Ls (s.cps.toList.map fun c => .str ⟨#[c]⟩) μ1 := rfl
end
theorem w_lstE {P : List D → Prop} : (∃ es, D.lst ds = .lst es ∧ P es) = P ds := propext ⟨fun ⟨c, e, q⟩ => by cases e; exact q, fun q => ⟨ds, rfl, q⟩⟩
theorem rngD_get {lo : Int} {n i : Nat} {d : D} (h : (rngD lo n)[i]? = some d) : i < n ∧ d = .int (lo + (i : Int)) := by
  have hl := (List.getElem?_eq_some_iff.mp h).1
  rw [rngD_len] at hl
  rw [rngD_at hl] at h
  cases h
  exact ⟨hl, rfl⟩
theorem w_allB {P : List Bool} (e : ds = P.map .bl) (h : Φ (.bl (P.all id)) μ) : cAll [.lst ds] μ Φ := ⟨P, by rw [e], h⟩
/-- one statement, what follows named -/
theorem q_seq {ω ζ : DSt} (h : ∀ nx, nx = ζ Ψ Δ → ω Ψ ⟨nx, Δ.rt, Δ.bk, Δ.ct⟩ δ μ) : dSeq ω ζ Ψ Δ δ μ := h _ rfl
theorem atI_n {α : Type} {xs : List α} {j : Nat} {v : α} (h : xs[j]? = some v) : atI xs (j : Int) = some v := atI_nat h
theorem ret_same {Φ : DK} {d : D} {μ : Sto} (h : Φ d μ) : ∃ μ2, Sub μ2 μ ∧ Φ d μ2 := ⟨μ, Sub.refl, h⟩
theorem mulx (a b : Nat) (h1 : i.natAbs < 2 ^ a) (h2 : j.natAbs < 2 ^ b) (h : a + b ≤ 134217728) : CMulX i j := mulx_ok h1 h2 h
end
end DW
set_option Elab.async false
set_option linter.all false
set_option maxRecDepth 100000
set_option maxHeartbeats 4000000
namespace DW
open PySem PySem.Spec PyProof.Rows L2 HT
/-! ### t[::-1] -/
section
variable {prog : Program} {w : World} {A : Around} {E : Value → Shared → Prop} {s : Shared}
theorem revAdjust (n : Nat) : Builtin.Slice.sliceAdjust none none (-1) (n : Int) = ((n : Int) - 1, -1) := by
  unfold Builtin.Slice.sliceAdjust
  simp
theorem revPlaces (n : Nat) : Builtin.Slice.slicePlaces ((n : Int) - 1) (-1) (-1) = n := by
  unfold Builtin.Slice.slicePlaces
  rw [if_neg (by omega)]
  by_cases h : n = 0
  · subst h; simp
  · rw [if_pos (by omega)]
    have : (((n : Int) - 1) - (-1) - 1) / (- (-1 : Int)) + 1 = (n : Int) := by rw [show (- (-1 : Int)) = 1 from by decide, Int.ediv_one]; omega
    rw [this]
    omega
theorem revPick (xs : Array Value) : ((List.range xs.size).filterMap fun (k : Nat) => xs[(((xs.size : Nat) : Int) - 1 + (k : Int) * (-1)).toNat]?).toArray = xs.toList.reverse.toArray := by
  congr 1
  have h : ∀ n, n ≤ xs.size → ((List.range n).filterMap fun (k : Nat) => xs[(((xs.size : Nat) : Int) - 1 + (k : Int) * (-1)).toNat]?) = xs.toList.reverse.take n := by
    intro n
    induction n with
    | zero => intro _; rfl
    | succ n ih =>
      intro hn
      have e1 : (((xs.size : Nat) : Int) - 1 + ((n : Nat) : Int) * (-1)).toNat = xs.size - 1 - n := by omega
      have hl : n < xs.toList.reverse.length := by simp; omega
      rw [List.range_succ, List.filterMap_append, ih (by omega), List.take_add_one, List.getElem?_eq_getElem hl]
      congr 1
      have e2 : xs[xs.size - 1 - n]? = some xs.toList.reverse[n] := by
        rw [List.getElem_reverse, ← Array.getElem?_toList]
        rw [List.getElem?_eq_getElem (by simp; omega)]
        simp
      simp only [List.filterMap_cons, List.filterMap_nil, e1, e2]
      rfl
  rw [h xs.size (Nat.le_refl _), List.take_of_length_le (by simp)]
theorem sliceApplied_rev {sl : Addr} {vl vu vs : Value} {n : Nat} {Q : Int × Int × Nat → Shared → Prop} (hs : s.heap.IsSliceOf sl vl vu vs) (pl : IsPart vl none) (pu : IsPart vu none) (ps : IsPart vs (some (-1)))
    (h : Q ((n : Int) - 1, -1, n) s) : wpAny (model prog w) A (Builtin.Slice.sliceApplied (.ref sl) (pure (n : Int))) Q E s := by
  obtain ⟨os, hos, hcs, hds⟩ := id hs
  unfold Builtin.Slice.sliceApplied Builtin.Slice.sliceFields
  refine wpAny_bind (wpAny_bind (wpAny_field hos hds (x := vl) rfl (wpAny_bind (wpAny_field hos hds (x := vu) rfl (wpAny_bind (wpAny_field hos hds (x := vs) rfl (wpAny_pure ?_)))))))
  refine wpAny_bind (slicePart_ ps ?_)
  show wpAny _ _ (if ((-1 : Int) == 0) = true then _ else _) _ _ s
  rw [if_neg (by decide)]
  refine wpAny_bind (slicePart_ pl (wpAny_bind (slicePart_ pu (wpAny_bind (wpAny_pure ?_)))))
  show wpAny _ _ (match Builtin.Slice.sliceAdjust none none (-1) (n : Int) with | (lo, hi) => pure (lo, (-1 : Int), Builtin.Slice.slicePlaces lo hi (-1))) _ _ s
  rw [revAdjust n]
  show wpAny _ _ (pure ((n : Int) - 1, (-1 : Int), Builtin.Slice.slicePlaces ((n : Int) - 1) (-1) (-1))) _ _ s
  rw [revPlaces]
  exact wpAny_pure h
theorem getItem_tuple_rev {t sl : Addr} {items : Array Value} {vl vu vs : Value} {Q : Value → Shared → Prop} (ht : IsTup s.heap t items) (hs : s.heap.IsSliceOf sl vl vu vs) (pl : IsPart vl none) (pu : IsPart vu none) (ps : IsPart vs (some (-1)))
    (h : Q (.ref s.heap.objs.size) { s with heap := s.heap.push { cls := .type "tuple", data := .seq items.toList.reverse.toArray } })
    (hsz : items.size ≤ sizeLine) : wpAny (model prog w) A (getItem (.ref t) (.ref sl)) Q E s := by
  have htake : sizeOk (.seq items.toList.reverse.toArray) := by
    show items.toList.reverse.toArray.size ≤ sizeLine
    rw [List.size_toArray, List.length_reverse, Array.length_toList]
    exact hsz
  obtain ⟨os, hos, hcs, hds⟩ := id hs
  have hTs : s.TypeIs (.ref sl) "slice" := ⟨os, hos, hcs⟩
  unfold getItem
  try with_reducible refine wpAny_holding ?_
  first | refine wpAny_bind (wpAny_pure ?_) | skip
  refine wpAny_bind (wpAny_sequenceKey ht.typeIs (by decide) ?_)
  refine wpAny_bind (wpAny_callSpecial?_slot (name := Str.ofString "__getitem__") ht.typeIs PyProof.Rows.slot_tuple_getitem
    (wpAny_call_entry PyProof.Rows.slot_tuple_getitem ht.typeIs entry_tuple_getitem ?_ (args_tuple_getitem _ _)))
  show wpAny _ _ (Builtin.Tuple.tupleItemsOf (.ref t) >>= _) _ _ s
  refine wpAny_bind (tupleItemsOf_ ht ?_)
  refine wpAny_bind (wpAny_typeOf hTs ?_)
  rw [if_pos (by decide)]
  refine wpAny_bind (sliceApplied_rev hs pl pu ps ?_)
  have hno : ¬ ((((((items.size : Nat) : Int) - 1) == 0 && (-1 : Int) == 1 && items.size == items.size)) = true) := by
    intro q
    rw [Bool.and_eq_true, Bool.and_eq_true] at q
    exact absurd (eq_of_beq q.1.2) (by decide)
  show wpAny _ _ (if (((((items.size : Nat) : Int) - 1) == 0 && (-1 : Int) == 1 && items.size == items.size)) = true then _ else _) _ _ s
  rw [if_neg hno, revPick]
  first
    | exact wpAny_bind (m := Builtin.Tuple.tupleExact _) (wpAny_newObj_type (wpAny_pure ⟨_, rfl, wpAny_pure h⟩) htake)
    | exact wpAny_bind (m := Builtin.Tuple.tupleExact _) (wpAny_newObj_type (wpAny_bind (wpAny_pure (wpAny_pure ⟨_, rfl, wpAny_pure h⟩))) htake)
    | exact wpAny_bind (wpAny_bind (m := Builtin.Tuple.tupleExact _) (wpAny_newObj_type (wpAny_pure (wpAny_pure ⟨_, rfl, wpAny_pure h⟩)) htake))
    | exact wpAny_bind (wpAny_bind (m := Builtin.Tuple.tupleExact _) (wpAny_newObj_type (wpAny_pure ⟨_, rfl, wpAny_pure h⟩) htake))
end
def tRevT (K : Fg) (te : TE) : TE := fun σ H Q => te σ H fun x H1 => ∃ a xs, x = .ref a ∧ SqT K H1 a xs ∧ ∀ p, H1 p = none → Q (.ref p) (upd H1 p (.tup xs.reverse))
theorem pe_revT {X : Cx} {e : Expr} {te : TE} {k : Nat} {p1 p2 p3 pos : Pos} (he : PE X e te) : PE X (.Subscript e (.Slice none none (some (.UnaryOp .USub (.Constant (.int 1) k p1) p2)) p3) pos) (tRevT X.K te) := by
  refine ⟨fun pins s σ H Q I h => ?_⟩
  refine Subscript_ (thn (he.run pins s σ H _ I h) fun v s1 ⟨x, H1, I1, r1, q1⟩ => ?_)
  obtain ⟨a, xs, ex, hx, q⟩ := q1
  subst ex
  cases r1
  have hst : PO X (some (.UnaryOp .USub (.Constant (.int 1) k p1) p2)) (tPart (tUn (rU fun i => .int (-i)) (tC (.int 1)))) := po_some (pe_un un_neg pe_int)
  refine wpAny_Slice (thn (po_none.run pins s1 σ H1 (fun o H2 => o = none ∧ H2 = H1) I1 ⟨rfl, rfl⟩) fun vl s2 ⟨l, H2, I2, pl, el, e2⟩ => ?_)
  subst el e2
  refine thn (po_none.run pins s2 σ H2 (fun o H3 => o = none ∧ H3 = H2) I2 ⟨rfl, rfl⟩) fun vu s3 ⟨u, H3, I3, pu, eu, e3⟩ => ?_
  subst eu e3
  refine thn (hst.run pins s3 σ H3 (fun o H4 => o = some (-1) ∧ H4 = H3) I3 ⟨1, rfl, -1, rfl, rfl, rfl⟩) fun vs s4 ⟨o, H4, I4, ps, eo, e4⟩ => ?_
  subst eo e4
  have I5 : Inv X pins σ H4 { s4 with heap := s4.heap.push { cls := .type "slice", data := .fields #[vl, vu, vs] } } := I4.kept (t' := s4.toks) fun b ob q => Heap.get?_push_of_some _ q
  obtain ⟨its, r, ht, hz⟩ := I5.tuple hx
  have hlen := r.length
  show wpAny (model X.prog X.w) X.A (subscriptTail e (.Slice none none (some (.UnaryOp .USub (.Constant (.int 1) k p1) p2)) p3) (.ref a) (.ref s4.heap.objs.size)) (EP X pins σ Q) X.xe { s4 with heap := s4.heap.push { cls := .type "slice", data := .fields #[vl, vu, vs] } }
  refine tail_any (ops := [.ref a, .ref s4.heap.objs.size]) ht.typeIs (PyProof.Rows.slot_tuple_getitem.lookup) ?_ (by with_unfolding_all rfl)
  refine getItem_tuple_rev ht (Heap.IsSliceOf.new _ vl vu vs) pl pu ps ?_ (by rw [List.size_toArray]; omega)
  refine ⟨.ref _, _, I5.laid (t' := s4.toks) (o := .tup xs.reverse) (fun b ob q => Heap.get?_push_of_some _ q) (Nat.le_refl _) ?_, rfl, q _ (I5.hok.fresh (Nat.le_refl _))⟩
  exact ⟨by rw [List.length_reverse]; exact hz, _, r.reverse, IsTup.new _ _⟩
def dRevT (φ : DE) : DE := fun Ψ δ μ Φ => φ Ψ δ μ fun x μ1 => ∃ ds, x = .tup ds ∧ Φ (.tup ds.reverse) μ1
theorem sRevT {K : Fg} {B : Bx K} {te : TE} {φ : DE} (a : SE B te φ) : SE B (tRevT K te) (dRevT φ) := fun σ H δ μ Φ Q S q k =>
  a σ H δ μ _ _ S q fun v H1 x μ1 S1 e1 r1 q1 => by
    obtain ⟨ds, rfl, q2⟩ := q1
    obtain ⟨p, vs, rfl, h1, h2⟩ := Rep.tup_inv r1
    exact ⟨p, vs, rfl, h1.sq, fun p hp => k _ _ _ μ1 (S1.step (.new hp) (S1.sto.new hp)) (e1.trans (.new hp)) (rep_tup S1.sto hp h2.reverse) q2⟩
/-! ### t * k, any k -/
theorem tuple_mul1 (l : Addr) (items : Array Value) (n : Nat) (sl : Array (Option Value)) (dd : Option Addr) (x : Int) (u : Tok) (c0 : (decide (x < -(2 ^ 63)) || decide (x ≥ 2 ^ 63)) = false) (c1 : (items.isEmpty || x == 1) = true) :
    Meets (Builtin.«tuple.__mul__» ⟨[.ref l, .int x u], []⟩) (fun _ R s => s.heap.get? l = some { cls := .type "tuple", dict := dd, data := .seq items n, slots := sl } ∧ R (.ok (.ret (Value.ref l))) s) :=
  .of_wp fun prog w A R s h => by
    obtain ⟨hp, g, d, tk, os⟩ := s
    obtain ⟨hl, h⟩ := h
    have f1 := AutoSeq1.idx_int
    wp_walk using wpAny_loadPart' hl
    repeat (first
      | (refine wpAny_ite_false (decide_eq_false (by rw [c0]; exact Bool.false_ne_true)) ?_; wp_walk using wpAny_loadPart' hl)
      | (refine wpAny_ite_true (decide_eq_true (by rw [c1])) ?_; wp_walk using wpAny_loadPart' hl))
    exact ⟨_, rfl, h⟩
theorem tuple_mul0 (l : Addr) (items : Array Value) (n : Nat) (sl : Array (Option Value)) (dd : Option Addr) (x : Int) (u : Tok) (c0 : (decide (x < -(2 ^ 63)) || decide (x ≥ 2 ^ 63)) = false) (c1 : (items.isEmpty || x == 1) = false) (c2 : (decide (x ≤ 0) || items.isEmpty) = true) :
    Meets (Builtin.«tuple.__mul__» ⟨[.ref l, .int x u], []⟩) (fun _ R s => s.heap.get? l = some { cls := .type "tuple", dict := dd, data := .seq items n, slots := sl } ∧
      R (.ok (.ret (Value.ref s.heap.objs.size))) { s with heap := s.heap.push { cls := Value.type "tuple", data := Data.seq #[] }, toks := s.toks }) :=
  .of_wp fun prog w A R s h => by
    obtain ⟨hp, g, d, tk, os⟩ := s
    obtain ⟨hl, h⟩ := h
    have f1 := AutoSeq1.idx_int
    wp_walk using wpAny_loadPart' hl
    repeat (first
      | (refine wpAny_ite_false (decide_eq_false (by rw [c0]; exact Bool.false_ne_true)) ?_; wp_walk using wpAny_loadPart' hl)
      | (refine wpAny_ite_false (decide_eq_false (by rw [c1]; exact Bool.false_ne_true)) ?_; wp_walk using wpAny_loadPart' hl)
      | (refine wpAny_ite_true (decide_eq_true (by rw [c2])) ?_; wp_walk using wpAny_loadPart' hl))
    exact ⟨_, rfl, h⟩
def rRepA (K : Fg) : R2 := fun x y H Q => ∃ l k xs, x = .ref l ∧ y = .int k ∧ SqT K H l xs ∧ k ≤ 1000 ∧ -1000000 ≤ k ∧ xs.length ≤ 1000 ∧ (xs = [] ∨ k = 1 → Q (.ref l) H) ∧ (xs ≠ [] → k ≤ 0 → ∀ p, H p = none → Q (.ref p) (upd H p (.tup []))) ∧
  (xs ≠ [] → 2 ≤ k → ∀ p, H p = none → Q (.ref p) (upd H p (.tup (List.replicate k.toNat xs).flatten)))
theorem op_repA {X : Cx} : OpR X (binaryOp .Mult) (rRepA X.K) := by
  intro pins s σ H x y v u Q I rx ry h
  obtain ⟨l, k, xs, ex, ey, hT, h1, h2, hz, q1, q2, q3⟩ := h
  by_cases hbig : xs ≠ [] ∧ 2 ≤ k
  · exact op_repT pins s σ H _ _ v u Q I rx ry ⟨l, k, xs, ex, ey, hT, hbig.1, hbig.2, h1, hz, q3 hbig.1 hbig.2⟩
  · subst ex ey
    cases rx
    obtain ⟨t, rfl⟩ := ry
    obtain ⟨its, r, ⟨⟨cls, dd, data, sl⟩, ho, hc, n, hd⟩, hs⟩ := I.tuple hT
    simp only at hc hd
    subst hc hd
    have hle : its.length = xs.length := r.length.symm
    have c0 : (decide (k < -(2 ^ 63)) || decide (k ≥ 2 ^ 63)) = false := by
      rw [decide_eq_false (by omega), decide_eq_false (by omega)] <;> rfl
    have hemp : its.toArray.isEmpty = decide (xs = []) := by
      cases its with
      | nil => rw [List.eq_nil_of_length_eq_zero (l := xs) (by simpa using hle.symm)]; rfl
      | cons a b =>
        have : xs ≠ [] := fun z => by rw [z] at hle; simp at hle
        rw [decide_eq_false this]; rfl
    by_cases hs1 : xs = [] ∨ k = 1
    · have c1 : (its.toArray.isEmpty || k == 1) = true := by
        rw [hemp]
        rcases hs1 with z | z
        · rw [decide_eq_true z]; rfl
        · rw [z]; simp
      refine wpAny_binaryOp_repeat_ref (T := "tuple") (U := "int") (by decide) ⟨_, ho, rfl⟩ (fun s' => typeIs_int s' k t) noFill_tuple_mul F.fills_int_mul F.slot_int_rmul repeat_tuple F.slot_int_index.lookup
        (call_meets F.slot_int_rmul (typeIs_int s k t) F.entry_int_rmul (F.args_int_rmul_2 _ _) (int_rmul_tuple k t l its.toArray n dd sl)
          ⟨ho, rfl, ⟨_, ho, rfl⟩, call_meets F.slot_tuple_mul ⟨_, ho, rfl⟩ F.entry_tuple_mul (F.args_tuple_mul_2 _ _) (tuple_mul1 l its.toArray n sl dd k t c0 c1) ⟨ho, ?_⟩⟩)
      exact ⟨.ref l, H, I, rfl, q1 hs1⟩
    · have hx : xs ≠ [] := fun z => hs1 (.inl z)
      have hk : k ≤ 0 := by
        have : ¬ 2 ≤ k := fun z => hbig ⟨hx, z⟩
        have : k ≠ 1 := fun z => hs1 (.inr z)
        omega
      have c1 : (its.toArray.isEmpty || k == 1) = false := by
        rw [hemp, decide_eq_false hx, Bool.false_or]
        exact beq_eq_false_iff_ne.mpr (by omega)
      have c2 : (decide (k ≤ 0) || its.toArray.isEmpty) = true := by rw [decide_eq_true hk]; rfl
      refine wpAny_binaryOp_repeat_ref (T := "tuple") (U := "int") (by decide) ⟨_, ho, rfl⟩ (fun s' => typeIs_int s' k t) noFill_tuple_mul F.fills_int_mul F.slot_int_rmul repeat_tuple F.slot_int_index.lookup
        (call_meets F.slot_int_rmul (typeIs_int s k t) F.entry_int_rmul (F.args_int_rmul_2 _ _) (int_rmul_tuple k t l its.toArray n dd sl)
          ⟨ho, rfl, ⟨_, ho, rfl⟩, call_meets F.slot_tuple_mul ⟨_, ho, rfl⟩ F.entry_tuple_mul (F.args_tuple_mul_2 _ _) (tuple_mul0 l its.toArray n sl dd k t c0 c1 c2) ⟨ho, ?_⟩⟩)
      refine ⟨.ref s.heap.objs.size, _, I.laid (t' := s.toks) (o := .tup []) (fun b ob q => Heap.get?_push_of_some _ q) (Nat.le_refl _) ?_, rfl, q2 hx hk _ (I.hok.fresh (Nat.le_refl _))⟩
      exact ⟨by decide, _, .nil, IsTup.new _ _⟩
def oRepT : DO := fun x y μ Φ => ∃ ds k, x = .tup ds ∧ y = .int k ∧ k ≤ 1000 ∧ -1000000 ≤ k ∧ ds.length ≤ 1000 ∧ Φ (.tup (List.replicate k.toNat ds).flatten) μ
theorem roRepT {K : Fg} : RO K (rRepA K) oRepT := fun H μ v w d e Φ Q s0 r1 r2 h k => by
  obtain ⟨ds, i, rfl, rfl, h1, h2, h3, q⟩ := h
  obtain ⟨p, vs, rfl, t1, t2⟩ := Rep.tup_inv r1
  obtain rfl := Rep.int_inv r2
  have hl := t2.length
  have nil : vs = [] → ds = [] := fun z => by rw [z] at hl; exact List.eq_nil_of_length_eq_zero hl.symm
  have rnil : ∀ n, (List.replicate n ([] : List D)).flatten = [] := fun n => by induction n <;> simp_all [List.replicate_succ]
  refine ⟨p, i, vs, rfl, rfl, t1.sq, h1, h2, by omega, fun z => ?_, fun z z2 q0 hp => ?_, fun z z2 q0 hp => ?_⟩
  · refine k _ H _ μ .refl s0 ?_ q
    have e : (List.replicate i.toNat ds).flatten = ds := by
      rcases z with z | z
      · rw [nil z, rnil]
      · subst z; simp
    rw [e]
    exact r1
  · refine k _ _ _ μ (.new hp) (s0.new hp) ?_ q
    have e : i.toNat = 0 := by omega
    rw [e]
    exact rep_tup s0 hp .nil
  · exact k _ _ _ μ (.new hp) (s0.new hp) (rep_tup s0 hp (reps_rep t2 _)) q
end DW
set_option Elab.async false
set_option linter.all false
set_option maxRecDepth 100000
set_option maxHeartbeats 4000000
namespace DW
open PySem PySem.Spec PyProof.Rows L2 GenW
/-! ### tuple(g), g a generator that a def made -/
theorem code_tuple_gmade {P : Program} {w : World} {outer : List Env} {H : Hp} {sc s : Shared} {ex : List Addr} {Q : List V → Hp → Prop} {EX : XK} {A : Around} {k : Nat} {u : Value} {Q₁ : Value → Shared → Prop} {E : Value → Shared → Prop}
    (hr : Room (k + 3) A) (hfr : A.frames = some outer) (h : GMade P w k outer H sc ex Q EX u s)
    (hQ : ∀ (S : Addr) (s' : Shared) (acc : Array Value) (c : Nat) (H' : Hp) (ys : List V), s.heap.objs.size ≤ S → s'.heap.get? S = some (lstObj acc c) → Vals ys acc.toList → ys.length ≤ sizeLine → s'.os = sc.os → AllBare s'.gens → Un (frs outer) ex H H' sc.heap s'.heap → HOk P w H' s'.heap → H' S = none → Q ys H' →
      Q₁ (.ref s'.heap.objs.size) { s' with heap := s'.heap.push { cls := .type "tuple", data := .seq acc } })
    (hexc : ∀ (e : Value) (s' : Shared) (g : Nat), CX P w outer H sc EX e s' → NotStop (model P w) e s'.heap ∧ E e (s'.setGen g .finished)) :
    codeAny (model P w) A.in1 (.call (.builtin "tuple.__new__") ⟨[.type "tuple", u], []⟩) (wants Q₁ E) s := by
  obtain ⟨a, g, c, rfl, ha1, ha2, hg, hgs, hos, hb, hl, hkp, wake⟩ := h
  have hSa : s.heap.objs.size ≠ a := Nat.ne_of_gt ha2
  have hcl : cStatics < s.heap.objs.size := let ⟨_, hn, _⟩ := hl; hn.lt
  have hSc : s.heap.objs.size ≠ cStatics := Nat.ne_of_gt hcl
  have gty : ∀ {h : Heap}, (∀ b o, s.heap.get? b = some o → h.get? b = some o) → h.IsGen a g := fun {h} q => hg.keeps q
  have hTI : s.TypeIs (.ref a) "generator" := Heap.IsGen.typeIs (gty fun _ _ z => z)
  -- collect
  have hcol : ∀ {Qc : List Value → Shared → Prop}, (∀ (S : Addr) (s' : Shared) (acc : Array Value) (c : Nat) (H' : Hp) (ys : List V), s.heap.objs.size ≤ S → s'.heap.get? S = some (lstObj acc c) → Vals ys acc.toList → ys.length ≤ sizeLine → s'.os = sc.os → AllBare s'.gens → Un (frs outer) ex H H' sc.heap s'.heap → HOk P w H' s'.heap → H' S = none → Q ys H' → Qc acc.toList s') →
      wpAny (model P w) A.in1.in1 (collect (.ref a)) Qc E s := fun {Qc} hqc => by
    unfold collect
    refine wpAny_bind (wpAny_runValue (codeAny_builtin F.entry_proto_collect ?_))
    rw [Around.under_plainId F.plain_proto_collect _]
    show wpAny _ A.in1.in1.in1 (newList [] >>= fun l => again (.builtin "list.__iadd__" ⟨[l, .ref a], []⟩)) _ _ s
    refine wpAny_bind (wpAny_newObj_type ?_)
    refine wpAny_pure ⟨plainId_quiet F.plain_list_iadd _, codeAny_builtin F.entry_list_iadd ?_⟩
    rw [Around.under_plainId F.plain_list_iadd _]
    have k1 : ∀ b o, s.heap.get? b = some o → (s.heap.push { cls := .type "list", data := .seq ([] : List Value).toArray }).get? b = some o := fun b o e => Heap.get?_push_of_some _ e
    have up : ∀ (h : Heap) (f : Obj → Obj), (∀ b o, s.heap.get? b = some o → h.get? b = some o) → ∀ b o, s.heap.get? b = some o → (h.update s.heap.objs.size f).get? b = some o := fun h f q b o e =>
      (Heap.get?_update_other _ _ (Ne.symm (Nat.ne_of_lt (Heap.lt_size e)))).trans (q b o e)
    show wpAny _ A.in1.in1.in1 (Builtin.List.listExtendWith (.ref s.heap.objs.size) (.ref a) (.ref s.heap.objs.size)) _ _ _
    unfold Builtin.List.listExtendWith
    refine wpAny_bind (wpAny_typeOf (Heap.IsGen.typeIs (s := { s with heap := _ }) (gty k1)) ?_)
    have h1 : Builtin.List.listSameRef (.ref s.heap.objs.size) (.ref a) = false := by simp [Builtin.List.listSameRef, hSa]
    have h2 : (Value.type "generator" == Value.type "list") = false := by decide
    have h3 : (Value.type "generator" == Value.type "tuple") = false := by decide
    simp only [h1, h2, h3, Bool.or_false, Bool.false_eq_true, if_false]
    refine wpAny_bind (wpAny_pyIter_gen (s := { s with heap := _ }) (gty k1) ?_)
    refine wpAny_bind (wpAny_holding ?_)
    unfold Builtin.List.listLengthHint
    refine wpAny_bind (wpAny_specialOf (Heap.IsGen.typeIs (s := { s with heap := _ }) (gty k1)) F.gen_no_len ?_)
    show wpAny _ A.in1.in1.in1 (specialOf (Value.ref a) (Str.ofString "__length_hint__") >>= _) _ _ _
    refine wpAny_bind (wpAny_specialOf (Heap.IsGen.typeIs (s := { s with heap := _ }) (gty k1)) F.gen_no_hint ?_)
    refine wpAny_pure ?_
    show wpAny _ A.in1.in1.in1 (rule "list.extend.makes-room" >>= fun _ => Builtin.List.listTouch (.ref s.heap.objs.size) >>= fun _ =>
      again (.builtin "list.extend.loop" ⟨[.ref s.heap.objs.size, .ref a, .ref s.heap.objs.size], []⟩)) _ _ _
    refine wpAny_bind (wpAny_rule ?_)
    have hS2 : (s.heap.push { cls := .type "list", data := .seq ([] : List Value).toArray }).get? s.heap.objs.size = some { cls := .type "list", data := .seq ([] : List Value).toArray } := Heap.get?_push_size _ rfl
    refine wpAny_bind ?_
    show wpAny _ A.in1.in1.in1 (updateSeq s.heap.objs.size (·.push .none) >>= fun _ => updateSeq s.heap.objs.size (·.pop)) _ _ _
    refine wpAny_bind (wpAny_updateSeq hS2 rfl ?_)
    have hS3 := Heap.get?_update_self (Obj.mapSeq (·.push Value.none)) hS2 rfl
    refine wpAny_updateSeq (hz := by seq_fits) hS3 rfl ?_
    have hS4 := Heap.get?_update_self (Obj.mapSeq (·.pop)) hS3 rfl
    have k4 := up _ (Obj.mapSeq (·.pop)) (up _ (Obj.mapSeq (·.push Value.none)) k1)
    refine wpAny_pure ⟨plainId_quiet F.plain_extend_loop _, ?_⟩
    refine drain (P := P) (w := w) (outer := outer) (H := H) (sc := sc) (ex := ex) (Q := Q) (EX := EX) (A := A.in1.in1) (g := g) (res := .ref s.heap.objs.size) hr.hd (by have := hr.dp; show A.depth < _; omega) hSa hSc
      (fun s' acc c H' ys q1 q2 q3 q4 q5 q6 q7 q8 q9 => ?_) (fun e s' hc => ?_)
      sizeLine _ (gty k4) (hl.keeps k4) ⟨_, hgs, rfl, ?_⟩
    · show wpAny _ A.in1.in1 (load s.heap.objs.size >>= _) _ _ s'
      refine wpAny_bind (wpAny_load q1 ?_)
      exact wpAny_pure (hqc _ s' acc c H' ys (Nat.le_refl _) q1 q2 q3 q4 q5 q6 q7 q8 q9)
    · exact hexc e s' g hc
    · refine wake _ _ _ ⟨hr.hd, ?_, ?_⟩ hfr (Nat.le_refl _) k4 ⟨_, hS4⟩ hos (allBare_setGen (s := { s with heap := _ }) hb rfl)
      · have := hr.dp
        show A.depth + 3 * k + 5 < _
        omega
      · have := hr.un
        show A.units + 1 + 1 + 1 + 1 + 16 * k + 200 < _
        omega
  refine codeAny_of_tree ?_
  show wpAny _ A.in1.in1 (do checkBuiltinCall "tuple.__new__" ⟨[.type "tuple", .ref a], []⟩; again (.builtin "tuple.__new__" ⟨[.type "tuple", .ref a], []⟩)) _ _ s
  refine wpAny_bind (wpAny_of_eq (F.newCall_tuple_1 _) (wpAny_pure ⟨plainId_quiet F.plain_tuple_new _, codeAny_builtin F.entry_tuple_new ?_⟩))
  rw [Around.under_plainId F.plain_tuple_new _]
  have hsub := sub_tuple_self
  have hinit := init_tuple_lookup
  have hmh := madeHere_tuple
  wp_walk using wpAny_typeOf hTI, hcol
  intro S s' acc c H' ys q0 q1 q2 q3 q4 q5 q6 q7 q8 q9
  show wpAny _ _ (Builtin.Tuple.tupleExact acc.toList.toArray >>= fun v => ret v) _ _ _
  unfold Builtin.Tuple.tupleExact
  have hsz : acc.size ≤ sizeLine := by
    have e1 := q2.length
    have e2 : acc.toList.length = acc.size := by simp
    omega
  refine wpAny_bind (wpAny_newObj_type ?_ (by show acc.toList.toArray.size ≤ sizeLine; simp only [Array.toArray_toList]; exact hsz))
  refine wpAny_pure ?_
  have e : acc.toList.toArray = acc := by simp
  rw [e]
  exact hQ S s' acc c H' ys q0 q1 q2 q3 q4 q5 q6 q7 q8 q9
theorem call_tuple_new {P : Program} {w : World} {outer : List Env} {H : Hp} {sc s : Shared} {ex : List Addr} {Q : List V → Hp → Prop} {EX : XK} {A : Around} {k : Nat} {u : Value} {Q' : Value → Shared → Prop} {E : Value → Shared → Prop}
    (hr : Room (k + 3) A) (hfr : A.frames = some outer) (h : GMade P w k outer H sc ex Q EX u s)
    (hQ : ∀ (S : Addr) (s' : Shared) (acc : Array Value) (c : Nat) (H' : Hp) (ys : List V), s.heap.objs.size ≤ S → s'.heap.get? S = some (lstObj acc c) → Vals ys acc.toList → ys.length ≤ sizeLine → s'.os = sc.os → AllBare s'.gens → Un (frs outer) ex H H' sc.heap s'.heap → HOk P w H' s'.heap → H' S = none → Q ys H' →
      Q' (.ref s'.heap.objs.size) { s' with heap := s'.heap.push { cls := .type "tuple", data := .seq acc } })
    (hexc : ∀ (e : Value) (s' : Shared) (g : Nat), CX P w outer H sc EX e s' → NotStop (model P w) e s'.heap ∧ E e (s'.setGen g .finished)) :
    wpAny (model P w) A (call (.type "tuple") [u]) Q' E s := by
  refine callType_codes (Q₁ := fun obj s₁ => s₁.TypeIs obj "tuple" ∧ Q' obj s₁) F.called_tuple (F.typeCall_tuple_1 _) F.entry_object_init
    (code_tuple_gmade hr hfr h (fun S s' acc c H' ys q0 q1 q2 q3 q4 q5 q6 q7 q8 q9 => ⟨⟨_, Heap.get?_push_size _ rfl, rfl⟩, hQ S s' acc c H' ys q0 q1 q2 q3 q4 q5 q6 q7 q8 q9⟩) hexc) fun obj s₁ h₁ => ?_
  exact ⟨h₁.1, F.args_object_init_2 obj _, object_init_meets F.called_tuple.init.lookup F.called_tuple.made (by decide) P w A.in1 _ s₁ ⟨h₁.1, rfl, h₁.2⟩⟩
def tTupG (tg : TGen) : TE := fun σ H Q => tg σ H fun out H2 => ∀ S p, H2 S = none → S ≠ p → upd H2 S (.lst out) p = none → Q (.ref p) (upd (upd H2 S (.lst out)) p (.tup out))
/-- tuple(g) -/
theorem pe_tupG {X : Cx} {k : Nat} {p pos : Pos} {e : Expr} {tg : TGen} {E : XK} {nm : Str} (h : PGen X k e tg E) (hx : Passes (CX X.prog X.w) X E) (hns : NoStop X.K E) (hr : Room (k + 3) X.A) (hg : Gl X nm) (hmg : X.mg nm = none) (hv : bootBuiltins nm = some (.type "tuple")) (hnm : nm ≠ "__name__" := by decide) (hdb : (nm == ("__debug__" : Str)) = false := by decide)
    (he : starEach [e] X.env = (false, eval e X.env) :: starEach [] X.env := by rfl) : PE X (.Call (.Name nm p) [e] [] pos) (tTupG tg) := by
  refine ⟨fun pins s σ H Q I hq => ?_⟩
  refine wpAny_Call_Name_kw (ld_blt I hg hmg hv ?_ hnm hdb)
  refine PyProof.Rows.callWith_type1 ?_ he rfl
  rw [he]
  show wpAny _ _ (spliced ((false, eval e X.env) :: backTo pos (starEach [] X.env))) _ _ s
  refine Calls.spliced_cons (thn (h.run pins s σ H _ I hq) fun u s1 ⟨H1, sc, ex, I1, hex, hG⟩ => ?_)
  refine Calls.spliced_nil ?_
  have hsz : sc.heap.objs.size ≤ s1.heap.objs.size := by
    obtain ⟨a, g, c, _, h1, h2, _⟩ := hG
    exact Nat.le_trans h1 (Nat.le_of_lt h2)
  refine call_tuple_new hr I1.ok.frames hG (fun S s' acc c H' ys q0 q1 q2 hl q3 q4 q5 q6 q7 q8 => ?_) fun e s' g hc => ?_
  · have J := I1.drained (Nat.le_trans hsz q0) hl q1 q2 hex q3 q4 q5 q6 q7
    have hSlt := Heap.lt_size q1
    refine ⟨.ref s'.heap.objs.size, _, J.laid (t' := s'.toks) (o := .tup ys) (fun b ob q => Heap.get?_push_of_some _ q) (Nat.le_refl _) ?_, rfl, q8 S s'.heap.objs.size q7 (Nat.ne_of_lt hSlt) (J.hok.fresh (Nat.le_refl _))⟩
    refine ⟨hl, acc.toList, q2, ?_⟩
    have := IsTup.new s'.heap acc
    simpa using this
  · have kin : X.K.In s'.heap := by
      obtain ⟨a, B, H', cls, d, _, fl, _, ub, _⟩ := id hc
      refine I1.ok.mod.kin.keeps fun b o eb => fl.1 b o (ub.keep b o (I1.bs b o eb).1 (I1.bs b o eb).2 fun hm => ?_)
      rcases List.mem_cons.mp (I1.stkSub b hm) with z | z
      · have h1 := Heap.lt_size eb
        have h2 := Nat.le_trans I1.ok.bsz I1.ok.above
        rw [z] at h1
        exact absurd (Nat.lt_of_lt_of_le h1 h2) (Nat.lt_irrefl _)
      · exact I1.ok.nofr eb z
    refine ⟨notStop_of hns kin hc, hx pins σ H1 sc e _ I1 ?_⟩
    · obtain ⟨a, B, H', cls, d, z1, fl, z2, ub, z3, z4, z5, z6⟩ := hc
      exact ⟨a, B, H', cls, d, z1, fl, z2, ub, z3, z4, allBare_setGen z5 rfl, z6⟩
end DW
set_option Elab.async false
set_option linter.all false
set_option maxRecDepth 100000
set_option maxHeartbeats 4000000
namespace DW
open PySem PySem.Spec PyProof.Rows L2 HotX
/-! ### any(xs) within an except suite -/
section
variable {prog : Program} {w : World} {A : Around} {E : Value → Shared → Prop} {s : Shared}
theorem next_list_end_hot {it l x1 : Addr} {i : Nat} {items : Array Value} {Q : Option Value → Shared → Prop} (hot : HotAt A x1 s.heap) (hne : x1 ≠ it)
    (hit : s.heap.IsListIter it l i) (hl : s.heap.IsList l items) (hx : items[i]? = none)
    (hQ : ∀ h', Heap.ExtBut it s.heap h' → Q none { s with heap := h' }) : wpAny (model prog w) A (pyNext (.ref it)) Q E s := by
  obtain ⟨o, ho, hc, hd⟩ := id hit
  obtain ⟨ol, hol, _, nl, hdl⟩ := hl
  obtain ⟨hh, o1, vs1, h1, d1, c1⟩ := hot
  unfold pyNext
  refine wpAny_bind (wpAny_attempt (wpAny_callSpecial?_slot (name := Str.ofString "__next__") hit.typeIs slot_listiter_next
    (wpAny_call_entry slot_listiter_next hit.typeIs entry_listiter_next ?_ (args_listiter_next _))))
  show wpAny _ _ (field (.ref it) 0 >>= _) _ _ s
  refine wpAny_bind (wpAny_field ho hd (x := .ref l) rfl ?_)
  show wpAny _ _ (if (Value.ref l == Value.none) = true then _ else _) _ _ s
  rw [if_neg (show ¬ ((Value.ref l == Value.none) = true) from Bool.false_ne_true)]
  show wpAny _ _ (field (.ref it) 1 >>= _) _ _ s
  refine wpAny_bind (wpAny_field ho hd (x := .int i 0) rfl ?_)
  show wpAny _ _ (seqItems? (.ref l) >>= _) _ _ s
  refine wpAny_bind (wpAny_seqItems hol hdl ?_)
  simp only [Int.toNat_natCast, hx]
  refine wpAny_bind (wpAny_rule (wpAny_bind (wpAny_setField ho hd (by simp) ?_)))
  show wpAny _ _ (newExc (.type "StopIteration") [] >>= _) _ _ _
  have hh1 : ∀ f, (s.heap.update it f).get? x1 = some o1 := fun f => by rw [Heap.get?_update_other _ _ (Ne.symm hne)]; exact h1
  refine wpAny_bind ?_
  simp only [newExc, newTuple]
  refine wpAny_bind (wpAny_newObj_type ?_ (by size_fits))
  refine wpAny_bind (m := firstArgMember _ _) (wpAny_of_eq (a := Value.none) (by first | rfl | (simp only [firstArgMember]; rfl)) ?_)
  refine wpAny_newObj_type ?_ (by size_fits)
  refine raiseNew_hot ⟨hh, o1, vs1, Heap.get?_push_of_some _ (Heap.get?_push_of_some _ (hh1 _)), d1, c1⟩ (Nat.ne_of_lt (Heap.lt_size (Heap.get?_push_of_some _ (hh1 _)))) (Heap.get?_push_size _ rfl) rfl (by first | (simp; done) | (simp; omega) | (simp only [Array.size_append]; simp; omega)) ?_
  refine wpAny_bind (wpAny_isInstance (T := "StopIteration") (b := true) ⟨_, Heap.get?_update_self _ (Heap.get?_push_size _ rfl) rfl, rfl⟩ isSubtype_stop ?_)
  refine wpAny_pure (hQ _ ?_)
  intro b ob hb e
  have e1 : (s.heap.update it (Obj.mapFields (fun vs => vs.setIfInBounds 0 Value.none))).get? b = some ob := by rw [Heap.get?_update_other _ _ (Ne.symm hb)]; exact e
  have e2 := Heap.get?_push_of_some { cls := Value.type "tuple", data := Data.seq ([] : List Value).toArray } e1
  rw [Heap.get?_update_other _ _ (Nat.ne_of_gt (Heap.lt_size (Heap.get?_push_of_some _ e1)))]
  exact Heap.get?_push_of_some _ e2
end
theorem walks_hot {prog : Program} {w : World} {A : Around} {x1 : Addr} (hh : A.handled = some (.ref x1)) (I ax : Addr) (hne : ax ≠ I) (hxI : x1 ≠ I) (items : Array Value) :
    Walks prog w A I [I, ax, x1] [I] items.size (fun i v => items[i]? = some v) (fun i h => h.IsListIter I ax i ∧ h.IsList ax items ∧ ∃ (o : Obj) (vs : Array Value), h.get? x1 = some o ∧ o.data = .fields vs ∧ vs[2]? = some .none) where
  sub := fun b hb => by simp at hb; simp [hb]
  frame := fun _ _ _ st hk => ⟨st.1.at fun o e => hk I (by simp) o e, st.2.1.at fun o e => hk ax (by simp) o e, let ⟨o, vs, e, r⟩ := st.2.2; ⟨o, vs, hk x1 (by simp) o e, r⟩⟩
  item := fun i s Q E hi st hQ => by
    refine wpAny_pyNext_list_item st.1 st.2.1 (x := items[i]) (by simp [hi]) fun h' hit' hs' => ?_
    obtain ⟨o, vs, e, r⟩ := st.2.2
    exact hQ _ h' s.toks (by simp [hi]) ⟨hit', st.2.1.extBut hs'.extBut hne, o, vs, hs'.extBut x1 o hxI e, r⟩ fun b o hb e => hs'.extBut b o (fun h => hb (by simp [h])) e
  done := fun s Q E st hQ => next_list_end_hot ⟨hh, st.2.2⟩ hxI st.1 st.2.1 (by simp) fun h' he' => hQ h' s.toks fun b o hb e => he' b o (fun h => hb (by simp [h])) e
  self := fun _ _ _ _ st hQ => wpAny_pyIter_listiter st.1 hQ
theorem cr_anyH {X : Cx} {a : Addr} {oe : Obj} {pn : List (Addr × Obj)} (hn : PXN.CtxN oe) (hf : ∃ vs, oe.data = .fields vs) : CallR (X.suite a ((a, oe) :: pn)) (.builtin "any") (rAny X.K) := by
  intro pins s σ H vs us Q I r h
  obtain ⟨l, bs, rfl, hs, q⟩ := h
  obtain ⟨its, rv, hl, _⟩ := I.list hs
  rw [Vals.ref1 r]
  have hb := rv.bls
  obtain ⟨hget, _⟩ := I.pin (a, oe) (List.mem_append.mpr (.inl List.mem_cons_self))
  obtain ⟨fs, hfs⟩ := hf
  have halt : a < s.heap.objs.size := Heap.lt_size hget
  refine call_any_walk (iter_any hl.isList fun s₂ e2 st hne => ?_)
  subst e2
  refine ⟨_, _, _, _, _, _, _, rfl, walks_hot (x1 := a) rfl _ l hne (Nat.ne_of_lt halt) its.toArray, ⟨st.1, st.2, oe, fs, Heap.get?_push_of_some _ hget, hfs, hn fs hfs⟩, truth_bools hb, fun h' tk hk => ?_⟩
  refine ⟨.bl _, H, I.kept fun b o eo => hk b o (fun hmem => ?_) (Heap.get?_push_of_some _ eo), ?_, q⟩
  · rcases List.mem_cons.mp hmem with e1 | hmem
    · exact absurd (e1 ▸ Heap.lt_size eo) (Nat.lt_irrefl _)
    · cases hmem
  · show Value.bool _ = Value.bool _
    rw [← L2.any_range, hb, List.size_toArray, List.length_map]
/-! ### isinstance of the exception that a suite holds -/
def rIsG (K : Fg) (cls : Value) (dd : Option Addr) (a : Addr) : List V → Hp → VK → Prop := fun xs H Q => ∃ C, cls = .ref C ∧ dd = none ∧ L2.ExcC K C ∧ rIsE K C a xs H Q
theorem call_isG {X : Cx} {a : Addr} {cls : Value} {dd : Option Addr} {oe : Obj} {pn : List (Addr × Obj)} (hz : L2N.Zn cls dd oe) (hf : ∃ vs, oe.data = .fields vs) : CallR (X.suite a ((a, oe) :: pn)) (.builtin "isinstance") (rIsG X.K cls dd a) := by
  intro pins s σ H xs us Q I r h
  obtain ⟨C, rfl, rfl, hC, h⟩ := h
  exact call_isE hC hz.zc hf pins s σ H xs us Q I r h
def kitD (K : Fg) : XD → V → Option Bool
  | .mk C none, .ref T => PySem.W.kitOne K (.ref C) (.ref T)
  | .mk C none, .ty T => PySem.W.kitOne K (.ref C) (.type T)
  | _, _ => none
def excOk (K : Fg) : XD → Prop
  | .mk C none => L2.ExcC K C
  | _ => False
def cIsX (K : Fg) (a : Addr) (x : XD) : DC := fun xs μ Φ => ∃ c b, xs = [.hd (.ref a), .hd c] ∧ kitD K x c = some b ∧ excOk K x ∧ Φ (.bl b) μ
theorem rcIsX {K : Fg} {cls : Value} {dd : Option Addr} {a : Addr} {x : XD} {μ0 : Sto} {H0 : Hp} (rx : RepX K μ0 H0 cls dd x) : RC K (rIsG K cls dd a) (cIsX K a x) := fun H μ vs ds Φ Q s r q k => by
  obtain ⟨c, b, rfl, hk, hx, q⟩ := q
  obtain ⟨v, w, rfl, r1, r2⟩ := reps2 r
  obtain rfl := Rep.hd_inv r1
  obtain rfl := Rep.hd_inv r2
  obtain ⟨C, fs⟩ := x
  cases fs with
  | some f => exact hx.elim
  | none =>
    obtain ⟨rfl, rfl⟩ := rx
    refine ⟨C, rfl, rfl, hx, ?_⟩
    cases w with
    | ref T => exact ⟨_, .ref T, b, rfl, fun u h => by cases h; rfl, hk, k _ H _ μ .refl s (.bl _ .nil) q⟩
    | ty T => exact ⟨_, .type T, b, rfl, fun u h => by cases h; rfl, hk, k _ H _ μ .refl s (.bl _ .nil) q⟩
    | _ => cases hk
/-! ### calls and raises, the wish named -/
section
variable {K : Fg} {B : Bx K}
theorem sCallSW {W : WX} {c : Con} {tas : TA} {ψ : DA} (hW : B.W = W) (a : SA B tas ψ) : SE B (tCallS (spOf K c) (WE W) tas) (dCallS c ψ) := by
  subst hW; exact sCallS a
theorem sRaise0W {W : WX} {C : Addr} (hW : B.W = W) : SS B (fun _ σ H => (fun (_ : L2.St) (H : Hp) (Q : XK) => Q (.ref C) none H) σ H fun cls d H' => W cls d σ H') (dRaise0 C) := by
  subst hW; exact sRaise0
/-! ### try: .. except C as n: .. -/
def dTryAs (K : Fg) (c : Value) (i : Nat) (ω : DSt) (ζ : Addr → XD → DSt) : DSt := fun Ψ Δ δ μ => ω (fun x δ' μ' => ∃ b, (match x with | .mk D _ => PySem.W.exmOne K (.ref D) c) = some b ∧
  (b = true → ∀ a, μ' a = none → ζ a x Ψ ⟨fun δ2 μ2 => Δ.nx (δ2.set i none) μ2, Δ.rt, fun δ2 μ2 => Δ.bk (δ2.set i none) μ2, fun δ2 μ2 => Δ.ct (δ2.set i none) μ2⟩ (δ'.set i (some (.hd (.ref a)))) μ') ∧ (b = false → Ψ x δ' μ')) Δ δ μ
theorem sTryAs {c : Value} {i : Nat} {W : WX} {tb : WX → TS} {ts : Addr → Value → Option Addr → TS} {ω : DSt} {ζ : Addr → XD → DSt} (hW : B.W = W) (hb : ∀ (W' : WX) (B' : Bx K), B'.W = W' → SS B' (tb W') ω)
    (hs : ∀ (a : Addr) (cls : Value) (dd : Option Addr) (x : XD) (B' : Bx K), B'.W = W → RepX K B'.μ0 B'.H0 cls dd x → SS B' (ts a cls dd) (ζ a x)) :
    SS B (fun D σ H => tb (wAs K c i ts W D) D σ H) (dTryAs K c i ω ζ) := fun D Δ σ H δ μ E S q => by
  subst hW
  refine hb _ ⟨B.H0, B.μ0, wAs K c i ts B.W D, _, fun cls dd σ1 H1 x δ1 μ1 S1 rx q1 => ?_⟩ rfl D Δ σ H δ μ ⟨E.nx, E.rt, E.bk, E.ct⟩ S q
  obtain ⟨b, e1, hy, hn⟩ := q1
  have ec : ∃ C fs, x = .mk C fs ∧ cls = .ref C := by
    obtain ⟨C, fs⟩ := x
    cases fs with
    | none => exact ⟨C, _, rfl, rx.1⟩
    | some f => exact ⟨C, _, rfl, rx.1⟩
  obtain ⟨C, fs, rfl, rfl⟩ := ec
  refine ⟨b, e1, fun hb1 a ha => ?_, fun hb1 => B.hW _ _ σ1 H1 _ δ1 μ1 S1 rx (hn hb1)⟩
  have hfr := S1.sto.fresh ha
  refine hs a (.ref C) dd (.mk C fs) (B.re H1 μ1 S1.evo) rfl rx _ _ _ H1 _ μ1 ⟨fun σ2 H2 δ2 μ2 S2 q2 => ?_, fun v H2 d μ2 σ2 δ2 S2 r2 q2 => ?_, fun σ2 H2 δ2 μ2 S2 q2 => ?_, fun σ2 H2 δ2 μ2 S2 q2 => ?_⟩ ⟨.refl, S1.sto, S1.env.set (.hd _ .nil) i⟩ (hy hb1 a hfr)
  · exact E.nx _ H2 _ μ2 ⟨S1.evo.trans S2.evo, S2.sto, S2.env.unset i⟩ q2
  · exact E.rt v H2 d μ2 σ2 δ2 ⟨S1.evo.trans S2.evo, S2.sto, S2.env⟩ r2 q2
  · exact E.bk _ H2 _ μ2 ⟨S1.evo.trans S2.evo, S2.sto, S2.env.unset i⟩ q2
  · exact E.ct _ H2 _ μ2 ⟨S1.evo.trans S2.evo, S2.sto, S2.env.unset i⟩ q2
/-! ### generators -/
abbrev ConG := List D → Sto → (List D → Sto → Prop) → Prop
def spGOf (K : Fg) (c : ConG) : SpG := fun vs H cont _ => ∃ μ ds Φ, StoOk K μ H ∧ Reps K μ H vs ds ∧ c ds μ Φ ∧
  ∀ ys H' es μ', Evo μ H μ' H' → StoOk K μ' H' → Reps K μ' H' ys es → Φ es μ' → cont ys H'
def dTupG (c : ConG) (ψ : DA) : DE := fun Ψ δ μ Φ => ψ Ψ δ μ fun xs μ1 => c xs μ1 fun es μ2 => Φ (.tup es) μ2
theorem sTupG {c : ConG} {tas : TA} {ψ : DA} {E : XK} (a : SA B tas ψ) : SE B (tTupG (tCallG (spGOf K c) [] E tas)) (dTupG c ψ) := fun σ H δ μ Φ Q S q k =>
  a σ H δ μ _ _ S q fun vs H1 xs μ1 S1 e1 r1 q1 => by
    rw [List.append_nil]
    refine ⟨μ1, xs, fun es μ2 => Φ (.tup es) μ2, S1.sto, r1, q1, fun ys H2 es μ2 e2 s2 r2 q2 => ?_⟩
    intro S p hS hne hp
    have eA : Evo μ2 H2 μ2 (upd H2 S (.lst ys)) := .new hS
    have sA := s2.new (o := .lst ys) hS
    have eB : Evo μ2 (upd H2 S (.lst ys)) μ2 (upd (upd H2 S (.lst ys)) p (.tup ys)) := .new hp
    have e3 := e2.trans (eA.trans eB)
    exact k _ _ _ μ2 (S1.step e3 (sA.new hp)) (e1.trans e3) (rep_tup sA hp (r2.mono eA)) q2
end
/-- what is wanted behind a statement of a generator -/
structure GDs where
  nx : List DW.D → DEnv → Sto → Prop
  rt : List DW.D → DW.D → Sto → Prop
  bk : List DW.D → DEnv → Sto → Prop
  ct : List DW.D → DEnv → Sto → Prop
abbrev DGn := XP → GDs → List DW.D → DEnv → Sto → Prop
structure EOG {K : Fg} (B : Bx K) (D : GEnds) (Δ : GDs) : Prop where
  nx : ∀ ys es σ H δ μ, B.S σ H δ μ → Reps K μ H ys es → Δ.nx es δ μ → D.nx ys σ H
  rt : ∀ ys es v H d μ σ δ, B.S σ H δ μ → Reps K μ H ys es → Rep K μ H v d → Δ.rt es d μ → D.rt ys v H
  bk : ∀ ys es σ H δ μ, B.S σ H δ μ → Reps K μ H ys es → Δ.bk es δ μ → D.bk ys σ H
  ct : ∀ ys es σ H δ μ, B.S σ H δ μ → Reps K μ H ys es → Δ.ct es δ μ → D.ct ys σ H
def SGn {K : Fg} (B : Bx K) (t : TGn) (ω : DGn) : Prop := ∀ (D : GEnds) (Δ : GDs) (ys : List V) (es : List DW.D) (σ : L2.St) (H : Hp) (δ : DEnv) (μ : Sto), EOG B D Δ → B.S σ H δ μ → Reps K μ H ys es → ω B.Ψ Δ es δ μ → t D ys σ H
section
variable {K : Fg} {B : Bx K}
def dGPlain (ω : DSt) : DGn := fun Ψ Δ es δ μ => ω Ψ ⟨Δ.nx es, Δ.rt es, Δ.bk es, Δ.ct es⟩ δ μ
theorem sgPlain {t : TS} {ω : DSt} (a : ∀ H1 μ1 e, SS (B.re H1 μ1 e) t ω) : SGn B (tPlain t) (dGPlain ω) := fun D Δ ys es σ H δ μ E S r q =>
  a H μ S.evo (D.at ys) ⟨Δ.nx es, Δ.rt es, Δ.bk es, Δ.ct es⟩ σ H δ μ
    ⟨fun σ' H' δ' μ' S' q' => E.nx ys es σ' H' δ' μ' ⟨S.evo.trans S'.evo, S'.sto, S'.env⟩ (r.mono S'.evo) q',
     fun v H' d μ' σ' δ' S' r' q' => E.rt ys es v H' d μ' σ' δ' ⟨S.evo.trans S'.evo, S'.sto, S'.env⟩ (r.mono S'.evo) r' q',
     fun σ' H' δ' μ' S' q' => E.bk ys es σ' H' δ' μ' ⟨S.evo.trans S'.evo, S'.sto, S'.env⟩ (r.mono S'.evo) q',
     fun σ' H' δ' μ' S' q' => E.ct ys es σ' H' δ' μ' ⟨S.evo.trans S'.evo, S'.sto, S'.env⟩ (r.mono S'.evo) q'⟩ ⟨.refl, S.sto, S.env⟩ q
def dGThen (ω ζ : DGn) : DGn := fun Ψ Δ es δ μ => ω Ψ ⟨fun es' δ' μ' => ζ Ψ Δ es' δ' μ', Δ.rt, Δ.bk, Δ.ct⟩ es δ μ
theorem sgThen {t u : TGn} {ω ζ : DGn} (a : SGn B t ω) (b : SGn B u ζ) : SGn B (tGThen t u) (dGThen ω ζ) := fun D Δ ys es σ H δ μ E S r q =>
  a _ ⟨fun es' δ' μ' => ζ B.Ψ Δ es' δ' μ', Δ.rt, Δ.bk, Δ.ct⟩ ys es σ H δ μ ⟨fun ys' es' σ' H' δ' μ' S' r' q' => b D Δ ys' es' σ' H' δ' μ' E S' r' q', E.rt, E.bk, E.ct⟩ S r q
def dGNil : DGn := fun _ Δ es δ μ => Δ.nx es δ μ
theorem sgNil0 : SGn B tG0 dGNil := fun D Δ ys es σ H δ μ E S r q => E.nx ys es σ H δ μ S r q
def dYield (φ : DE) : DGn := fun Ψ Δ es δ μ => es.length ≤ 100000 ∧ φ Ψ δ μ fun x μ1 => Δ.nx (es ++ [x]) δ μ1
theorem sYield {te : TE} {φ : DE} (a : SE B te φ) : SGn B (tGYield te) (dYield φ) := fun D Δ ys es σ H δ μ E S r q =>
  ⟨Nat.lt_of_le_of_lt (by rw [r.length]; exact q.1) (by decide), a σ H δ μ _ _ S q.2 fun v H1 x μ1 S1 e1 r1 q1 => E.nx _ _ σ H1 δ μ1 S1 ((r.mono e1).append r1) q1⟩
def dGWhile (θ : DT) (ω : DGn) : DGn := fun Ψ Δ es δ μ => ∃ W : Nat → List DW.D → DEnv → Sto → Prop, (∃ m, W m es δ μ) ∧ ∀ m es δ μ, W m es δ μ → θ Ψ δ μ fun b μ1 =>
  (b = true → ω Ψ ⟨fun es' δ' μ' => ∃ m', m' < m ∧ W m' es' δ' μ', Δ.rt, Δ.nx, fun es' δ' μ' => ∃ m', m' < m ∧ W m' es' δ' μ'⟩ es δ μ1) ∧ (b = false → Δ.nx es δ μ1)
theorem sgWhile {tc : TT} {tb : TGn} {θ : DT} {ω : DGn} (c : ST B tc θ) (b : SGn B tb ω) : SGn B (tGWhile tc tb) (dGWhile θ ω) := fun D Δ ys es σ H δ μ E S r q => by
  obtain ⟨W, ⟨m0, w0⟩, turn⟩ := q
  refine ⟨fun m ys σ H => ∃ es δ μ, B.S σ H δ μ ∧ Reps K μ H ys es ∧ W m es δ μ, ⟨m0, es, δ, μ, S, r, w0⟩, ?_⟩
  rintro m ys1 σ1 H1 ⟨es1, δ1, μ1, S1, r1, w1⟩
  refine c σ1 H1 δ1 μ1 _ _ S1 (turn m es1 δ1 μ1 w1) fun b2 H2 μ2 S2 e2 q2 => ?_
  cases b2 with
  | true =>
    rw [if_pos rfl]
    refine ⟨fun ys' σ' H' => ∃ m', m' < m ∧ ∃ es' δ' μ', B.S σ' H' δ' μ' ∧ Reps K μ' H' ys' es' ∧ W m' es' δ' μ', fun ys' σ' H' h => h, ?_⟩
    exact b _ ⟨fun es' δ' μ' => ∃ m', m' < m ∧ W m' es' δ' μ', Δ.rt, Δ.nx, fun es' δ' μ' => ∃ m', m' < m ∧ W m' es' δ' μ'⟩ ys1 es1 σ1 H2 δ1 μ2
      ⟨fun ys' es' σ' H' δ' μ' S' r' ⟨m', hm, w'⟩ => ⟨m', hm, es', δ', μ', S', r', w'⟩, E.rt, E.nx, fun ys' es' σ' H' δ' μ' S' r' ⟨m', hm, w'⟩ => ⟨m', hm, es', δ', μ', S', r', w'⟩⟩ S2 (r1.mono e2) (q2.1 rfl)
  | false =>
    rw [if_neg Bool.false_ne_true]
    exact E.nx ys1 es1 σ1 H2 δ1 μ2 S2 (r1.mono e2) (q2.2 rfl)
end
/-! ### defs -/
theorem passN {X : Cx} : Passes (L2N.CX X.prog X.w) X E0 := fun _ _ _ _ _ _ _ h => by
  obtain ⟨_, _, _, _, _, _, _, _, _, _, _, _, z⟩ := h
  exact z.elim
/-- THE RULE for a def, whatever the air -/
theorem def_okC {CX : CXT} {P : Program} {w : World} {K : Fg} {mg : Str → Option Value} {base : Heap} {x qual : Str} {st : Stmt} {f : Addr} {fd : FuncData} {N ps : List Str} {k : Nat} {c : Con} (F : Fun K x qual st f fd) (Sc : FnScope N ps (defScope st)) (φ : DSt)
    (hl : ∀ ds μ Φ Ψ, c ds μ Φ Ψ → ds.length = ps.length)
    (hb : ∀ (cdv : Value) (A : Around) (outer : List Env) (s : Shared) (H : Hp) (E : XK) (B : Bx K), B.W = (fun cls d _ H => E cls d H) → Room k (A.deeper (PyProof.Rows.envOfC qual (defScope st) s.heap.objs.size f cdv)) →
      ∃ t, PSs (cxOf CX P w K mg base N qual (defScope st) f cdv A outer s H E) (defBody st) t ∧ SS B t φ)
    (hv : ∀ ds μ Φ Ψ, c ds μ Φ Ψ → φ (goalX Ψ) (goalE Φ) (dstart N ds) μ) : FnOk P w K mg base CX (k + 1) f fd ps (spOf K c) := by
  obtain ⟨oc, od, kV, doc, pm, an, cdv, ct, osl, rfl, lk, hcd⟩ := F.ex
  refine fn_of lk hcd Sc (fun vs H Q E h => ?_) (fun A outer s H vs Q E hr h => ?_)
  · obtain ⟨μ, ds, Φ, Ψ, _, r, hc, _⟩ := h
    rw [r.length]
    exact hl ds μ Φ Ψ hc
  · obtain ⟨μ, ds, Φ, Ψ, s0, r, hc, hq, hx⟩ := h
    let B : Bx K := ⟨H, μ, fun cls d _ H => E cls d H, goalX Ψ, fun cls dd σ H' x δ μ' S rx ⟨μ2, hs, q⟩ => hx cls dd H' x μ2 (S.evo.trans hs.evo) (hs.sto S.sto) (rx.mono hs.evo) q⟩
    obtain ⟨t, ht, hs⟩ := hb cdv A outer s H E B rfl hr
    refine ⟨t, ht, hs { nx := fun _ H' => Q .non H', rt := Q } (goalE Φ) (L2.start N vs) H (dstart N ds) μ ⟨fun σ H' δ μ' S ⟨μ2, h2, q⟩ => ?_, fun v H' d μ' σ δ S rv ⟨μ2, h2, q⟩ => ?_, fun _ _ _ _ _ z => z, fun _ _ _ _ _ z => z⟩ ⟨.refl, s0, env_start r⟩ (hv ds μ Φ Ψ hc)⟩
    · exact hq .non H' .non μ2 (S.evo.trans h2.evo) (h2.sto S.sto) (.non .nil) q
    · exact hq v H' d μ2 (S.evo.trans h2.evo) (h2.sto S.sto) (rv.mono h2.evo) q
abbrev goalG (Φ : List DW.D → Sto → Prop) : GDs := ⟨fun es _ μ' => ∃ μ2, Sub μ2 μ' ∧ Φ es μ2, fun es d μ' => d = .non ∧ ∃ μ2, Sub μ2 μ' ∧ Φ es μ2, fun _ _ _ => False, fun _ _ _ => False⟩
/-- a generator def -/
theorem gdef_ok {P : Program} {w : World} {K : Fg} {mg : Str → Option Value} {base : Heap} {x qual : Str} {st : Stmt} {f : Addr} {fd : FuncData} {N ps : List Str} {k : Nat} {c : ConG} (F : Fun K x qual st f fd) (Sc : GScope N ps (defScope st)) (ω : DGn)
    (hl : ∀ ds μ Φ, c ds μ Φ → ds.length = ps.length)
    (hb : ∀ (cdv : Value) (A : Around) (outer : List Env) (s : Shared) (H : Hp) (E : XK) (pn : List (Addr × Obj)) (B : Bx K), Room k (A.deeper (PyProof.Rows.envOfC qual (defScope st) s.heap.objs.size f cdv)) →
      ∃ t, GSs (gcxOf P w K mg base N qual (defScope st) f cdv A outer s H E pn) (defBody st) t ∧ SGn B t ω)
    (hv : ∀ ds μ Φ, c ds μ Φ → ω (fun _ _ _ => False) (goalG Φ) [] (dstart N ds) μ) : GFn P w K mg base (k + 1) f fd ps (spGOf K c) := by
  obtain ⟨oc, od, kV, doc, pm, an, cdv, ct, osl, rfl, lk, hcd⟩ := F.ex
  refine gfn_of lk hcd Sc (fun vs H Q E h => ?_) (fun A outer s H vs Q E pn hr h => ?_)
  · obtain ⟨μ, ds, Φ, _, r, hc, _⟩ := h
    rw [r.length]
    exact hl ds μ Φ hc
  · obtain ⟨μ, ds, Φ, s0, r, hc, hq⟩ := h
    let B : Bx K := ⟨H, μ, fun _ _ _ _ => False, fun _ _ _ => False, fun cls dd σ H' x δ μ' S rx z => z⟩
    obtain ⟨t, ht, hs⟩ := hb cdv A outer s H E pn B hr
    refine ⟨t, ht, hs _ (goalG Φ) [] [] (L2.start N vs) H (dstart N ds) μ ⟨fun ys es σ H' δ μ' S r' ⟨μ2, h2, q⟩ => ?_, fun ys es v H' d μ' σ δ S r' rv ⟨e, μ2, h2, q⟩ => ?_, fun _ _ _ _ _ _ _ _ z => z, fun _ _ _ _ _ _ _ _ z => z⟩ ⟨.refl, s0, env_start r⟩ .nil (hv ds μ Φ hc)⟩
    · exact hq ys H' es μ2 (S.evo.trans h2.evo) (h2.sto S.sto) (r'.mono h2.evo) q
    · subst e
      exact ⟨Rep.non_inv rv, hq ys H' es μ2 (S.evo.trans h2.evo) (h2.sto S.sto) (r'.mono h2.evo) q⟩
/-! ### unfolding -/
section
variable {K : Fg} {φ : DE} {ψ : DA} {Ψ : XP} {δ : DEnv} {μ : Sto} {Φ : DK} {ω ζ : DSt} {Δ : DEnds} {ds es : List DW.D} {k : Int} {Γ : GDs} {α β : DGn} {θ : DT} {c : ConG} {cv : Value} {i : Nat} {ξ : Addr → XD → DSt}
theorem u_revT : dRevT φ Ψ δ μ Φ = φ Ψ δ μ fun x μ1 => ∃ ds, x = .tup ds ∧ Φ (.tup ds.reverse) μ1 := rfl
theorem w_repT : oRepT (.tup ds) (.int k) μ Φ = (k ≤ 1000 ∧ -1000000 ≤ k ∧ ds.length ≤ 1000 ∧ Φ (.tup (List.replicate k.toNat ds).flatten) μ) := propext ⟨fun ⟨a, b, e1, e2, q⟩ => by cases e1; cases e2; exact q, fun q => ⟨_, _, rfl, rfl, q⟩⟩
theorem u_tupG : dTupG c ψ Ψ δ μ Φ = ψ Ψ δ μ fun xs μ1 => c xs μ1 fun es μ2 => Φ (.tup es) μ2 := rfl
theorem u_try : dTryAs K cv i ω ξ Ψ Δ δ μ = ω (fun x δ' μ' => ∃ b, (match x with | .mk D _ => PySem.W.exmOne K (.ref D) cv) = some b ∧
  (b = true → ∀ a, μ' a = none → ξ a x Ψ ⟨fun δ2 μ2 => Δ.nx (δ2.set i none) μ2, Δ.rt, fun δ2 μ2 => Δ.bk (δ2.set i none) μ2, fun δ2 μ2 => Δ.ct (δ2.set i none) μ2⟩ (δ'.set i (some (.hd (.ref a)))) μ') ∧ (b = false → Ψ x δ' μ')) Δ δ μ := rfl
theorem u_gPlain : dGPlain ω Ψ Γ es δ μ = ω Ψ ⟨Γ.nx es, Γ.rt es, Γ.bk es, Γ.ct es⟩ δ μ := rfl
theorem u_gThen : dGThen α β Ψ Γ es δ μ = α Ψ ⟨fun es' δ' μ' => β Ψ Γ es' δ' μ', Γ.rt, Γ.bk, Γ.ct⟩ es δ μ := rfl
theorem u_gNil : dGNil Ψ Γ es δ μ = Γ.nx es δ μ := rfl
theorem u_yield : dYield φ Ψ Γ es δ μ = (es.length ≤ 100000 ∧ φ Ψ δ μ fun x μ1 => Γ.nx (es ++ [x]) δ μ1) := rfl
theorem u_gWhile : dGWhile θ α Ψ Γ es δ μ = ∃ W : Nat → List DW.D → DEnv → Sto → Prop, (∃ m, W m es δ μ) ∧ ∀ m es δ μ, W m es δ μ → θ Ψ δ μ fun b μ1 =>
  (b = true → α Ψ ⟨fun es' δ' μ' => ∃ m', m' < m ∧ W m' es' δ' μ', Γ.rt, Γ.nx, fun es' δ' μ' => ∃ m', m' < m ∧ W m' es' δ' μ'⟩ es δ μ1) ∧ (b = false → Γ.nx es δ μ1) := rfl
theorem u_while : dWhile θ ω Ψ Δ δ μ = ∃ W : Nat → DEnv → Sto → Prop, (∃ m, W m δ μ) ∧ ∀ m δ μ, W m δ μ → θ Ψ δ μ fun b μ1 =>
  (b = true → ω Ψ { Δ with nx := fun δ' μ' => ∃ m', m' < m ∧ W m' δ' μ', ct := fun δ' μ' => ∃ m', m' < m ∧ W m' δ' μ', bk := Δ.nx } δ μ1) ∧ (b = false → Δ.nx δ μ1) := rfl
theorem u_isX {a : Addr} {x : XD} {c : V} : cIsX K a x [.hd (.ref a), .hd c] μ Φ = ∃ b, kitD K x c = some b ∧ excOk K x ∧ Φ (.bl b) μ := propext ⟨fun ⟨c', b, e, q⟩ => by cases e; exact ⟨b, q⟩, fun ⟨b, q⟩ => ⟨c, b, rfl, q⟩⟩
theorem u_kitR {C T : Addr} : kitD K (.mk C none) (.ref T) = PySem.W.kitOne K (.ref C) (.ref T) := rfl
theorem u_kitT {C : Addr} {T : String} : kitD K (.mk C none) (.ty T) = PySem.W.kitOne K (.ref C) (.type T) := rfl
theorem u_excOk {C : Addr} : excOk K (.mk C none) = L2.ExcC K C := rfl
theorem w_zipE {P : List DW.D → List DW.D → Prop} : (∃ xs ys, D.tup ds = D.tup xs ∧ D.tup es = D.tup ys ∧ P xs ys) = P ds es := propext ⟨fun ⟨a, b, e1, e2, q⟩ => by cases e1; cases e2; exact q, fun q => ⟨_, _, rfl, rfl, q⟩⟩
theorem u_goalX {G : XD → Sto → Prop} {x : XD} : goalX G x δ μ = ∃ μ2, Sub μ2 μ ∧ G x μ2 := rfl
theorem cut_to (p : Nat) : cutD ds none (some (p : Int)) = ds.take p := by
  unfold cutD
  show (ds.drop 0).take (min (p : Int).toNat ds.length - 0) = _
  rw [List.drop_zero, Nat.sub_zero, Int.toNat_natCast]
  by_cases h : p ≤ ds.length
  · rw [Nat.min_eq_left h]
  · rw [Nat.min_eq_right (by omega), List.take_length, List.take_of_length_le (by omega)]
theorem cut_from (p : Nat) : cutD ds (some (p : Int)) none = ds.drop p := by
  unfold cutD
  show (ds.drop (min (p : Int).toNat ds.length)).take (ds.length - min (p : Int).toNat ds.length) = _
  rw [Int.toNat_natCast]
  by_cases h : p ≤ ds.length
  · rw [Nat.min_eq_left h, List.take_of_length_le (by rw [List.length_drop]; omega)]
  · rw [Nat.min_eq_right (by omega), List.drop_length, List.take_nil, List.drop_eq_nil_of_le (by omega)]
theorem cut_from1 (p : Nat) : cutD ds (some ((p : Int) + 1)) none = ds.drop (p + 1) := cut_from (p + 1)
theorem passG {X : Cx} : Passes (L2.CX X.prog X.w) X E0 := passL
theorem noStop0 : NoStop K E0 := fun _ _ _ h => h.elim
end
end DW
set_option Elab.async false
set_option linter.all false
set_option maxRecDepth 100000
set_option maxHeartbeats 4000000
namespace DW
open PySem PySem.Spec PyProof.Rows L2
/-! ### texts -/
section
variable {K : Fg} {B : Bx K} {te ta tb : TE} {φ φa φb : DE} {tl th : TO} {ol oh : XP → DEnv → Sto → (Option Int → Sto → Prop) → Prop}
def oCatS : DO := fun x y μ Φ => ∃ s t, x = .str s ∧ y = .str t ∧ s.length + t.length ≤ 100000 ∧ Φ (.str (s ++ t)) μ
theorem roCatS : RO K (fun x y H Q => ∃ i j, x = .str i ∧ y = .str j ∧ i.length + j.length ≤ sizeLine ∧ Q (.str (i ++ j)) H) oCatS := fun H μ v w d e Φ Q s0 r1 r2 h k => by
  obtain ⟨s, t, rfl, rfl, hz, q⟩ := h
  exact ⟨s, t, Rep.str_inv r1, Rep.str_inv r2, sz hz, k _ H _ μ .refl s0 (.str _ .nil) q⟩
def oInS (neg : Bool) : DO := fun x y μ Φ => ∃ (c : Nat) (z : Str), x = .str ⟨#[c]⟩ ∧ y = .str z ∧ Φ (.bl (if neg then !decide (c ∈ z.cps.toList) else decide (c ∈ z.cps.toList))) μ
theorem roInS : RO K (fun x y H Q => ∃ (c : Nat) (z : Str), x = .str ⟨#[c]⟩ ∧ y = .str z ∧ Q (.bl (decide (c ∈ z.cps.toList))) H) (oInS false) := fun H μ v w d e Φ Q s0 r1 r2 h k => by
  obtain ⟨c, z, rfl, rfl, q⟩ := h
  exact ⟨c, z, Rep.str_inv r1, Rep.str_inv r2, k _ H _ μ .refl s0 (.bl _ .nil) q⟩
theorem roNotInS : RO K (fun x y H Q => ∃ (c : Nat) (z : Str), x = .str ⟨#[c]⟩ ∧ y = .str z ∧ Q (.bl (!decide (c ∈ z.cps.toList))) H) (oInS true) := fun H μ v w d e Φ Q s0 r1 r2 h k => by
  obtain ⟨c, z, rfl, rfl, q⟩ := h
  exact ⟨c, z, Rep.str_inv r1, Rep.str_inv r2, k _ H _ μ .refl s0 (.bl _ .nil) q⟩
def oIxS : DO := fun x y μ Φ => ∃ z i c, x = .str z ∧ y = .int i ∧ z.length ≤ 100000 ∧ atI z.cps.toList i = some c ∧ Φ (.str ⟨#[c]⟩) μ
theorem roIxS : RO K rIxS oIxS := fun H μ v w d e Φ Q s0 r1 r2 h k => by
  obtain ⟨z, i, c, rfl, rfl, hz, ha, q⟩ := h
  exact ⟨z, i, c, Rep.str_inv r1, Rep.int_inv r2, sz hz, ha, k _ H _ μ .refl s0 (.str _ .nil) q⟩
def dSlS (φ : DE) (ol oh : XP → DEnv → Sto → (Option Int → Sto → Prop) → Prop) : DE := fun Ψ δ μ Φ => φ Ψ δ μ fun x μ1 => ol Ψ δ μ1 fun lo μ2 => oh Ψ δ μ2 fun hi μ3 => ∃ z, x = .str z ∧ z.length ≤ 100000 ∧ Φ (.str (cutS z lo hi)) μ3
theorem sSlS (a : SE B te φ) (b : SO B tl ol) (c : SO B th oh) : SE B (tSl rSlS te tl th) (dSlS φ ol oh) := fun σ H δ μ Φ Q S q k =>
  a σ H δ μ _ _ S q fun v H1 x μ1 S1 e1 r1 q1 => b σ H1 δ μ1 _ _ S1 q1 fun lo H2 μ2 S2 e2 q2 => c σ H2 δ μ2 _ _ S2 q2 fun hi H3 μ3 S3 e3 q3 => by
    obtain ⟨z, rfl, hz, q4⟩ := q3
    exact ⟨z, Rep.str_inv r1, sz hz, k _ _ _ μ3 S3 ((e1.trans e2).trans e3) (.str _ .nil) q4⟩
/-- str(x), x a text or a number -/
def rStrA : List V → Hp → VK → Prop := fun xs H Q => (∃ i, xs = [.int i] ∧ i.natAbs.log2 < 1920 ∧ Q (.str (toString i)) H) ∨ ∃ a, xs = [.str a] ∧ Q (.str a) H
theorem call_strA {X : Cx} : CallR X (.type "str") rStrA := fun pins s σ H xs us Q I r h => by
  rcases h with h | h
  · exact call_str_int pins s σ H xs us Q I r h
  · exact SkE.call_str_str pins s σ H xs us Q I r h
def cStr : DC := fun xs μ Φ => (∃ i, xs = [.int i] ∧ i.natAbs.log2 < 1920 ∧ Φ (.str (toString i)) μ) ∨ ∃ a, xs = [.str a] ∧ Φ (.str a) μ
theorem rcStr : RC K rStrA cStr := fun H μ vs ds Φ Q s r q k => by
  rcases q with ⟨i, rfl, h1, q⟩ | ⟨a, rfl, q⟩
  · obtain ⟨v, rfl, r1⟩ := reps1 r
    obtain rfl := Rep.int_inv r1
    exact .inl ⟨i, rfl, h1, k _ H _ μ .refl s (.str _ .nil) q⟩
  · obtain ⟨v, rfl, r1⟩ := reps1 r
    obtain rfl := Rep.str_inv r1
    exact .inr ⟨a, rfl, k _ H _ μ .refl s (.str _ .nil) q⟩
/-- int(text) -/
def cIntS : DC := fun xs μ Φ => ∃ a n, xs = [.str a] ∧ PySem.intText? a = some n ∧ a.length ≤ 640 ∧ Φ (.int n) μ
theorem rcIntS : RC K (fun xs H Q => ∃ a n, xs = [.str a] ∧ PySem.intText? a = some n ∧ a.length ≤ 640 ∧ Q (.int n) H) cIntS := fun H μ vs ds Φ Q s r q k => by
  obtain ⟨a, n, rfl, h1, h2, q⟩ := q
  obtain ⟨v, rfl, r1⟩ := reps1 r
  obtain rfl := Rep.str_inv r1
  exact ⟨a, n, rfl, h1, h2, k _ H _ μ .refl s (.int _ .nil) q⟩
theorem reps_strs {μ : Sto} {H : Hp} : ∀ {vs : List V} {ys : List Str}, Reps K μ H vs (ys.map D.str) → vs = ys.map V.str
  | [], [], _ => rfl
  | [], _ :: _, r => by have := r.length; simp at this
  | _ :: _, [], r => by have := r.length; simp at this
  | v :: vs, y :: ys, r => by
    rw [List.map_cons] at r ⊢
    rw [Rep.str_inv r.split.1, reps_strs r.split.2]
/-- a.join(list of texts) -/
def dJoin (φa φb : DE) : DE := fun Ψ δ μ Φ => φa Ψ δ μ fun x μ1 => ∃ a, x = .str a ∧ φb Ψ δ μ1 fun y μ2 => ∃ ys : List Str, y = .lst (ys.map .str) ∧ (ys.map (·.length)).sum + ys.length * a.length ≤ 1000000 ∧ Φ (.str (Txt.join a ys)) μ2
theorem sJoin (a : SE B ta φa) (b : SE B tb φb) : SE B (tBM K "str" (fun x xs H Q => ∃ a p, ∃ ys : List Str, x = .str a ∧ xs = [.ref p] ∧ (SqL K H p (ys.map V.str) ∨ SqT K H p (ys.map V.str)) ∧ (ys.map (·.length)).sum + ys.length * a.length ≤ 16777216 ∧ Q (.str (Txt.join a ys)) H) ta (tCons tb tNil)) (dJoin φa φb) := fun σ H δ μ Φ Q S q k =>
  a σ H δ μ _ _ S q fun v H1 x μ1 S1 e1 r1 q1 => by
    obtain ⟨z, rfl, q2⟩ := q1
    obtain rfl := Rep.str_inv r1
    refine ⟨?_, b σ H1 δ μ1 _ _ S1 q2 fun w H2 y μ2 S2 e2 r2 q3 => ?_⟩
    · first | exact rfl | exact .inl rfl | exact ⟨z, rfl⟩
    · obtain ⟨ys, rfl, hz, q4⟩ := q3
      obtain ⟨p, vs, rfl, h1, h2⟩ := Rep.lst_inv r2
      have e := reps_strs h2
      subst e
      exact ⟨z, p, ys, rfl, rfl, .inl h1.sq, by omega, k _ _ _ μ2 S2 (e1.trans e2) (.str _ .nil) q4⟩
end
end DW
set_option Elab.async false
set_option linter.all false
set_option maxRecDepth 100000
set_option maxHeartbeats 4000000
namespace DW
open PySem PySem.Spec PyProof.Rows L2
/-! ### enumerate(t), enumerate(t, start=k), t a tuple -/
theorem meets_enum1 {v : Value} {o : Obj} {H : Heap → Prop} (B : Begins v o H) :
    Meets (Builtin.«enumerate.__new__» ⟨[.type "enumerate", v], []⟩) (fun _ R s => H s.heap ∧
      R (.ok (.ret (.ref (s.heap.push o).objs.size))) { s with heap := (s.heap.push o).push { cls := .type "enumerate", data := .fields #[.none, .bool false, .ref s.heap.objs.size, rawInt 0, .none, .none] } }) :=
  .of_wp fun prog w A R s h => by
    obtain ⟨hp, g, d, tk, os⟩ := s
    obtain ⟨h1, h⟩ := h
    have hsub := sub_enumerate
    have itr : ∀ {A' : Around} {E : Value → Shared → Prop} {Q : Value → Shared → Prop}, Q (.ref hp.objs.size) ⟨hp.push o, g, d, tk, os⟩ → wpAny (model prog w) A' (pyIter v) Q E ⟨hp, g, d, tk, os⟩ :=
      fun q => B.iter prog w _ _ ⟨hp, g, d, tk, os⟩ _ h1 q
    wp_walk using itr
    refine wpAny_stack_any fun st => wpAny_pure ?_
    split
    · rename_i c _ _ _ _ _
      cases (c == Value.type "enumerate") <;> (wp_walk using itr; exact ⟨_, rfl, h⟩)
    · wp_walk using itr
      exact ⟨_, rfl, h⟩
theorem enum_one {prog : Program} {w : World} {A : Around} {E : Value → Shared → Prop} {s : Shared} {v : Value} {o : Obj} {H : Heap → Prop} {Q : Value → Shared → Prop} (B : Begins v o H) (h1 : H s.heap)
    (h : ∀ h', IsEnum h' (s.heap.objs.size + 1) s.heap.objs.size 0 .none → h'.get? s.heap.objs.size = some o → h'.objs.size = s.heap.objs.size + 2 →
      (∀ b o, s.heap.get? b = some o → h'.get? b = some o) → Q (.ref (s.heap.objs.size + 1)) { s with heap := h' }) :
    wpAny (model prog w) A (call (.type "enumerate") [v]) Q E s := by
  refine callType_new F.called_enumerate (by decide) (F.typeCall_enumerate_1 _) (F.newCall_enumerate_1 _) (fun obj => F.args_object_init_2 obj _) F.entry_enumerate_new (meets_enum1 B) ⟨h1, ?_⟩
  have hz : (s.heap.push o).objs.size = s.heap.objs.size + 1 := Heap.size_push ..
  have he := Heap.get?_push_size (s.heap.push o) (o := { cls := .type "enumerate", data := .fields #[.none, .bool false, .ref s.heap.objs.size, rawInt 0, .none, .none] }) rfl
  rw [hz] at he
  show _ ∧ _
  rw [hz]
  exact ⟨⟨_, he, rfl⟩, h _ he (Heap.get?_push_of_some _ (Heap.get?_push_size _ B.free)) (by rw [Heap.size_push, hz]) fun b o x => Heap.get?_push_of_some _ (Heap.get?_push_of_some _ x)⟩
/-- the tuple at a, counted from c -/
def IteT (K : Fg) (a : Addr) (n : Nat) (c : Int) : It :=
  ⟨fun i H => i < n ∧ ∃ (xs : List V) (x : V), SqT K H a xs ∧ xs[i]? = some x, fun i H v H' => ∃ T x, v = .ref T ∧ H T = none ∧ H' = upd H T (.tup [.int (c + (i : Nat)), x]) ∧ ∀ xs, SqT K H a xs → xs[i]? = some x, fun i H => n ≤ i ∧ ∃ xs : List V, SqT K H a xs ∧ xs.length = n⟩
theorem enum_apart {h : Heap} {e it t : Addr} {c : Int} {i : Nat} {old : Value} {items : Array Value} (he : IsEnum h e it c old) (hi : h.IsTupleIter it t i) (ht : h.IsTuple t items) : t ≠ it ∧ e ∉ [it, t] ∧ e ≠ it := by
  obtain ⟨o1, e1, c1, _⟩ := hi
  obtain ⟨o2, e2, c2, _⟩ := ht
  have n1 : t ≠ it := fun z => by subst z; rw [e1] at e2; cases e2; rw [c1] at c2; exact absurd (Value.type.inj c2) (by decide)
  have n2 : e ≠ it := fun z => by
    subst z
    have q : h.get? e = some _ := he
    rw [e1] at q; cases q; exact absurd (Value.type.inj c1) (by decide)
  have n3 : e ≠ t := fun z => by
    subst z
    have q : h.get? e = some _ := he
    rw [e2] at q; cases q; exact absurd (Value.type.inj c2) (by decide)
  exact ⟨n1, by simp [n2, n3], n2⟩
theorem turn_enumT {P : Program} {w : World} {K : Fg} {elts : List Expr} {kk : Nat} {tpos : Pos} (a e it : Addr) (n : Nat) (c : Int) :
    Turn P w K (.Tuple elts kk tpos) (IteT K a n c) [e, it] e (fun i h => i ≤ n ∧ (∃ old, IsEnum h e it (c + (i : Nat)) old) ∧ h.IsTupleIter it a i ∧ e ≠ it) where
  mem := by simp
  obj := fun i h st b hb => by
    obtain ⟨_, ⟨old, he⟩, ⟨o, ho, hc, hd⟩, _⟩ := st
    rcases (show b = e ∨ b = it by simpa using hb) with z | z
    · rw [z]; exact ⟨_, he, fun v q => nomatch q⟩
    · rw [z]; exact ⟨o, ho, fun v q => by rw [hd] at q; cases q⟩
  keep := fun i h h' st k => by
    obtain ⟨hin, ⟨old, he⟩, ⟨o, ho, r⟩, hne⟩ := st
    exact ⟨hin, ⟨old, k e (by simp) _ he⟩, ⟨o, k it (by simp) o ho, r⟩, hne⟩
  item := by
    intro X hP hw hK hc i pins s σ H E I hf st hg
    subst hP hw hK
    obtain ⟨hin, ⟨old, he⟩, hit, hne⟩ := st
    obtain ⟨hlt, xs, x, hq, hx⟩ := hg
    obtain ⟨its, rv, p, hz⟩ := I.tuple hq
    obtain ⟨u, hu, ru⟩ := rv.get hx
    have pt : s.heap.IsTuple a its.toArray := p
    obtain ⟨n1, n2, n3⟩ := enum_apart he hit pt
    have hel : e < s.heap.objs.size := Heap.lt_size he
    have hil : it < s.heap.objs.size := by obtain ⟨_, q, _⟩ := hit; exact Heap.lt_size q
    have hiu : i < its.toArray.size := by rw [List.size_toArray]; exact (List.getElem?_eq_some_iff.mp hu).1
    refine wpAny_pyNext_enum_itemC (Draws.tuple (A := X.A.in1) (I.ok.hd hc) it a n1 its.toArray) he ⟨hit, pt⟩ hiu n3 n2 fun y h' tk hP ho hst hT hsz hk => ?_
    have hy : y = u := by
      have q : its.toArray[i]? = some y := hP
      have q2 : its.toArray[i]? = some u := by simpa using hu
      rw [q2] at q; exact (Option.some.inj q).symm
    subst hy
    refine ⟨_, rfl, wpAny_letOwnedTupleGo_enum (s := { s with heap := h', toks := tk + 1 }) ho fun h'' he' sb => ?_⟩
    have hT2 := (sb.2 _ (Nat.ne_of_gt hel)).trans hT
    have new : ObjOk X.prog X.w (upd H s.heap.objs.size (.tup [.int (c + (i : Nat)), x])) h'' s.heap.objs.size (.tup [.int (c + (i : Nat)), x]) :=
      ⟨by show 2 ≤ sizeLine; decide, [.int (c + (i : Nat)) tk, y], .cons ⟨_, rfl⟩ (.cons ru .nil), ⟨_, hT2, rfl, _, rfl⟩⟩
    have I1 : Inv X pins σ (upd H s.heap.objs.size (.tup [.int (c + (i : Nat)), x])) { s with heap := h'', toks := tk + 1 } :=
      I.turnedNew (ch := [e, it]) (fun b ob hb q => (sb.2 b (fun z => hb (by simp [z]))).trans (hk b ob (fun z => hb (by simp [z])) (fun z => hb (by simp [z])) q)) hf (Nat.le_refl _) new
    refine ⟨.ref s.heap.objs.size, _, I1, rfl, ⟨_, x, rfl, I.hok.fresh (Nat.le_refl _), rfl, fun ys hy => by rw [I.tuple_inj hy hq]; exact hx⟩, ⟨hlt, ⟨y, ?_⟩, ?_, hne⟩, fun b hb => ?_⟩
    · have e1 : c + ((i + 1 : Nat) : Int) = c + ((i : Nat) : Int) + 1 := by omega
      rw [e1]; exact he'
    · obtain ⟨o, q, r⟩ := hst.1
      exact ⟨o, (sb.2 it (Ne.symm hne)).trans q, r⟩
    · have hb' : b < s.heap.objs.size := by
        rcases (show b = e ∨ b = it by simpa using hb) with z | z <;> (rw [z]; assumption)
      rw [upd_ne (Nat.ne_of_lt hb')]
      exact (hf b hb).1
  done := by
    intro X hP hw hK hc i pins s σ H E I hf st hg
    subst hP hw hK
    obtain ⟨hin, ⟨old, he⟩, hit, hne⟩ := st
    obtain ⟨hle, xs, hq, hx⟩ := hg
    obtain ⟨its, rv, p, hz⟩ := I.tuple hq
    have pt : s.heap.IsTuple a its.toArray := p
    obtain ⟨n1, n2, n3⟩ := enum_apart he hit pt
    obtain ⟨f0, f1, f2, f3, f4, f5⟩ := hf it (by simp)
    have hl := rv.length
    have hi : i = its.toArray.size := by rw [List.size_toArray]; omega
    subst hi
    exact wpAny_pyNext_enum_endD (Draws.tuple (A := X.A.in1) (I.ok.hd hc) it a n1 its.toArray) he ⟨hit, pt⟩ fun h' eb => ⟨rfl, I.turned (t' := s.toks) (fun b o hb q => eb b o hb q) f0 f1 f3 f4 f5⟩
  self := fun A i s Q E st h => let ⟨_, ⟨_, he⟩, _⟩ := st; wpAny_pyIter_enum he h
def iEnumT (K : Fg) (c : Int) (ta : TA) : TI := fun σ H R => ta σ H fun vs H1 => ∃ a xs, vs = [.ref a] ∧ SqT K H1 a xs ∧ R (IteT K a xs.length c) H1
theorem pie_enumT {X : Cx} {pins : List (Addr × Obj)} {σ : L2.St} {H1 : Hp} {s1 : Shared} {h' : Heap} {a : Addr} {xs : List V} {c : Int} {R : It → Hp → Prop} {elts : List Expr} {kk : Nat} {tpos : Pos} (I1 : Inv X pins σ H1 s1) (hq : SqT X.K H1 a xs)
    (he : IsEnum h' (s1.heap.objs.size + 1) s1.heap.objs.size c .none) (ho : h'.get? s1.heap.objs.size = some { cls := .type "tuple_iterator", data := .fields #[.ref a, .int 0 0] })
    (hk : ∀ b o, s1.heap.get? b = some o → h'.get? b = some o) (q : R (IteT X.K a xs.length c) H1) : PIE X pins σ (.Tuple elts kk tpos) R (.ref (s1.heap.objs.size + 1)) { s1 with heap := h' } := by
  refine ⟨s1.heap.objs.size + 1, [s1.heap.objs.size + 1, s1.heap.objs.size], _, _, H1, rfl, I1.kept (t' := s1.toks) hk, turn_enumT a (s1.heap.objs.size + 1) s1.heap.objs.size xs.length c, ⟨Nat.zero_le _, ⟨.none, ?_⟩, ⟨_, ho, rfl, rfl⟩, Nat.succ_ne_self _⟩, fun b hb => ?_, q⟩
  · have e : c + ((0 : Nat) : Int) = c := by omega
    rw [e]; exact he
  · have hle : s1.heap.objs.size ≤ b := by
      rcases (show b = s1.heap.objs.size + 1 ∨ b = s1.heap.objs.size by simpa using hb) with z | z
      · rw [z]; exact Nat.le_succ _
      · rw [z]; exact Nat.le_refl _
    exact I1.fpOk hle (I1.hok.fresh hle)
/-- for i, x in enumerate(t) -/
theorem pi_enumT {X : Cx} {e : Expr} {ta : TA} {p pos tpos : Pos} {elts : List Expr} {kk : Nat} (hg : Gl X "enumerate") (hm : X.mg "enumerate" = none) (ha : PA X [e] ta) (hs : starEach [e] X.env = [(false, eval e X.env)] := by rfl) :
    PI X (.Tuple elts kk tpos) (.Call (.Name "enumerate" p) [e] [] pos) (iEnumT X.K 0 ta) := by
  refine ⟨fun pins s σ H R I h => ?_⟩
  refine Call_ (ld_blt I hg hm boot_enumerate (PyProof.Rows.callWith_type1 (thn (ha.run pos pins s σ H _ I h) fun us s1 ⟨vs, H1, I1, r1, q1⟩ => ?_) hs rfl))
  obtain ⟨a, xs, rfl, hq, q⟩ := q1
  rw [Vals.ref1 r1]
  obtain ⟨its, rv, p', hz⟩ := I1.tuple hq
  exact enum_one (begins_tuple a its.toArray) p' fun h' he ho hsz hk => wpAny_pyIter_enum he (pie_enumT I1 hq he ho hk q)
def iEnD (φ : DE) (c : Int) : DI := fun Ψ δ μ Φ => φ Ψ δ μ fun x μ1 => ∃ ds, x = .tup ds ∧ Φ ((List.range ds.length).map fun (i : Nat) => .tup [.int (c + (i : Int)), ds.getD i .non]) μ1
theorem siEnumT {K : Fg} {B : Bx K} {te : TE} {φ : DE} {c : Int} (a : SE B te φ) : SI B (iEnumT K c (tCons te tNil)) (iEnD φ c) := fun σ H δ μ Φ R S q k =>
  a σ H δ μ _ _ S q fun v H1 x μ1 S1 e1 r1 q1 => by
    obtain ⟨ds, rfl, q2⟩ := q1
    obtain ⟨p, vs, rfl, h1, h2⟩ := Rep.tup_inv r1
    refine ⟨p, vs, rfl, h1.sq, k _ _ H1 μ1 S1 e1 (fun i H3 μ3 s3 e3 => ?_) q2⟩
    rw [List.length_map, List.length_range]
    have hl := h2.length
    refine ⟨fun hi => ?_, fun hi => ⟨by omega, vs, (h1.mono e3).sq, rfl⟩⟩
    have hv : i < vs.length := by omega
    refine ⟨⟨hv, vs, vs[i], (h1.mono e3).sq, List.getElem?_eq_getElem hv⟩, fun z H' hy => ?_⟩
    obtain ⟨T, u, rfl, hT, rfl, hu⟩ := hy
    obtain ⟨d, hd, rd⟩ := (h2.mono e3).getV (hu vs (h1.mono e3).sq)
    refine ⟨.tup [.int (c + (i : Int)), d], ?_, s3.new hT, .new hT, rep_tup s3 hT (.cons (.int _ .nil) (.cons rd .nil))⟩
    rw [List.getElem?_map, List.getElem?_range hi]
    show some (D.tup [D.int (c + (i : Int)), ds.getD i .non]) = _
    rw [List.getD_eq_getElem?_getD, hd]
    rfl
end DW
set_option Elab.async false
set_option linter.all false
set_option maxRecDepth 100000
set_option maxHeartbeats 4000000
namespace DW
open PySem PySem.Spec PyProof.Rows L2 NdefX PySem.W
/-! ### an own error whose __init__ says super().__init__(..) -/
/-- a method that may say super(): its body, at its own activation -/
theorem supfn_of {CX : CXT} {P : Program} {w : World} {K : Fg} {mg : Str → Option Value} {base : Heap} {k : Nat} {f C cc cda : Addr} {name qual : Str} {params : Arguments} {body : List Stmt} {scope : Scope} {kV doc pm ct oc cl : Value} {an od cld : Option Addr}
    {osl csl : Array (Option Value)} {N ps : List Str} {sp : Sp} (lk : K.lookup f = some ⟨oc, od, .func (ksFn name qual params body scope .none kV doc pm an (.ref cda) ct cc), osl⟩) (hcd : codeIn K (.ref cda) qual = true) (S : NScope N ps ["__class__"] scope)
    (lcc : K.lookup cc = some ⟨cl, cld, .cell (some (.ref C)), csl⟩)
    (len : ∀ vs H Q E, sp vs H Q E → vs.length = ps.length)
    (hbody : ∀ (A : Around) (outer : List Env) (s s1 : Shared) (H : Hp) (vs : List V) (Q : VK) (E : XK), Room k (A.deeper (envF ⟨name, qual, params, body, scope, [("__class__", cc)], cda⟩ f s.heap.objs.size)) → sp vs H Q E →
      Inv (ncx CX P w K mg base N ⟨name, qual, params, body, scope, [("__class__", cc)], cda⟩ f A outer s H E) [] (startF N vs [none]) H s1 →
      _root_.PySem.wpAt (model P w) (A.deeper (envF ⟨name, qual, params, body, scope, [("__class__", cc)], cda⟩ f s.heap.objs.size)) (.func body (envF ⟨name, qual, params, body, scope, [("__class__", cc)], cda⟩ f s.heap.objs.size)) (execs body (envF ⟨name, qual, params, body, scope, [("__class__", cc)], cda⟩ f s.heap.objs.size))
        (SP (ncx CX P w K mg base N ⟨name, qual, params, body, scope, [("__class__", cc)], cda⟩ f A outer s H E) [] { nx := fun _ H' => Q .non H', rt := Q }) (ncx CX P w K mg base N ⟨name, qual, params, body, scope, [("__class__", cc)], cda⟩ f A outer s H E).xe s1) :
    FnOk P w K mg base CX (k + 1) f (ksFn name qual params body scope .none kV doc pm an (.ref cda) ct cc) ps sp := by
  refine ⟨len, fun A outer s H args us vs Q E hr e0 hb r hsp => ?_⟩
  have hl := len _ _ _ _ hsp
  have KX : K.In s.heap := e0.mod.kin.keeps fun b o e => (e0.bs b o e).1
  have lim : s.heap.NoLimit := e0.mod.nolimit.keeps fun b o e => (e0.bs b o e).1
  refine ks_codeAny_call_defAt (fd := ksFn name qual params body scope .none kV doc pm an (.ref cda) ct cc) (body := body) (binds := ps.zip us) hr.depth (KX _ _ lk) rfl lim (codeRec_of KX hcd) rfl hb S.nocell (fun ⟨n, _⟩ hy => S.par n (List.of_mem_zip hy).1) (fun h₁ hns hk₁ => ?_) S.co S.gen S.kind
  have Cc : CellsAt [("__class__", cc)] ["__class__"] [none] s.heap H := by
    refine ⟨rfl, fun y c e => ?_, fun x y c e1 e2 => ?_, fun i y e => ?_⟩
    · have ec : c = cc := by
        simp only [List.lookup] at e
        split at e <;> simp_all
      subst ec
      exact ⟨(e0.bs _ _ (e0.mod.kin _ _ lcc)).2, _, _, KX _ _ lcc, rfl⟩
    · simp only [List.lookup] at e1 e2
      split at e1 <;> split at e2 <;> simp_all
    · cases i with
      | zero => cases e; exact ⟨cc, rfl, fun v z => by cases z⟩
      | succ i => cases i <;> cases e
  have I := inv_startN (CX := CX) (P := P) (w := w) (K := K) (mg := mg) (base := base) (F := ⟨name, qual, params, body, scope, [("__class__", cc)], cda⟩) (f := f) (E := E) (tk := s.toks + (ps.zip us).length) S hr.hd e0 hl r Cc hns hk₁
  refine ks_wpAt_mono (hbody A outer s _ H vs Q E (hr.deeper _) hsp I) (fun fl s' hs => ?_) fun e s' hs => hs
  have fin : ∀ {σ' : L2.St} {H' : Hp} {v : V} {u : Value}, Inv (ncx CX P w K mg base N ⟨name, qual, params, body, scope, [("__class__", cc)], cda⟩ f A outer s H E) [] σ' H' s' → L2.RelV v u → Q v H' → CE outer P w H s Q u s' :=
    fun {σ' H' v u} J rv q => ⟨v, H', J.os, J.bare, J.base, J.hok, rv, q⟩
  cases fl with
  | ret u =>
    obtain ⟨v, σ', H', J, rv, q⟩ := hs
    exact fin J rv q
  | next =>
    obtain ⟨σ', H', J, q⟩ := hs
    exact fin (v := V.non) (u := Value.none) J rfl q
  | brk =>
    obtain ⟨_, _, _, q⟩ := hs
    exact False.elim q
  | cont =>
    obtain ⟨_, _, _, q⟩ := hs
    exact False.elim q
end DW
set_option Elab.async false
set_option linter.all false
set_option maxRecDepth 100000
set_option maxHeartbeats 4000000
namespace DW
open PySem PySem.Spec PyProof.Rows L2 NdefX PySem.W
/-- the call of the bound __init__ -/
theorem mw_init {X : Cx} {pins : List (Addr × Obj)} {σ : L2.St} {H : Hp} {s : Shared} {a C u : Addr} {us : List Value} {A : Around} {E : Value → Shared → Prop} {Q : Value → Shared → Prop} (T : OexC X.K C) (I : Inv X pins σ H s) (e : H a = some (exo a C none)) (hu : s.heap.get? u = some (kxs_mw "ValueError.__init__" a)) (hl : us.length ≤ sizeLine)
    (h : ∀ s', Inv X pins σ H s' → Q .none s') : wpAny (model X.prog X.w) A (call (.ref u) us) Q E s := by
  obtain ⟨nm, q, N, bs, bm, sn, sub, ab, col, dd, k0, k1, k2, k3, k5, hC, hbm⟩ := T.cls
  obtain ⟨t1, ho⟩ := exo_at I.hok e
  have hC1 := I.kIn _ _ hC
  obtain ⟨hp, g, d, t, os⟩ := s
  have fin : ∀ h', (∀ b o, b ≠ a → hp.get? b = some o → h'.get? b = some o) → h'.get? a = some (excRec (.ref C) hp.objs.size none .none .none (.bool false)) → h'.get? hp.objs.size = some (excTup us) → Q .none ⟨h', g, d, t, os⟩ := fun h' k hx _ => by
    have J := I.write (t' := t) (x := a) (e := a) (o := exo a C none) (by rw [e]; exact True.intro) (.inl rfl) k ⟨_, hx⟩ (exo_ok hx)
    have eu : upd H a (exo a C none) = H := by
      funext b
      by_cases hb : b = a
      · rw [hb, upd_same, e]
      · rw [upd_ne hb]
    rw [eu] at J
    exact h _ J
  refine wpAny_call (codeAny_of_tree ?_)
  show wpAny _ A.in1 (callAny (.ref u) ⟨us, []⟩) _ _ _
  simp only [callAny]
  refine wpAny_bind (wpAny_load hu ?_)
  simp only [kxs_mw, show (Value.type "method-wrapper" == Value.type "method" || Value.type "method-wrapper" == Value.type "builtin_function_or_method" || Value.type "method-wrapper" == Value.type "method-wrapper") = true by decide, if_true]
  refine KFB.if_so (by decide) ?_
  refine wpAny_bind (check_bound_init PySem.F.excBase_ValueError.toExcCallFacts hC1 ho rfl ?_)
  refine wpAny_bind (wpAny_pure (wpAny_pure ?_))
  refine ⟨plainId_quiet PySem.F.excBase_ValueError.init.plain _, codeAny_builtin PySem.F.excBase_ValueError.initEntry ?_⟩
  exact exc_init_tree (cls := .ref C) (t0 := t1) (dv := none) (c2 := .none) (c3 := .none) (b4 := .bool false) ho hl fin
/-- what the written part says of a class whose __init__ says super().__init__(..) -/
structure SupC (K : Fg) (C D cc f cda : Addr) (file : Str) : Prop where
  ox : OexC K C
  cell : ∃ cl cld csl, K.lookup cc = some ⟨cl, cld, .cell (some (.ref D)), csl⟩
  own : isClsIn K D = true
  sub : mroIn K C (.ref D) = some true
  ve : subIn K (.ref C) (.type "ValueError") = some true
  opq : nsIn K cStatics "thirdparty.any" = some none
  sup : ks_superIn K C D "__init__" = some (some (.builtin "ValueError.__init__"))
  code : ∃ ccl cdd vs ccs tf, K.lookup cda = some ⟨ccl, cdd, .fields vs, ccs⟩ ∧ vs[2]? = some (.str file tf)
theorem super_line {X : Cx} {qual : Str} {scope : Scope} {L f cda cc a C D : Addr} {file : Str} {fd : FuncData} {oc : Value} {od : Option Addr} {osl : Array (Option Value)} {body : List Stmt} {p0 p1 p2 p3 p4 : Pos} {e1 : Expr} {te : TE} {σ : L2.St} {H : Hp} {s : Shared} {G : Shared → Prop} {ar : Arg}
    (hX : X.env = ksEnv qual scope L f (.ref cda) cc) (T : SupC X.K C D cc f cda file) (hf : X.K.lookup f = some ⟨oc, od, .func fd, osl⟩) (hp : (fd.params.posonlyargs ++ fd.params.args).head? = some ar)
    (hfile : ((X.prog.main.file : Str) == file) = true) (htop : (X.prog.main.scope.names.lookup ("super" : Str)).isSome = false) (hms : X.mg "super" = none)
    (hks : scope.names.lookup ("super" : Str) = some .globalImplicit) (hkc : scope.names.lookup ("__class__" : Str) = some .free) (hka : scope.names.lookup ar.arg = some .local)
    (I : Inv X [] σ H s) (hN : X.N[0]? = some ar.arg) (h0 : σ[0]? = some (some (.ref a))) (ea : H a = some (exo a C none)) (he : PE X e1 te)
    (hst : starEach [e1] X.env = (false, eval e1 X.env) :: starEach [] X.env) (hpl : (backTo p3 (starEach [] X.env)).any (·.1) = false)
    (hi : interactive X.env = false) (hsw : swapsWith (.Call (.Attribute (.Call (.Name "super" p0) [] [] p1) "__init__" p2) [e1] [] p3) none p4.line X.env = pure false)
    (hev : ∃ pl, eval (.Call (.Attribute (.Call (.Name "super" p0) [] [] p1) "__init__" p2) [e1] [] p3) X.env = (do
      let ov ← attributeBase (.Call (.Name "super" p0) [] [] p1) "__init__" X.env (eval (.Call (.Name "super" p0) [] [] p1) X.env)
      standAt p2.atName
      let (f, first) ← holding [ov] (getMethod ov "__init__" pl)
      callWith p3 f first (backTo p3 (starEach [e1] X.env)) []))
    (h : te σ H fun x H1 => H1 a = some (exo a C none) ∧ ∀ s', Inv X [] σ H1 s' → G s') :
    _root_.PySem.wpAt (model X.prog X.w) X.A (.func body X.env) (exec (.Expr (.Call (.Attribute (.Call (.Name "super" p0) [] [] p1) "__init__" p2) [e1] [] p3) p4) X.env) (fun fl s' => fl = .next ∧ G s') X.xe s := by
  obtain ⟨pl, hev⟩ := hev
  obtain ⟨cl, cld, csl, hcell⟩ := T.cell
  obtain ⟨ccl, cdd, vs, ccs, tf, hcode, hvs⟩ := T.code
  have KX := I.kIn
  refine ks_wpAt_Expr_any (ks_wpAt_MethodCall ?_ hev) hi hsw
  obtain ⟨nm, q, N, bs, bm, sn, sub, ab, col, dd, k0, k1, k2, k3, k5, hC, hbm⟩ := T.ox.cls
  obtain ⟨t1, ho⟩ := exo_at I.hok ea
  obtain ⟨m, hns, hlk⟩ := I.loc
  have hkind := I.ok.kind
  have ksX : X.env.kindOf "super" = some .globalImplicit := by rw [hX]; exact hks
  have kcX : X.env.kindOf "__class__" = some .free := by rw [hX]; exact hkc
  have kaX : X.env.kindOf ar.arg = some .local := by rw [hX]; exact hka
  have ccX : X.env.cells.lookup (("__class__" : Str)) = some cc := by rw [hX]; rfl
  obtain ⟨u0, ru0, lk0⟩ := hlk 0 ar.arg (.ref a) hN h0 (.inl kaX)
  obtain rfl : u0 = Value.ref a := ru0
  have hma : m ar.arg = some (.ref a) := by
    rcases lk0 with ⟨_, q⟩ | ⟨q, _⟩
    · exact q
    · rw [kaX] at q; rcases q with q | q <;> cases q
  obtain ⟨cdD, hcdD⟩ := Option.isSome_iff_exists.mp (show (clsIn X.K D).isSome = true from T.own)
  obtain ⟨oD, hD1, hD2⟩ : ∃ oD, s.heap.get? D = some oD ∧ oD.data = .cls cdD := by
    unfold clsIn at hcdD
    split at hcdD
    · rename_i c d cd' sl ho'
      cases hcdD
      exact ⟨_, KX _ _ ho', rfl⟩
    · cases hcdD
  obtain ⟨cdC, hcdC⟩ : ∃ cd, clsIn X.K C = some cd := by
    have q := T.sub
    unfold mroIn at q
    cases z : clsIn X.K C with
    | none => rw [z] at q; cases q
    | some cd => exact ⟨cd, rfl⟩
  have hsup : alongIn X.K "__init__" ((cdC.mro.dropWhile (· != .ref D)).drop 1) = some (some (.builtin "ValueError.__init__")) := by
    have q := T.sup
    unfold ks_superIn at q
    rw [hcdC] at q
    exact q
  have haC : a ≠ C := fun z => by
    have q := KX _ _ hC
    rw [← z, ho] at q
    cases q
  obtain ⟨mb, hb1, hb2⟩ := I.mod.blt
  obtain ⟨hh, g, d, t, os⟩ := s
  refine ks_wpAt_super_base (f := f) (fd := fd) (ar := ar) ksX kcX (by decide) (by rw [hX]) (KX _ _ hf) rfl hp (by rw [hX]) (KX _ _ hcode) rfl hvs hfile htop ?_
  refine ks_loadName_global hkind ksX (Calls.loadGlobal_builtin (by rw [I.ok.glob]; exact I.mod.glob.keeps I.bk) hms (by rw [I.ok.blt]; exact hb1.keeps I.bk) ((hb2 _ (by decide)).trans (by first | boot_by_name | rfl | kernel_rfl)) ⟨rfl, ?_⟩)
  refine wpAny_loadName_free hkind kcX ccX ⟨_, KX _ _ hcell, rfl⟩ ?_
  refine wpAny_loadName_local hkind kaX hns hma ?_
  refine ks_wpAny_isType_cls hD1 hD2 ⟨rfl, ?_⟩
  refine ks_wpAny_call_super hD1 hD2 ho rfl (fun c z => by cases z) (looks_mroIn KX T.sub) (fun h' e k => ?_)
  have KX' : X.K.In h' := KX.keeps k
  have ho' := k _ _ ho
  have LT : Looks (model X.prog X.w) h' (typeOf (.ref a)) (.ref C) := fun A Q E s k q => wpAny_typeOf_ref (k _ _ ho') q
  refine kxs_getMethod kxs_ValueError e (looks_opaque KX' T.opq) (l₀ := cdC.mro) (fun A Q E s k q => wpAny_bind ((looks_clsIn KX' hcdC) A _ E s k (wpAny_pure q))) rfl KX' hsup (LT.andThen (looks_subIn KX' T.ve)) haC (by decide) ?_
  -- the arguments
  have k2 : ∀ b o, hh.get? b = some o → (h'.push (kxs_mw "ValueError.__init__" a)).get? b = some o := fun b o q => Heap.get?_push_of_some _ (k b o q)
  have I2 : Inv X [] σ H ⟨h'.push (kxs_mw "ValueError.__init__" a), g, d, t + 1, os⟩ := I.kept (t' := t + 1) k2
  have hge : hh.objs.size ≤ h'.objs.size := by
    by_cases z : hh.objs.size = 0
    · omega
    · have hl : hh.objs.size - 1 < hh.objs.size := by omega
      exact Nat.le_of_lt (Heap.lt_size e)
  have I3 : Inv X [(h'.objs.size, kxs_mw "ValueError.__init__" a)] σ H ⟨h'.push (kxs_mw "ValueError.__init__" a), g, d, t + 1, os⟩ := I2.pins_of fun p hp => by
    rw [List.mem_singleton.mp hp]
    refine ⟨Heap.get?_push_size _ rfl, I.hok.fresh hge, ?_, I.nofs hge, fun v z => by cases z⟩
    have := hns.lt
    exact Nat.ne_of_gt (Nat.lt_of_lt_of_le this hge)
  rw [hst]
  refine kxs_callWith (i := "ValueError.__init__") (x := a) (by show (false || (backTo p3 (starEach [] X.env)).any (·.1)) = false; rw [hpl]; rfl) (Calls.evalArgs_plain ?_)
  refine Calls.spliced_cons (thn (he.run _ _ σ H _ I3 h) fun u1 s1 ⟨x1, H1, J1, rx1, ea1, q1⟩ => ?_)
  refine Calls.spliced_nil ?_
  have hu := (J1.pin (h'.objs.size, kxs_mw "ValueError.__init__" a) (List.mem_append_right _ List.mem_cons_self)).1
  refine ⟨hu, mw_init T.ox J1 ea1 hu (by show 1 ≤ sizeLine; decide) fun s' J => ⟨rfl, q1 s' (J.pins_of fun p hp => absurd hp (by simp))⟩⟩
end DW
set_option Elab.async false
set_option linter.all false
set_option maxRecDepth 100000
set_option maxHeartbeats 4000000
namespace DW
open PySem PySem.Spec PyProof.Rows L2 NdefX PySem.W
/-- what __init__(self, f) keeps: self, an error in the making, gets its one field -/
def spInit (K : Fg) (C : Addr) (fld : Str) (okv : V → Hp → Prop) : Sp := fun vs H Q _ => ∃ a v, vs = [.ref a, v] ∧ okv v H ∧ OexC K C ∧ findIn K (.ref C) fld = some none ∧ H a = some (exo a C none) ∧
  ∀ d, H d = none → d ≠ a → Q .non (upd (upd H d (exd d [(fld, v)])) a (exo a C (some d)))
/-- __init__(self, f): super().__init__(text); self.f = f -/
theorem sup_fn {CX : CXT} {P : Program} {w : World} {K : Fg} {mg : Str → Option Value} {base : Heap} {k : Nat} {f C D cc cda : Addr} {name qual fld file : Str} {params : Arguments} {scope : Scope} {kV doc pm ct oc : Value} {an od : Option Addr} {osl : Array (Option Value)} {N : List Str} {okv : V → Hp → Prop}
    {p0 p1 p2 p3 p4 q1 q2 q3 q4 : Pos} {e1 : Expr} {ar : Arg}
    (lk : K.lookup f = some ⟨oc, od, .func (ksFn name qual params [.Expr (.Call (.Attribute (.Call (.Name "super" p0) [] [] p1) "__init__" p2) [e1] [] p3) p4, .Assign [.Attribute (.Name "self" q1) fld q2] (.Name fld q3) q4] scope .none kV doc pm an (.ref cda) ct cc), osl⟩)
    (hcd : codeIn K (.ref cda) qual = true) (S : NScope N ["self", fld] ["__class__"] scope) (T : SupC K C D cc f cda file) (hp : (params.posonlyargs ++ params.args).head? = some ar) (har : ar.arg = "self")
    (hfile : ((P.main.file : Str) == file) = true) (htop : (P.main.scope.names.lookup ("super" : Str)).isSome = false) (hms : mg "super" = none) (hks : scope.names.lookup ("super" : Str) = some .globalImplicit)
    (hdb : (fld == ("__debug__" : Str)) = false)
    (hX : ∀ (X : Cx), X.prog = P → X.w = w → X.K = K → X.N = N → X.env.scope = scope → (∃ L, X.env = ksEnv qual scope L f (.ref cda) cc) → Room k X.A →
      (∃ te, PE X e1 te ∧ ∀ (σ : L2.St) (H : Hp) (v : V), σ[1]? = some (some v) → okv v H → ∀ Q : VK, (∀ x, Q x H) → te σ H Q) ∧
      starEach [e1] X.env = (false, eval e1 X.env) :: starEach [] X.env ∧ (backTo p3 (starEach [] X.env)).any (·.1) = false ∧ interactive X.env = false ∧
      swapsWith (.Call (.Attribute (.Call (.Name "super" p0) [] [] p1) "__init__" p2) [e1] [] p3) none p4.line X.env = pure false ∧
      (∃ pl, eval (.Call (.Attribute (.Call (.Name "super" p0) [] [] p1) "__init__" p2) [e1] [] p3) X.env = (do
        let ov ← attributeBase (.Call (.Name "super" p0) [] [] p1) "__init__" X.env (eval (.Call (.Name "super" p0) [] [] p1) X.env)
        standAt p2.atName
        let (f, first) ← holding [ov] (getMethod ov "__init__" pl)
        callWith p3 f first (backTo p3 (starEach [e1] X.env)) [])) ∧
      swapsWith (.Name fld q3) (some (.Attribute (.Name "self" q1) fld q2)) q4.line X.env = pure false ∧ PE X (.Name "self" q1) (tVar 0) ∧ PE X (.Name fld q3) (tVar 1)) :
    FnOk P w K mg base CX (k + 1) f (ksFn name qual params [.Expr (.Call (.Attribute (.Call (.Name "super" p0) [] [] p1) "__init__" p2) [e1] [] p3) p4, .Assign [.Attribute (.Name "self" q1) fld q2] (.Name fld q3) q4] scope .none kV doc pm an (.ref cda) ct cc) ["self", fld] (spInit K C fld okv) := by
  obtain ⟨cl, cld, csl, lcc⟩ := T.cell
  obtain ⟨_, hC2⟩ : True ∧ True := ⟨trivial, trivial⟩
  refine supfn_of lk hcd S lcc (fun vs H Q E h => ?_) (fun A outer s s1 H vs Q E hr h I => ?_)
  · obtain ⟨a, v, rfl, _⟩ := h; rfl
  obtain ⟨a, v, rfl, hok, hox, hno, ea, hq⟩ := h
  have hlen : N.take 3 = (["self", fld, "__class__"] : List Str) := S.pre
  have hn0 : N[0]? = some ("self" : Str) := by
    have q := congrArg (fun l : List Str => l[0]?) hlen
    rw [List.getElem?_take_of_lt (by decide)] at q
    exact q
  have hl3 : 3 ≤ N.length := by have := congrArg List.length hlen; rw [List.length_take] at this; simp at this; omega
  obtain ⟨⟨te, hte, hmsg⟩, f1, f2, f3, f4, f5, f6, f7, f8⟩ := hX (ncx CX P w K mg base N ⟨name, qual, params, [.Expr (.Call (.Attribute (.Call (.Name "super" p0) [] [] p1) "__init__" p2) [e1] [] p3) p4, .Assign [.Attribute (.Name "self" q1) fld q2] (.Name fld q3) q4], scope, [("__class__", cc)], cda⟩ f A outer s H E) rfl rfl rfl rfl rfl ⟨_, rfl⟩ hr
  have s0 : (startF N [.ref a, v] [none])[0]? = some (some (.ref a)) := rfl
  have s1' : (startF N [.ref a, v] [none])[1]? = some (some v) := rfl
  refine ks_wpAt_execs_cons (ks_wpAt_mono (super_line (X := ncx CX P w K mg base N ⟨name, qual, params, [.Expr (.Call (.Attribute (.Call (.Name "super" p0) [] [] p1) "__init__" p2) [e1] [] p3) p4, .Assign [.Attribute (.Name "self" q1) fld q2] (.Name fld q3) q4], scope, [("__class__", cc)], cda⟩ f A outer s H E) (L := s.heap.objs.size) (σ := startF N [.ref a, v] [none]) (H := H) rfl T lk hp hfile htop hms hks (S.frk _ List.mem_cons_self) (by rw [har]; exact S.par _ List.mem_cons_self) I (by rw [har]; exact hn0) s0 ea hte f1 f2 f3 f4 f5
    (G := fun s' => Inv (ncx CX P w K mg base N ⟨name, qual, params, [.Expr (.Call (.Attribute (.Call (.Name "super" p0) [] [] p1) "__init__" p2) [e1] [] p3) p4, .Assign [.Attribute (.Name "self" q1) fld q2] (.Name fld q3) q4], scope, [("__class__", cc)], cda⟩ f A outer s H E) [] (startF N [.ref a, v] [none]) H s') ?_) (fun fl s' hs => ?_) fun _ _ z => z)
  · exact hmsg _ H v s1' hok _ fun x => ⟨ea, fun s' J => J⟩
  · obtain ⟨rfl, J⟩ := hs
    refine PySem.wpAt_of_wpAny ?_
    refine (pss_one (ps_ost f7 f8 f6)).run [] s' _ H _ J ?_
    refine ⟨v, s1', .ref a, s0, a, C, rfl, hox, hno, .inl ⟨ea, fun dx hd hne => ?_⟩⟩
    exact hq dx hd hne
/-- C(e): an own error made, its context None -/
theorem pmk_sup {CX : CXT} {X : Cx} {x fld : Str} {C fI : Addr} {k : Nat} {fd : FuncData} {ps : List Str} {okv : V → Hp → Prop} {e : Expr} {ta : TA} {p pos : Pos} (T : OexC X.K C) (iC : findIn X.K (.ref C) "__init__" = some (some (.ref fI))) (tI : typeIn X.K (.ref fI) = some (.type "function")) (hno : findIn X.K (.ref C) fld = some none)
    (F1 : FnOk X.prog X.w X.K X.mg X.base CX k fI fd ps (spInit X.K C fld okv)) (hr : Room (k + 1) X.A) (hb : Binds X.K fd ps []) (hx : Passes CX X (fun _ _ _ => False)) (hg : Gl X x) (hm : X.mg x = some (.ref C)) (ha : PA X [e] ta)
    (hdb : (x == ("__debug__" : Str)) = false := by decide) (hst : starEach [e] X.env = (false, eval e X.env) :: starEach [] X.env := by rfl) (hpl : (backTo pos (starEach [] X.env)).any (·.1) = false := by rfl) :
    L2N.PMk X (.Call (.Name x p) [e] [] pos) (fun σ H Q => ta σ H fun vs H1 => ∃ v, vs = [v] ∧ (∀ a, H1 a = none → okv v (upd H1 a (exo a C none))) ∧ ∀ d, H1 d = none → Q (.ref C) (some d) (upd H1 d (.xd [(fld, v)]))) := by
  intro pins s σ H Q I h
  obtain ⟨nm, q, N, bs, bm, sn, sub, ab, col, dd, k0, k1, k2, k3, k5, hC, hbm⟩ := T.cls
  refine wpAny_Call_Name_kw (ld_glob I hg hm ?_ hdb)
  refine callWith_K (h₀ := X.base) I.ok.mod.kin T.kC (thn (ha.run pos pins s σ H _ I h) fun us s1 ⟨vs, H1, I1, r1, v, ev, hok, q1⟩ => ⟨I1.kIn, ?_⟩) hst hpl
  subst ev
  obtain ⟨u1, rfl, rv1⟩ := vals1 r1
  obtain ⟨hp, g, dr, tk, os⟩ := s1
  have hsz : hp.objs.size ≤ hp.objs.size + 1 := Nat.le_succ _
  have hn : H1 (hp.objs.size + 1) = none := I1.hok.fresh hsz
  have kk : ∀ b o, hp.get? b = some o → ((hp.push (kdv_tup [u1])).push (PySem.HandSPX.excO C hp.objs.size)).get? b = some o := fun b o z => Heap.get?_push_of_some _ (Heap.get?_push_of_some _ z)
  have hget : ((hp.push (kdv_tup [u1])).push (PySem.HandSPX.excO C hp.objs.size)).get? (hp.objs.size + 1) = some (PySem.HandSPX.excO C hp.objs.size) := by heap_get
  have I2 : Inv X pins σ (upd H1 (hp.objs.size + 1) (exo (hp.objs.size + 1) C none)) ⟨(hp.push (kdv_tup [u1])).push (PySem.HandSPX.excO C hp.objs.size), g, dr, tk, os⟩ := I1.laid (t' := tk) kk hsz (exo_ok hget)
  have hsp : spInit X.K C fld okv [.ref (hp.objs.size + 1), v] (upd H1 (hp.objs.size + 1) (exo (hp.objs.size + 1) C none)) (fun v' H2 => v' = .non ∧ ∃ d, H2 (hp.objs.size + 1) = some (exo (hp.objs.size + 1) C (some d)) ∧ H2 d = some (exd d [(fld, v)]) ∧ H1 d = none ∧ Q (.ref C) (some d) (upd (L2.del H2 (hp.objs.size + 1)) d (.xd [(fld, v)]))) (fun _ _ _ => False) := by
    refine ⟨_, v, rfl, hok _ hn, T, hno, upd_same, fun d hd hne => ⟨rfl, d, upd_same, ?_, ?_, ?_⟩⟩
    · rw [upd_ne hne, upd_same]
    · rw [upd_ne hne] at hd; exact hd
    · have hd1 : H1 d = none := by rw [upd_ne hne] at hd; exact hd
      have e2 : upd (L2.del (upd (upd (upd H1 (hp.objs.size + 1) (exo (hp.objs.size + 1) C none)) d (exd d [(fld, v)])) (hp.objs.size + 1) (exo (hp.objs.size + 1) C (some d))) (hp.objs.size + 1)) d (.xd [(fld, v)]) = upd H1 d (.xd [(fld, v)]) := by
        funext b
        by_cases h1 : b = d
        · rw [h1, upd_same, upd_same]
        · rw [upd_ne h1, upd_ne h1]
          by_cases h2 : b = hp.objs.size + 1
          · rw [h2, L2.del_same, hn]
          · rw [L2.del_ne h2, upd_ne h2, upd_ne h1, upd_ne h2]
      rw [e2]
      exact q1 d hd1
  have r2 : Vals [V.ref (hp.objs.size + 1), v] [Value.ref (hp.objs.size + 1), u1] := .cons rfl (.cons rv1 .nil)
  have hl : [Value.ref (hp.objs.size + 1), u1].length = ps.length := F1.len _ _ _ _ hsp
  show wpAny _ _ (call (.ref C) [u1]) _ _ _
  refine wpAny_call (PySem.HandSPX.call_own PySem.F.excBase_ValueError (fun Y => PySem.HandSPX.refsVE_contains Y bm hbm) (I1.kIn _ _ hC) (looks_findIn I1.kIn iC) (fun self => bind_fn I1.kIn self tI) (by show 1 ≤ sizeLine; decide)
    (codeAny_mono (F1.run _ X.stack _ _ ⟨[Value.ref (hp.objs.size + 1), u1], []⟩ [Value.ref (hp.objs.size + 1), u1] _ _ (fun _ _ _ => False) (hr.make C [u1] []) (I2.env0.make C [u1] []) (by have := hb _ [Value.ref (hp.objs.size + 1), u1] I2.kIn (by simpa using hl); simpa using this) r2 hsp) fun r s' hq' => ?_))
  cases r with
  | error er => exact hx pins σ _ _ er s' I2 hq'
  | ok fl =>
    cases fl with
    | ret u =>
      obtain ⟨v', H2, os2, bare2, un2, hok2, rv, ev, d, ea, ed, hd1, q2⟩ := hq'
      subst ev
      obtain ⟨h2, g2, d2, t2, os'⟩ := s'
      obtain ⟨t0, G, J, kG, ge, hoe, na⟩ := mk_end0 (d2 := d2) (t2 := t2) I1 hsz kk un2 hok2 os2 bare2 ea ed hd1
      exact ⟨rv, _, _, _, ⟨G, g2, d2, t2, os'⟩, _, .ref C, some d, rfl, J, kG, ge, hoe, ⟨rfl, rfl, fun vs z => by cases z; rfl⟩, rfl, rfl, na, rfl, bare2, raises_own T.exC T.tyC, q2⟩
    | next => exact False.elim hq'
    | brk => exact False.elim hq'
    | cont => exact False.elim hq'
end DW
set_option Elab.async false
set_option linter.all false
set_option maxRecDepth 100000
set_option maxHeartbeats 4000000
namespace DW
open PySem PySem.Spec PyProof.Rows L2
section
variable {K : Fg} {B : Bx K}
/-! ### raise C(e), C with one field of its own -/
def dRaise1 (C : Addr) (fld : Str) (okd : D → Prop) (φ : DE) : DSt := fun Ψ _ δ μ => φ Ψ δ μ fun x μ1 => okd x ∧ Ψ (.mk C (some ([fld], [x]))) δ μ1
theorem sRaise1 {W : WX} {C : Addr} {fld : Str} {okd : D → Prop} {okv : V → Hp → Prop} {te : TE} {φ : DE} (hW : B.W = W) (hok : ∀ (μ : Sto) (H : Hp) (v : V) (d : D), Rep K μ H v d → okd d → okv v H) (a : SE B te φ) :
    SS B (fun _ σ H => (fun (σ : L2.St) (H : Hp) (Q : XK) => tCons te tNil σ H fun vs H1 => ∃ v, vs = [v] ∧ (∀ a, H1 a = none → okv v (upd H1 a (exo a C none))) ∧ ∀ d, H1 d = none → Q (.ref C) (some d) (upd H1 d (.xd [(fld, v)]))) σ H fun cls d H' => W cls d σ H') (dRaise1 C fld okd φ) := fun D Δ σ H δ μ E S q => by
  subst hW
  refine a σ H δ μ _ _ S q fun v H1 x μ1 S1 e1 r1 q1 => ?_
  obtain ⟨q2, q3⟩ := q1
  refine ⟨v, rfl, fun b hb => hok μ1 _ v x (r1.mono (.new hb)) q2, fun d hd => ?_⟩
  have ev : Evo μ1 H1 μ1 (upd H1 d (.xd [(fld, v)])) := .new hd
  exact B.hW _ _ σ _ (.mk C (some ([fld], [x]))) δ μ1 (S1.step ev (S1.sto.new hd)) ⟨rfl, d, [v], rfl, upd_same, .new S1.sto hd, rfl, r1.mono ev⟩ q3
/-- n.f, n the error that a suite holds -/
def dXf (a : Addr) (x : XD) (C : Addr) (f : Str) (φ : DE) : DE := fun Ψ δ μ Φ => φ Ψ δ μ fun y μ1 => y = .hd (.ref a) ∧ ∃ (ns : List Str) (ds : List DW.D) (i : Nat) (d : DW.D), x = .mk C (some (ns, ds)) ∧ ns[i]? = some f ∧ ns.Nodup ∧ ds[i]? = some d ∧ Φ d μ1
theorem zip_lookup : ∀ {ns : List Str} {us : List V} {i : Nat} {f : Str} {v : V}, ns.Nodup → ns[i]? = some f → us[i]? = some v → (ns.zip us).lookup f = some v
  | [], us, i, f, v, _, h, _ => by cases h
  | n :: ns, [], i, f, v, _, _, h => by cases h
  | n :: ns, u :: us, 0, f, v, _, h1, h2 => by
    have e1 := Option.some.inj h1
    have e2 := Option.some.inj h2
    subst e1 e2
    simp [List.lookup]
  | n :: ns, u :: us, i + 1, f, v, hn, h1, h2 => by
    have hne : ¬ (f = n) := fun z => by
      have : f ∈ ns := List.mem_of_getElem? h1
      rw [z] at this
      exact (List.nodup_cons.mp hn).1 this
    have hb : (f == n) = false := by simp [hne]
    show (match f == n with | true => some u | false => (ns.zip us).lookup f) = some v
    rw [hb]
    exact zip_lookup (List.nodup_cons.mp hn).2 h1 h2
theorem sXf {a C : Addr} {cls : Value} {dd : Option Addr} {x : XD} {f : Str} {te : TE} {φ : DE} (rx : RepX K B.μ0 B.H0 cls dd x) (s : SE B te φ) : SE B (tXf a cls dd C f te) (dXf a x C f φ) := fun σ H δ μ Φ Q S q k =>
  s σ H δ μ _ _ S q fun v H1 y μ1 S1 e1 r1 q1 => by
    obtain ⟨rfl, ns, ds, i, d, rfl, h1, h2, h3, q2⟩ := q1
    obtain rfl := Rep.hd_inv r1
    obtain ⟨rfl, p, us, rfl, hp, hnm, hl, hr⟩ := rx
    have hp1 := (S1.evo.st _ _ hp hnm)
    obtain ⟨u, hu, ru⟩ := (hr.mono S1.evo).get h3
    exact ⟨rfl, rfl, p, _, u, rfl, hp1.1, zip_lookup h2 h1 hu, k u H1 d μ1 S1 e1 ru q2⟩
/-! ### isinstance of the error that a suite holds, with or without fields -/
def rIsH (K : Fg) (cls : Value) (dd : Option Addr) (a : Addr) : List V → Hp → VK → Prop := fun xs H Q => ∃ C, cls = .ref C ∧ L2.ExcC K C ∧ (dd = none ∨ ∃ p fs, dd = some p ∧ H p = some (.xd fs)) ∧
  ∃ (c : V) (cv : Value) (b : Bool), xs = [.ref a, c] ∧ (∀ u, RelV c u → u = cv) ∧ PySem.W.kitOne K (.ref C) cv = some b ∧ Q (.bl b) H
theorem call_isH {X : Cx} {a : Addr} {cls : Value} {dd : Option Addr} {oe : Obj} {pn : List (Addr × Obj)} (hz : L2N.Zn cls dd oe) (hf : ∃ vs, oe.data = .fields vs) : CallR (X.suite a ((a, oe) :: pn)) (.builtin "isinstance") (rIsH X.K cls dd a) := by
  intro pins s σ H xs us Q I r h
  obtain ⟨C, rfl, hC, hdd, c, cv, b, rfl, hcv, e, q⟩ := h
  obtain ⟨hget, _⟩ := I.pin (a, oe) (List.mem_append.mpr (.inl List.mem_cons_self))
  obtain ⟨vs, hv⟩ := hf
  obtain ⟨u1, u2, rfl, r1, r2⟩ := vals2 r
  obtain rfl : u1 = Value.ref a := r1
  have ec := hcv _ r2
  subst ec
  obtain ⟨od, J⟩ : ∃ od, PySem.W.InstAt s.heap a oe C od := by
    obtain ⟨oc, od, oda, osl⟩ := oe
    obtain ⟨h1, h2, _⟩ := hz
    dsimp only at h1 h2 hv
    subst h1 hv
    rcases hdd with z | ⟨p, fs, z, hp⟩
    · subst z; subst h2; exact ⟨none, hget, rfl, rfl, trivial⟩
    · subst z; subst h2
      obtain ⟨mA, ⟨o, es, ep, ho, _⟩, _⟩ := (I.hok p _ hp)
      exact ⟨some o, hget, rfl, rfl, ho⟩
  have hcl : (PySem.W.clsIn X.K C).isSome = true := by
    obtain ⟨cd, q, _⟩ := PySem.W.any_some hC.hd
    rw [q]; rfl
  exact PySem.W.kia_one (PySem.W.kitx_exc hcl hC.hg hC.hk hC.hs hC.ha hC.hn hC.ht hC.hm) I.kIn J e (fun z => nomatch z) fun tk => ⟨.bl b, H, I.kept (t' := tk) fun _ _ z => z, rfl, q⟩
def kitE (K : Fg) : XD → V → Option Bool
  | .mk C _, .ref T => PySem.W.kitOne K (.ref C) (.ref T)
  | .mk C _, .ty T => PySem.W.kitOne K (.ref C) (.type T)
  | _, _ => none
def excE (K : Fg) : XD → Prop
  | .mk C _ => L2.ExcC K C
def dIsE (K : Fg) (a : Addr) (x : XD) (ψ : DA) : DE := fun Ψ δ μ Φ => ψ Ψ δ μ fun xs μ1 => ∃ c b, xs = [.hd (.ref a), .hd c] ∧ kitE K x c = some b ∧ excE K x ∧ Φ (.bl b) μ1
theorem sIsE {a : Addr} {cls : Value} {dd : Option Addr} {x : XD} {tas : TA} {ψ : DA} (rx : RepX K B.μ0 B.H0 cls dd x) (s : SA B tas ψ) : SE B (tCB (rIsH K cls dd a) tas) (dIsE K a x ψ) := fun σ H δ μ Φ Q S q k =>
  s σ H δ μ _ _ S q fun vs H1 xs μ1 S1 e1 r1 q1 => by
    obtain ⟨c, b, rfl, hk, hx, q2⟩ := q1
    obtain ⟨v, w, rfl, ra, rb⟩ := reps2 r1
    obtain rfl := Rep.hd_inv ra
    obtain rfl := Rep.hd_inv rb
    obtain ⟨C, fs⟩ := x
    have hcd : cls = .ref C ∧ (dd = none ∨ ∃ p fs', dd = some p ∧ H1 p = some (.xd fs')) := by
      cases fs with
      | none => exact ⟨rx.1, .inl rx.2⟩
      | some f =>
        obtain ⟨ns, ds⟩ := f
        obtain ⟨hc, p, us, hp, hH, hn, _⟩ := rx
        exact ⟨hc, .inr ⟨p, _, hp, (S1.evo.st _ _ hH hn).1⟩⟩
    obtain ⟨rfl, hdd⟩ := hcd
    refine ⟨C, rfl, hx, hdd, ?_⟩
    cases w with
    | ref T => exact ⟨_, .ref T, b, rfl, fun u h => by cases h; rfl, hk, k _ H1 _ μ1 S1 e1 (.bl _ .nil) q2⟩
    | ty T => exact ⟨_, .type T, b, rfl, fun u h => by cases h; rfl, hk, k _ H1 _ μ1 S1 e1 (.bl _ .nil) q2⟩
    | _ => cases hk
end
end DW
set_option Elab.async false
set_option linter.all false
set_option maxRecDepth 100000
set_option maxHeartbeats 4000000
namespace DW
open PySem PySem.Spec PyProof.Rows L2
/-! ### the texts of own errors -/
theorem repr_ints {prog : Program} {w : World} : ∀ {l : List Int} {its : List Value}, Vals (l.map V.int) its → (∀ i ∈ l, i.natAbs.log2 < 1920) → ReprAll prog w its (l.map fun i => Str.ofString (toString i))
  | [], _, r, _ => by cases r; exact .nil
  | y :: l, _, r, h => by
    cases r with
    | cons r1 r2 =>
      obtain ⟨t, rfl⟩ := r1
      exact .cons (ReprIs.int t (h y List.mem_cons_self)) (repr_ints r2 fun z hz => h z (List.mem_cons_of_mem _ hz))
theorem piled_ints : ∀ (l : List Int), (∀ i ∈ l, i.natAbs.log2 < 1920) → piled (l.map fun i => Str.ofString (toString i)) ≤ 3000 * l.length
  | [], _ => by simp [piled]
  | y :: l, h => by
    have ih := piled_ints l fun z hz => h z (List.mem_cons_of_mem _ hz)
    have e := int_text_length_le (k := 1920) (by decide) (h y List.mem_cons_self)
    rw [List.map_cons, piled_cons, PySem.ofString_length, List.length_cons]
    omega
def tFmtI (K : Fg) (te : TE) : TE := fun σ H Q => te σ H fun x H1 => ∃ (a : Addr) (l : List Int), x = .ref a ∧ SqT K H1 a (l.map V.int) ∧ (∀ i ∈ l, i.natAbs.log2 < 1920) ∧ l.length ≤ 1000 ∧ ∀ m : Str, m.length ≤ 3000100 → Q (.str m) H1
theorem pe_fmtI {X : Cx} {e : Expr} {te : TE} {pos : Pos} {k : Nat} (hr : Room k X.A) (he : PE X e te) : PE X (.FormattedValue e (-1) none pos) (tFmtI X.K te) := by
  refine ⟨fun pins s σ H Q I h => ?_⟩
  refine wpAny_FormattedValue_plain (thn (he.run pins s σ H _ I h) fun v s1 hv => ?_)
  obtain ⟨x, H1, I1, r1, a, l, rfl, ht, hc, hz, q⟩ := hv
  cases r1
  obtain ⟨its, rv, ⟨o, ho, hcl, n, hd⟩, _⟩ := I1.tuple ht
  have hp := piled_ints l hc
  have htx := fmt_text (l.map fun i => Str.ofString (toString i))
  have hu := hr.units
  exact fmt_tuple (ts := l.map fun i => Str.ofString (toString i)) (by omega) ho hcl hd (repr_ints rv hc) (by rw [sizeLine_eq]; omega) fun m u tk hm => ⟨.str m, H1, I1.tok _, ⟨u, rfl⟩, q m (by omega)⟩
def okInt : V → Hp → Prop := fun v _ => ∃ i : Int, v = .int i ∧ i.natAbs.log2 < 1920
def okPath (K : Fg) : V → Hp → Prop := fun v H => ∃ (a : Addr) (l : List Int), v = .ref a ∧ SqT K H a (l.map V.int) ∧ (∀ i ∈ l, i.natAbs.log2 < 1920) ∧ l.length ≤ 1000
theorem strlen_append (a b : Str) : (a ++ b).length = a.length + b.length := by first | exact PySem.Str.length_append a b | exact StrLaws.length_append a b | exact PySem.StrLaws.length_append a b
/-- f"..{i}" -/
theorem msg_int {X : Cx} {s1 : Str} {k1 : Nat} {fld : Str} {q1 q2 q3 q4 : Pos} (h1 : s1.length ≤ 1000) (hv : PE X (.Name fld q2) (tVar 1)) :
    ∃ te, PE X (.JoinedStr [.Constant (.str s1) k1 q1, .FormattedValue (.Name fld q2) (-1) none q3] q4) te ∧ ∀ (σ : L2.St) (H : Hp) (v : V), σ[1]? = some (some v) → okInt v H → ∀ Q : VK, (∀ x, Q x H) → te σ H Q :=
  ⟨_, pe_joined (.cons pe_str (.cons (pe_fmt hv) .nil)), fun σ H v e ⟨i, ev, hi⟩ Q hq => by
    subst ev
    have e1 := int_text_length_le (k := 1920) (by decide) hi
    refine ⟨s1, rfl, ?_, .int i, e, .inr ⟨i, rfl, hi, _, rfl, ?_, hq _⟩⟩
    · rw [strlen_append, sizeLine_eq]; show 0 + _ ≤ _; omega
    · rw [strlen_append, strlen_append, sizeLine_eq]
      show 0 + s1.length + (Str.ofString (toString i)).length ≤ _
      rw [PySem.ofString_length]; omega⟩
/-- f"..{path}.." -/
theorem msg_path {X : Cx} {s1 s2 : Str} {k1 k2 : Nat} {k : Nat} {fld : Str} {q1 q2 q3 q4 q5 : Pos} (hr : Room k X.A) (h1 : s1.length ≤ 1000) (h2 : s2.length ≤ 1000) (hv : PE X (.Name fld q2) (tVar 1)) :
    ∃ te, PE X (.JoinedStr [.Constant (.str s1) k1 q1, .FormattedValue (.Name fld q2) (-1) none q3, .Constant (.str s2) k2 q5] q4) te ∧ ∀ (σ : L2.St) (H : Hp) (v : V), σ[1]? = some (some v) → okPath X.K v H → ∀ Q : VK, (∀ x, Q x H) → te σ H Q :=
  ⟨_, pe_joined (.cons pe_str (.cons (pe_fmtI hr hv) (.cons pe_str .nil))), fun σ H v e ⟨a, l, ev, hs, hi, hl⟩ Q hq => by
    subst ev
    refine ⟨s1, rfl, ?_, .ref a, e, a, l, rfl, hs, hi, hl, fun m hm => ⟨m, rfl, ?_, s2, rfl, ?_, hq _⟩⟩
    · rw [strlen_append, sizeLine_eq]; show 0 + _ ≤ _; omega
    · rw [strlen_append, strlen_append, sizeLine_eq]; show 0 + _ + _ ≤ _; omega
    · rw [strlen_append, strlen_append, strlen_append, sizeLine_eq]; show 0 + _ + _ + _ ≤ _; omega⟩
/-- the data of an int field, of a path field -/
def okdInt : D → Prop := fun d => ∃ i : Int, d = .int i ∧ i.natAbs.log2 < 1920
theorem okdInt_ok {K : Fg} (μ : Sto) (H : Hp) (v : V) (d : D) (r : Rep K μ H v d) (h : okdInt d) : okInt v H := by
  obtain ⟨i, rfl, hi⟩ := h
  exact ⟨i, Rep.int_inv r, hi⟩
theorem reps_int_inv {K : Fg} {μ : Sto} {H : Hp} : ∀ {vs : List V} {ns : List Int}, Reps K μ H vs (ns.map D.int) → vs = ns.map V.int
  | [], [], _ => rfl
  | [], _ :: _, r => by have := r.length; simp at this
  | _ :: _, [], r => by have := r.length; simp at this
  | v :: vs, n :: ns, r => by
    rw [List.map_cons] at r ⊢
    rw [Rep.int_inv r.split.1, reps_int_inv r.split.2]
def okdPath : D → Prop := fun d => ∃ l : List Int, d = .tup (l.map .int) ∧ (∀ i ∈ l, i.natAbs.log2 < 1920) ∧ l.length ≤ 1000
theorem okdPath_ok {K : Fg} (μ : Sto) (H : Hp) (v : V) (d : D) (r : Rep K μ H v d) (h : okdPath d) : okPath K v H := by
  obtain ⟨l, rfl, hi, hl⟩ := h
  obtain ⟨a, vs, rfl, ht, hr⟩ := Rep.tup_inv r
  have e := reps_int_inv hr
  subst e
  exact ⟨a, l, rfl, ht.sq, hi, hl⟩
end DW
set_option Elab.async false
set_option linter.all false
set_option maxRecDepth 100000
namespace DW
open PySem PySem.Spec PyProof.Rows L2
section
variable {K : Fg} {μ : Sto} {Φ : DK}
/-- len of a text -/
def cLenStr : DC := fun xs μ Φ => ∃ z, xs = [.str z] ∧ z.length ≤ 100000 ∧ Φ (.int z.length) μ
theorem rcLenStr : RC K (fun xs H Q => ∃ z, xs = [.str z] ∧ z.length ≤ sizeLine ∧ Q (.int z.length) H) cLenStr := fun H μ vs ds Φ Q s r q k => by
  obtain ⟨z, rfl, h1, q⟩ := q
  obtain ⟨v, rfl, r1⟩ := reps1 r
  obtain rfl := Rep.str_inv r1
  exact ⟨z, rfl, sz h1, k _ H _ μ .refl s (.int _ .nil) q⟩
theorem w_lenStr {s : Str} : cLenStr [.str s] μ Φ = ((TL.tl s).length ≤ 100000 ∧ Φ (.int (TL.tl s).length) μ) := propext ⟨fun ⟨z, e, h1, q⟩ => by cases e; exact ⟨h1, q⟩, fun ⟨h1, q⟩ => ⟨s, rfl, h1, q⟩⟩
theorem w_catStr {s t : Str} : oCatS (.str s) (.str t) μ Φ = ((TL.tl s).length + (TL.tl t).length ≤ 100000 ∧ Φ (.str (s ++ t)) μ) := propext ⟨fun ⟨a, b, e1, e2, h, q⟩ => by cases e1; cases e2; exact ⟨h, q⟩, fun ⟨h, q⟩ => ⟨s, t, rfl, rfl, h, q⟩⟩
theorem w_ixStr {s : Str} {i : Int} : oIxS (.str s) (.int i) μ Φ = ((TL.tl s).length ≤ 100000 ∧ ∃ c, atI (TL.tl s) i = some c ∧ Φ (.str ⟨#[c]⟩) μ) := propext ⟨fun ⟨z, j, c, e1, e2, h, h2, q⟩ => by cases e1; cases e2; exact ⟨h, c, h2, q⟩, fun ⟨h, c, h2, q⟩ => ⟨s, i, c, rfl, rfl, h, h2, q⟩⟩
theorem w_inStr {c : Nat} {z : Str} : oInS false (.str ⟨#[c]⟩) (.str z) μ Φ = Φ (.bl (decide (c ∈ TL.tl z))) μ := propext ⟨fun ⟨c', z', e1, e2, q⟩ => by cases e1; cases e2; exact q, fun q => ⟨c, z, rfl, rfl, q⟩⟩
theorem w_strE {s : Str} {P : Str → Prop} : (∃ z, D.str s = D.str z ∧ P z) = P s := propext ⟨fun ⟨z, e, h⟩ => by cases e; exact h, fun h => ⟨s, rfl, h⟩⟩
theorem w_strI {i : Int} : cStr [.int i] μ Φ = (i.natAbs.log2 < 1920 ∧ Φ (.str (toString i)) μ) := propext ⟨(fun h => by
  rcases h with ⟨j, e, h1, q⟩ | ⟨a, e, q⟩
  · cases e; exact ⟨h1, q⟩
  · cases e), fun ⟨h1, q⟩ => .inl ⟨i, rfl, h1, q⟩⟩
theorem w_strS {s : Str} : cStr [.str s] μ Φ = Φ (.str s) μ := propext ⟨(fun h => by
  rcases h with ⟨j, e, h1, q⟩ | ⟨a, e, q⟩
  · cases e
  · cases e; exact q), fun q => .inr ⟨s, rfl, q⟩⟩
end
end DW
set_option Elab.async false
set_option linter.all false
set_option maxRecDepth 100000
namespace DW
open PySem PySem.Spec PyProof.Rows L2
section
variable {K : Fg} {μ : Sto} {Φ : DK} {Ψ : XP} {δ : DEnv}
theorem u_iEn {φ : DE} {c : Int} {Ls : List D → Sto → Prop} : iEnD φ c Ψ δ μ Ls = φ Ψ δ μ fun x μ1 => ∃ ds, x = .tup ds ∧ Ls ((List.range ds.length).map fun (i : Nat) => .tup [.int (c + (i : Int)), ds.getD i .non]) μ1 := rfl
theorem u_raise1 {C : Addr} {fld : Str} {okd : D → Prop} {φ : DE} {Δ : DEnds} : dRaise1 C fld okd φ Ψ Δ δ μ = φ Ψ δ μ fun x μ1 => okd x ∧ Ψ (.mk C (some ([fld], [x]))) δ μ1 := rfl
theorem u_slS {φ : DE} {ol oh : XP → DEnv → Sto → (Option Int → Sto → Prop) → Prop} : dSlS φ ol oh Ψ δ μ Φ = φ Ψ δ μ fun x μ1 => ol Ψ δ μ1 fun lo μ2 => oh Ψ δ μ2 fun hi μ3 => ∃ z, x = .str z ∧ z.length ≤ 100000 ∧ Φ (.str (cutS z lo hi)) μ3 := rfl
/-- list of a text: its signs -/
theorem call_list_strA {X : Cx} (hc : X.calm = true) : CallR X (.type "list") (fun xs H Q => ∃ z : Str, xs = [.str z] ∧ z.length ≤ sizeLine ∧ ∀ l, H l = none → Q (.ref l) (upd H l (.lst (z.cps.toList.map fun c => V.str ⟨#[c]⟩)))) := by
  intro pins s σ H xs us Q I r h
  obtain ⟨z, rfl, hz, q⟩ := h
  obtain ⟨u, rfl, t, rfl⟩ := vals1 r
  refine call_list_str (I.ok.hd hc) z t (hn := hz) fun h' tk acc' c' hk hS' hacc => ?_
  have r' : Vals (z.cps.toList.map fun c => V.str ⟨#[c]⟩) acc'.toList := vals_of_at (by rw [List.length_map, Array.length_toList, Array.length_toList, hacc.1]) fun j x u hx hu => by
    rw [List.getElem?_map, Option.map_eq_some_iff] at hx
    obtain ⟨c, hc, rfl⟩ := hx
    obtain ⟨c2, t2, h2, rfl⟩ := hacc.2 j u (by simpa using hu)
    have : c2 = c := by
      have e : z.cps[j]? = some c := by simpa using hc
      rw [h2] at e; exact Option.some.inj e
    subst this
    exact ⟨t2, rfl⟩
  refine ⟨.ref s.heap.objs.size, _, I.laid (t' := tk) hk (Nat.le_refl _) (show ObjOk X.prog X.w _ h' _ (.lst (z.cps.toList.map fun c => V.str ⟨#[c]⟩)) from ⟨by rw [List.length_map]; exact hz, acc'.toList, c', r', by simpa using hS'⟩), rfl, q _ (I.hok.fresh (Nat.le_refl _))⟩
def cListStr : DC := fun xs μ Φ => ∃ z : Str, xs = [.str z] ∧ z.length ≤ 100000 ∧ Φ (.lst (z.cps.toList.map fun c => .str ⟨#[c]⟩)) μ
theorem reps_signs {H : Hp} : ∀ l : List Nat, Reps K μ H (l.map fun c => V.str ⟨#[c]⟩) (l.map fun c => D.str ⟨#[c]⟩)
  | [] => .nil
  | _ :: l => .str _ (reps_signs l)
theorem rcListStr : RC K (fun xs H Q => ∃ z : Str, xs = [.str z] ∧ z.length ≤ sizeLine ∧ ∀ l, H l = none → Q (.ref l) (upd H l (.lst (z.cps.toList.map fun c => V.str ⟨#[c]⟩)))) cListStr := fun H μ vs ds Φ Q s r q k => by
  obtain ⟨z, rfl, h1, q⟩ := q
  obtain ⟨v, rfl, r1⟩ := reps1 r
  obtain rfl := Rep.str_inv r1
  exact ⟨z, rfl, sz h1, fun p hp => k _ _ _ μ (.new hp) (s.new hp) (rep_lst s hp (reps_signs _)) q⟩
theorem w_listStr {s : Str} : cListStr [.str s] μ Φ = ((TL.tl s).length ≤ 100000 ∧ Φ (.lst ((TL.tl s).map fun c => .str ⟨#[c]⟩)) μ) := propext ⟨fun ⟨z, e, h1, q⟩ => by cases e; exact ⟨h1, q⟩, fun ⟨h1, q⟩ => ⟨s, rfl, h1, q⟩⟩
end
end DW
set_option Elab.async false
set_option linter.all false
set_option maxRecDepth 100000
namespace DW
open PySem PySem.Spec PyProof.Rows L2
/-! ### a list that grows beside a state that is drawn from -/
structure Two (μ : Sto) (p st : Addr) (L c : List D) (μ' : Sto) : Prop where
  hp : μ p = none
  ne : st ≠ p
  pL : μ' p = some (.lst L)
  sc : μ' st = some (.lst c)
  ot : ∀ a, a ≠ p → a ≠ st → μ' a = μ a
theorem Two.start {μ : Sto} {p st : Addr} {L c : List D} (hp : μ p = none) (hs : μ st = some (.lst c)) : Two μ p st L c (sset μ p (.lst L)) := by
  have ne : st ≠ p := fun z => by rw [z, hp] at hs; cases hs
  exact ⟨hp, ne, sset_same, by rw [sset_ne ne]; exact hs, fun a h _ => sset_ne h⟩
theorem Two.setS {μ μ' : Sto} {p st : Addr} {L c c2 : List D} (T : Two μ p st L c μ') : Two μ p st L c2 (sset μ' st (.lst c2)) :=
  ⟨T.hp, T.ne, by rw [sset_ne (Ne.symm T.ne)]; exact T.pL, sset_same, fun a h1 h2 => by rw [sset_ne h2]; exact T.ot a h1 h2⟩
theorem Two.setP {μ μ' : Sto} {p st : Addr} {L L2 c : List D} (T : Two μ p st L c μ') : Two μ p st L2 c (sset μ' p (.lst L2)) :=
  ⟨T.hp, T.ne, sset_same, by rw [sset_ne T.ne]; exact T.sc, fun a h1 h2 => by rw [sset_ne h1]; exact T.ot a h1 h2⟩
theorem Two.sub {μ μ' : Sto} {p st : Addr} {L c : List D} (T : Two μ p st L c μ') : Sub (sset μ st (.lst c)) μ' := fun a x e => by
  by_cases h : a = st
  · subst h; rw [sset_same] at e; rw [T.sc]; exact e
  · rw [sset_ne h] at e
    have h1 : a ≠ p := fun z => by rw [z, T.hp] at e; cases e
    rw [T.ot a h1 h]; exact e
theorem Two.del {μ μ' : Sto} {p st : Addr} {L c : List D} (T : Two μ p st L c μ') : sdel μ' p = sset μ st (.lst c) := by
  funext a
  unfold sdel
  by_cases h : a = p
  · subst h; rw [if_pos rfl, sset_ne (Ne.symm T.ne), T.hp]
  · rw [if_neg h]
    by_cases h2 : a = st
    · subst h2; rw [sset_same, T.sc]
    · rw [sset_ne h2]; exact T.ot a h h2
theorem atI_last {xs : List D} {d : D} : atI (xs ++ [d]) (-1) = some d := by
  unfold atI ixN
  rw [if_neg (by omega), if_pos (by rw [List.length_append, List.length_singleton]; omega)]
  show (xs ++ [d])[(-1 + (((xs ++ [d]).length : Nat) : Int)).toNat]? = some d
  have e : (-1 + (((xs ++ [d]).length : Nat) : Int)).toNat = xs.length := by rw [List.length_append, List.length_singleton]; omega
  rw [e, List.getElem?_append_right (Nat.le_refl _), Nat.sub_self]
  rfl
/-- a comprehension whose items are drawn from the state at st -/
theorem lcG_drawN {Ψ : XP} {Φ : DK} {n : Nat} {φ : DE} {δw : DEnv} {μ1 : Sto} {xs : List D} {st : Addr} (Sc : List D → Prop) (Inv : Nat → List D → Prop) {c : List D} (hz : xs.length ≤ 100000)
    (hst : μ1 st = some (.lst c)) (h0 : Sc c) (hI : Inv 0 [])
    (hs : ∀ (i : Nat) (d : D) (μ2 : Sto) (X : DK) (acc c : List D), xs[i]? = some d → μ2 st = some (.lst c) → Sc c → Inv i acc → acc.length = i →
      (∀ y c', Sc c' → Inv (i + 1) (acc ++ [y]) → X y (sset μ2 st (.lst c'))) → φ Ψ (δw.set n (some d)) μ2 X)
    (hd : ∀ acc c, Inv xs.length acc → acc.length = xs.length → Sc c → Φ (.lst acc) (sset μ1 st (.lst c))) : LcG (eName n) dYes φ δw Ψ xs μ1 Φ := fun p hp => by
  refine ⟨fun i μ' => ∃ acc c, Two μ1 p st acc c μ' ∧ Sc c ∧ Inv i acc ∧ acc.length = i, ⟨[], c, .start hp hst, h0, hI, rfl⟩, ?_, ?_⟩
  · rintro i d μ2 hi ⟨acc, c, T, s, I, hl⟩
    have hlt : i < xs.length := (List.getElem?_eq_some_iff.mp hi).1
    refine ⟨fun _ => ?_, fun z => nomatch z⟩
    exact hs i d μ2 _ acc c hi T.sc s I hl fun y c' s' I' => ⟨acc, T.setS.pL, by omega, _, c', T.setS.setP, s', I', by simp [hl]⟩
  · rintro μ2 ⟨acc, c, T, s, I, hl⟩
    exact ⟨acc, T.pL, by rw [T.del]; exact hd acc c I hl s⟩
section
variable {K : Fg} {μ : Sto} {Φ : DK} {Ψ : XP} {δ : DEnv}
theorem u_isE {a : Addr} {x : XD} {ψ : DA} : dIsE K a x ψ Ψ δ μ Φ = ψ Ψ δ μ fun xs μ1 => ∃ c b, xs = [.hd (.ref a), .hd c] ∧ kitE K x c = some b ∧ excE K x ∧ Φ (.bl b) μ1 := rfl
theorem w_isE {a : Addr} {c : V} {P : V → Bool → Prop} : (∃ c' b, [D.hd (.ref a), D.hd c] = [.hd (.ref a), .hd c'] ∧ P c' b) = ∃ b, P c b := propext ⟨fun ⟨c', b, e, q⟩ => by cases e; exact ⟨b, q⟩, fun ⟨b, q⟩ => ⟨c, b, rfl, q⟩⟩
theorem u_kitER {C T : Addr} {f : Option (List Str × List D)} : kitE K (.mk C f) (.ref T) = PySem.W.kitOne K (.ref C) (.ref T) := rfl
theorem u_kitET {C : Addr} {T : String} {f : Option (List Str × List D)} : kitE K (.mk C f) (.ty T) = PySem.W.kitOne K (.ref C) (.type T) := rfl
theorem u_excE {C : Addr} {f : Option (List Str × List D)} : excE K (.mk C f) = L2.ExcC K C := rfl
theorem u_xf {a C : Addr} {x : XD} {f : Str} {φ : DE} : dXf a x C f φ Ψ δ μ Φ = φ Ψ δ μ fun y μ1 => y = .hd (.ref a) ∧ ∃ (ns : List Str) (ds : List D) (i : Nat) (d : D), x = .mk C (some (ns, ds)) ∧ ns[i]? = some f ∧ ns.Nodup ∧ ds[i]? = some d ∧ Φ d μ1 := rfl
theorem w_xf1 {C : Addr} {f : Str} {d : D} {P : D → Prop} : (∃ (ns : List Str) (ds : List D) (i : Nat) (d' : D), XD.mk C (some ([f], [d])) = .mk C (some (ns, ds)) ∧ ns[i]? = some f ∧ ns.Nodup ∧ ds[i]? = some d' ∧ P d') = P d := propext ⟨fun ⟨ns, ds, i, d', e, h1, _, h2, q⟩ => by
  cases e
  cases i with
  | zero => cases h2; exact q
  | succ i => simp at h1, fun q => ⟨[f], [d], 0, d, rfl, rfl, by simp, rfl, q⟩⟩
end
end DW
set_option Elab.async false
set_option linter.all false
set_option maxRecDepth 100000
namespace LW
open PySem PySem.Spec L2 DW PyProof.Rows
/-! ### reading a text: the relation, and the law's machine -/
def isLet (c : Nat) : Bool := decide (97 ≤ c ∧ c ≤ 122)
def isDig (c : Nat) : Bool := decide (48 ≤ c ∧ c ≤ 57)
def runLen (p : Nat → Bool) : Nat → List Nat → Nat
  | 0, _ => 0
  | _ + 1, [] => 0
  | m + 1, c :: l => if p c then runLen p m l + 1 else 0
theorem runLen_le {p} : ∀ {m l}, runLen p m l ≤ m
  | 0, _ => Nat.le_refl _
  | _ + 1, [] => Nat.zero_le _
  | m + 1, c :: l => by unfold runLen; split; exact Nat.succ_le_succ runLen_le; exact Nat.zero_le _
theorem runLen_len {p} : ∀ {m l}, runLen p m l ≤ l.length
  | 0, _ => Nat.zero_le _
  | _ + 1, [] => Nat.zero_le _
  | m + 1, c :: l => by unfold runLen; split; exact Nat.succ_le_succ runLen_len; exact Nat.zero_le _
theorem runLen_all {p : Nat → Bool} : ∀ {m : Nat} {l : List Nat}, ∀ c ∈ l.take (runLen p m l), p c = true
  | 0, _ => by simp [runLen]
  | _ + 1, [] => by simp
  | m + 1, c :: l => by
    unfold runLen
    split
    · rename_i h
      intro x hx
      rw [List.take_succ_cons] at hx
      rcases List.mem_cons.1 hx with rfl | hx
      · exact h
      · exact runLen_all x hx
    · simp
theorem runLen_next {p} : ∀ {m l c l'}, runLen p m l < m → l.drop (runLen p m l) = c :: l' → p c = false
  | 0, _, _, _, h, _ => absurd h (Nat.lt_irrefl _)
  | _ + 1, [], _, _, _, h => by simp at h
  | m + 1, x :: l, c, l', h, e => by
    unfold runLen at h e
    split at h
    · rename_i hx
      rw [if_pos hx] at e
      rw [List.drop_succ_cons] at e
      exact runLen_next (by omega) e
    · rename_i hx
      rw [if_neg hx] at e
      simp only [List.drop_zero, List.cons.injEq] at e
      rw [← e.1]; simpa using hx
/-- the value of a run of digits -/
abbrev decv (l : List Nat) : Nat := NumText.digitsVal l
def S (l : List Nat) : Str := ⟨l.toArray⟩
mutual
inductive Rd : Nat → List Nat → D → List Nat → Prop
  | zero {d l} : Rd d (48 :: l) (.int 0) l
  | word {d l} (h : 0 < runLen isLet 12 l) : Rd d l (.str (S (l.take (runLen isLet 12 l)))) (l.drop (runLen isLet 12 l))
  | num {d l} (h0 : ∀ l', l ≠ 48 :: l') (h1 : runLen isLet 12 l = 0) (h : 0 < runLen isDig 9 l) : Rd d l (.int (decv (l.take (runLen isDig 9 l)))) (l.drop (runLen isDig 9 l))
  | nil {d l} (h : d ≤ 30) : Rd d (40 :: 41 :: l) (.tup []) l
  | tup {d l xs l'} (h : d ≤ 30) (h1 : ∀ l'', l ≠ 41 :: l'') (hi : Its d l xs (41 :: l')) : Rd d (40 :: l) (.tup xs) l'
inductive Its : Nat → List Nat → List D → List Nat → Prop
  | one {d l x l'} (h : Rd (d + 1) l x l') : Its d l [x] l'
  | snoc {d l xs l' x l''} (h : Its d l xs (32 :: l')) (h1 : Rd (d + 1) l' x l'') : Its d l (xs ++ [x]) l''
end
inductive Bad : Nat → List Nat → List Nat → Prop
  | here {d l} (h0 : ∀ l', l ≠ 48 :: l') (h1 : ∀ l', l = 40 :: l' → 30 < d) (h2 : runLen isLet 12 l = 0) (h3 : runLen isDig 9 l = 0) : Bad d l l
  | first {d l l'} (h : d ≤ 30) (h1 : ∀ l'', l ≠ 41 :: l'') (hb : Bad (d + 1) l l') : Bad d (40 :: l) l'
  | item {d l xs l1 l'} (h : d ≤ 30) (h1 : ∀ l'', l ≠ 41 :: l'') (hi : Its d l xs (32 :: l1)) (hb : Bad (d + 1) l1 l') : Bad d (40 :: l) l'
  | sep {d l xs l'} (h : d ≤ 30) (h1 : ∀ l'', l ≠ 41 :: l'') (hi : Its d l xs l') (h2 : ∀ l'', l' ≠ 41 :: l'') (h3 : ∀ l'', l' ≠ 32 :: l'') : Bad d (40 :: l) l'
inductive Kd | item | opn | word | num | zero | done
deriving DecidableEq
structure MS where
  k : Kd
  m : Nat
  d : Nat
def sepN (s : MS) (c : Nat) : Option MS := if 0 < s.d ∧ c = 32 then some ⟨.item, 0, s.d⟩ else if 0 < s.d ∧ c = 41 then some ⟨.done, 0, s.d - 1⟩ else none
def nx (s : MS) (c : Nat) : Option MS :=
  if s.k = .item ∨ s.k = .opn then
    if isLet c then some ⟨.word, 1, s.d⟩ else if c = 48 then some ⟨.zero, 1, s.d⟩ else if isDig c then some ⟨.num, 1, s.d⟩
    else if c = 40 ∧ s.d < 30 then some ⟨.opn, 0, s.d + 1⟩ else if c = 41 ∧ s.k = .opn then some ⟨.done, 0, s.d - 1⟩ else none
  else if s.k = .word ∧ isLet c ∧ s.m < 12 then some ⟨.word, s.m + 1, s.d⟩
  else if s.k = .num ∧ isDig c ∧ s.m < 9 then some ⟨.num, s.m + 1, s.d⟩
  else sepN s c
def run : MS → List Nat → MS ⊕ List Nat
  | s, [] => .inl s
  | s, c :: l => match nx s c with
    | none => .inr (c :: l)
    | some s' => run s' l
structure Settled (s : MS) (l : List Nat) : Prop where
  k : s.k ≠ .item ∧ s.k ≠ .opn
  n : ∀ c l', l = c :: l' → nx s c = sepN s c
theorem run_step {s s' c l} (h : nx s c = some s') : run s (c :: l) = run s' l := by rw [run, h]
theorem run_word {d} : ∀ {l m}, 1 ≤ m → m ≤ 12 → run ⟨.word, m, d⟩ l = run ⟨.word, m + runLen isLet (12 - m) l, d⟩ (l.drop (runLen isLet (12 - m) l)) := by
  intro l
  induction l with
  | nil => intro m _ _; cases h : 12 - m <;> simp [runLen, run]
  | cons c l ih =>
    intro m h1 h2
    rcases h : 12 - m with _ | k
    · simp [runLen]
    · unfold runLen
      split
      · rename_i hc
        rw [run_step (s' := ⟨.word, m + 1, d⟩) (by unfold nx; simp [hc]; omega), ih (by omega) (by omega)]
        have : 12 - (m + 1) = k := by omega
        rw [this, List.drop_succ_cons, Nat.add_assoc, Nat.add_comm 1]
      · simp
theorem run_num {d} : ∀ {l m}, 1 ≤ m → m ≤ 9 → run ⟨.num, m, d⟩ l = run ⟨.num, m + runLen isDig (9 - m) l, d⟩ (l.drop (runLen isDig (9 - m) l)) := by
  intro l
  induction l with
  | nil => intro m _ _; cases h : 9 - m <;> simp [runLen, run]
  | cons c l ih =>
    intro m h1 h2
    rcases h : 9 - m with _ | k
    · simp [runLen]
    · unfold runLen
      split
      · rename_i hc
        rw [run_step (s' := ⟨.num, m + 1, d⟩) (by unfold nx; simp [hc]; omega), ih (by omega) (by omega)]
        have : 9 - (m + 1) = k := by omega
        rw [this, List.drop_succ_cons, Nat.add_assoc, Nat.add_comm 1]
      · simp
theorem let_dig {c} (h : isLet c = true) : isDig c = false ∧ c ≠ 48 ∧ c ≠ 40 ∧ c ≠ 41 ∧ c ≠ 32 := by
  simp only [isLet, isDig, decide_eq_true_eq, decide_eq_false_iff_not] at *; omega
theorem run_word0 {k m d l} (hk : k = .item ∨ k = .opn) (h : 0 < runLen isLet 12 l) : ∃ s, run ⟨k, m, d⟩ l = run s (l.drop (runLen isLet 12 l)) ∧ Settled s (l.drop (runLen isLet 12 l)) ∧ s.d = d := by
  cases l with
  | nil => simp [runLen] at h
  | cons c l =>
    unfold runLen at h ⊢
    split at h
    · rename_i hc
      simp only [hc, if_true]
      rw [run_step (s' := ⟨.word, 1, d⟩) (by unfold nx; simp [hc, hk]), run_word (by omega) (by omega), List.drop_succ_cons]
      refine ⟨_, rfl, ⟨⟨nofun, nofun⟩, fun x l' e => ?_⟩, rfl⟩
      unfold nx
      simp only [reduceCtorEq, or_self, if_false, false_and, true_and]
      split
      · rename_i hx
        have h2 := runLen_next (p := isLet) (m := 11) (l := l) (by have := hx.2; simp only [show 12 - 1 = 11 from rfl] at this; omega) e
        rw [h2] at hx; exact absurd hx.1 (by decide)
      · rfl
    · exact absurd h (Nat.lt_irrefl _)
theorem run_num0 {k m d l} (hk : k = .item ∨ k = .opn) (h0 : ∀ l', l ≠ 48 :: l') (h1 : runLen isLet 12 l = 0) (h : 0 < runLen isDig 9 l) : ∃ s, run ⟨k, m, d⟩ l = run s (l.drop (runLen isDig 9 l)) ∧ Settled s (l.drop (runLen isDig 9 l)) ∧ s.d = d := by
  cases l with
  | nil => simp [runLen] at h
  | cons c l =>
    have hl : isLet c = false := by
      unfold runLen at h1; split at h1
      · omega
      · rename_i hx; simpa using hx
    have h48 : c ≠ 48 := fun e => h0 l (by rw [e])
    unfold runLen at h ⊢
    split at h
    · rename_i hc
      simp only [hc, if_true]
      rw [run_step (s' := ⟨.num, 1, d⟩) (by unfold nx; simp [hc, hk, hl, h48]), run_num (by omega) (by omega), List.drop_succ_cons]
      refine ⟨_, rfl, ⟨⟨nofun, nofun⟩, fun x l' e => ?_⟩, rfl⟩
      unfold nx
      simp only [reduceCtorEq, or_self, if_false, false_and, true_and]
      split
      · rename_i hx
        have h2 := runLen_next (p := isDig) (m := 8) (l := l) (by have := hx.2; simp only [show 9 - 1 = 8 from rfl] at this; omega) e
        rw [h2] at hx; exact absurd hx.1 (by decide)
      · rfl
    · exact absurd h (Nat.lt_irrefl _)
theorem run_done {s l'} (h : Settled s (41 :: l')) (h0 : 0 < s.d) : run s (41 :: l') = run ⟨.done, 0, s.d - 1⟩ l' :=
  run_step (by rw [h.n 41 l' rfl, sepN, if_neg (by omega), if_pos ⟨h0, rfl⟩])
theorem run_sep {s l'} (h : Settled s (32 :: l')) (h0 : 0 < s.d) : run s (32 :: l') = run ⟨.item, 0, s.d⟩ l' :=
  run_step (by rw [h.n 32 l' rfl, sepN, if_pos ⟨h0, rfl⟩])
theorem settled_done {m d l} : Settled ⟨.done, m, d⟩ l := ⟨⟨nofun, nofun⟩, fun c l' _ => by unfold nx; simp⟩
theorem settled_zero {m d l} : Settled ⟨.zero, m, d⟩ l := ⟨⟨nofun, nofun⟩, fun c l' _ => by unfold nx; simp⟩
theorem run_open {k m d l} (hk : k = .item ∨ k = .opn) (h : d < 30) : run ⟨k, m, d⟩ (40 :: l) = run ⟨.opn, 0, d + 1⟩ l :=
  run_step (by unfold nx; simp [hk, h, isLet, isDig])
mutual
theorem Rd.run : ∀ {e l t l'}, Rd e l t l' → ∀ {d}, e = d + 1 → ∀ {k m}, k = Kd.item ∨ k = Kd.opn → ∃ s, LW.run ⟨k, m, d⟩ l = LW.run s l' ∧ Settled s l' ∧ s.d = d
  | _, _, _, _, .zero, d, he, k, m, hk => ⟨⟨.zero, 1, d⟩, run_step (by unfold nx; simp [hk, isLet]), settled_zero, rfl⟩
  | _, _, _, _, .word h, d, he, k, m, hk => run_word0 hk h
  | _, _, _, _, .num h0 h1 h, d, he, k, m, hk => run_num0 hk h0 h1 h
  | _, _, _, _, .nil (l := l) h, d, he, k, m, hk => ⟨⟨.done, 0, d⟩, by rw [run_open hk (by omega)]; exact run_step (by unfold nx; simp [isLet, isDig]), settled_done, rfl⟩
  | _, _, _, _, .tup h h1 hi, d, he, k, m, hk => by
    obtain ⟨s, h2, h3, h4⟩ := hi.run (by omega) (k := .opn) (m := 0) (.inr rfl)
    exact ⟨⟨.done, 0, d⟩, by rw [run_open hk (by omega), ← he, h2, run_done h3 (by omega), h4, he]; rfl, settled_done, rfl⟩
theorem Its.run : ∀ {e l t l'}, Its e l t l' → 0 < e → ∀ {k m}, k = Kd.item ∨ k = Kd.opn → ∃ s, LW.run ⟨k, m, e⟩ l = LW.run s l' ∧ Settled s l' ∧ s.d = e
  | e, _, _, _, .one h, he, k, m, hk => h.run (d := e) rfl hk
  | e, _, _, _, .snoc h h1, he, k, m, hk => by
    obtain ⟨s, h2, h3, h4⟩ := h.run he hk
    obtain ⟨s', h5, h6, h7⟩ := h1.run (d := e) rfl (k := .item) (m := 0) (.inl rfl)
    exact ⟨s', by rw [h2, run_sep h3 (by omega), h4, h5], h6, h7⟩
end
/-- a bad text stops the machine there, or leaves it unfinished at the end -/
theorem Bad.run : ∀ {e l l'}, Bad e l l' → ∀ {d}, e = d + 1 → ∀ {k m}, (k = Kd.item ∨ k = Kd.opn ∧ ∀ l'', l ≠ 41 :: l'') →
    (l' ≠ [] ∧ LW.run ⟨k, m, d⟩ l = .inr l') ∨ (l' = [] ∧ ∃ s, LW.run ⟨k, m, d⟩ l = .inl s ∧ (0 < s.d ∨ s.k = .item ∨ s.k = .opn)) := by
  intro e l l' h
  induction h with
  | @here e l h0 h1 h2 h3 =>
    intro d he k m hk
    cases l with
    | nil => exact .inr ⟨rfl, _, rfl, .inr (hk.imp_right And.left)⟩
    | cons c l =>
      refine .inl ⟨nofun, ?_⟩
      have a : isLet c = false := by
        unfold runLen at h2; split at h2
        · omega
        · rename_i hx; simpa using hx
      have b : isDig c = false := by
        unfold runLen at h3; split at h3
        · omega
        · rename_i hx; simpa using hx
      have c1 : ¬(c = 40 ∧ d < 30) := fun q => by have := h1 l (by rw [q.1]); omega
      have c2 : c ≠ 48 := fun q => h0 l (by rw [q])
      have c3 : ¬(c = 41 ∧ k = .opn) := fun q => by
        rcases hk with hk | hk
        · rw [hk] at q; exact absurd q.2 nofun
        · exact hk.2 l (by rw [q.1])
      have : nx ⟨k, m, d⟩ c = none := by
        unfold nx
        simp only [hk.imp_right And.left, a, c2, b, if_true, if_false, Bool.false_eq_true]
        rw [if_neg c1, if_neg c3]
      rw [LW.run, this]
  | @first e l l' h h1 hb ih =>
    intro d he k m hk
    rw [run_open (hk.imp_right And.left) (by omega), ← he]
    exact ih (d := e) rfl (.inr ⟨rfl, h1⟩)
  | @item e l xs l1 l' h h1 hi hb ih =>
    intro d he k m hk
    obtain ⟨s, h2, h3, h4⟩ := hi.run (by omega) (k := .opn) (m := 0) (.inr rfl)
    rw [run_open (hk.imp_right And.left) (by omega), ← he, h2, run_sep h3 (by omega), h4]
    exact ih (d := e) rfl (.inl rfl)
  | @sep e l xs l' h h1 hi h2 h3 =>
    intro d he k m hk
    obtain ⟨s, h4, h5, h6⟩ := hi.run (by omega) (k := .opn) (m := 0) (.inr rfl)
    rw [run_open (hk.imp_right And.left) (by omega), ← he, h4]
    cases l' with
    | nil => exact .inr ⟨rfl, s, rfl, .inl (by omega)⟩
    | cons c l' =>
      refine .inl ⟨nofun, ?_⟩
      have e : nx s c = none := by rw [h5.n c l' rfl, sepN, if_neg (fun q => h3 l' (by rw [q.2])), if_neg (fun q => h2 l' (by rw [q.2]))]
      rw [LW.run, e]
end LW
set_option Elab.async false
set_option linter.all false
set_option maxRecDepth 100000
namespace LW
open PySem PySem.Spec L2 DW PyProof.Rows TL
/-! ### the text of a term, and back -/
mutual
def txt : D → List Nat
  | .str s => tl s
  | .int i => numL i.toNat
  | .tup l => 40 :: (txts l ++ [41])
  | _ => []
def txts : List D → List Nat
  | [] => []
  | x :: l => txt x ++ txtr l
def txtr : List D → List Nat
  | [] => []
  | x :: l => 32 :: (txt x ++ txtr l)
end
theorem txtr_app : ∀ {l m : List D}, txtr (l ++ m) = txtr l ++ txtr m
  | [], _ => by simp [txtr]
  | x :: l, m => by rw [List.cons_append, txtr, txtr, txtr_app]; simp
theorem txts_snoc {x : D} : ∀ {l : List D}, l ≠ [] → txts (l ++ [x]) = txts l ++ 32 :: txt x
  | [], h => absurd rfl h
  | y :: l, _ => by rw [List.cons_append, txts, txts, txtr_app]; simp [txtr]
/-- terms: k levels of tuples -/
inductive Tm : Nat → D → Prop
  | word {k} {s : Str} (h0 : 0 < (tl s).length) (h1 : (tl s).length ≤ 12) (h : ∀ c ∈ tl s, isLet c = true) : Tm k (.str s)
  | num {k} {i : Int} (h0 : 0 ≤ i) (h1 : i < 1000000000) : Tm k (.int i)
  | tup {k l} (h : ∀ x ∈ l, Tm k x) : Tm (k + 1) (.tup l)
theorem Tm.mono {j k d} (h : Tm j d) (e : j ≤ k) : Tm k d := by
  induction h generalizing k with
  | word h0 h1 h => exact .word h0 h1 h
  | num h0 h1 => exact .num h0 h1
  | @tup j l h ih =>
    obtain ⟨k, rfl⟩ : ∃ k', k = k' + 1 := ⟨k - 1, by omega⟩
    exact .tup fun x hx => ih x hx (by omega)
theorem digs {l : List Nat} (h : ∀ c ∈ l, isDig c = true) : NumText.AllDigits l := fun c hc => by simpa [isDig] using h c hc
theorem val_snoc {l : List Nat} {c : Nat} : decv (l ++ [c]) = decv l * 10 + (c - 48) := by simp [NumText.digitsVal]
/-- a number without a leading zero, written again -/
theorem val_pos : ∀ {n : Nat} {l : List Nat}, l.length = n → NumText.AllDigits l → l ≠ [] → (∀ l', l ≠ 48 :: l') → 0 < decv l ∧ numL (decv l) = l := by
  intro n
  induction n with
  | zero => intro l hn _ h1 _; exact absurd (List.length_eq_zero_iff.1 hn) h1
  | succ n ih =>
    intro l hn hd h1 h48
    obtain ⟨l, c, rfl⟩ : ∃ l0 c, l = l0 ++ [c] := ⟨l.dropLast, l.getLast h1, (List.dropLast_concat_getLast h1).symm⟩
    have hc : 48 ≤ c ∧ c ≤ 57 := hd c (by simp)
    have hl : NumText.AllDigits l := fun x hx => hd x (by simp [hx])
    by_cases e : l = []
    · subst e
      have : c ≠ 48 := fun e => h48 [] (by rw [e]; rfl)
      have e : decv ([] ++ [c]) = c - 48 := by simp [NumText.digitsVal]
      rw [e, numL_lt (by omega)]
      exact ⟨by omega, by rw [show 48 + (c - 48) = c by omega]; rfl⟩
    · obtain ⟨h2, h3⟩ := ih (by simpa using hn) hl e (fun l' e' => h48 (l' ++ [c]) (by rw [e']; rfl))
      rw [val_snoc]
      refine ⟨by omega, ?_⟩
      rw [numL_step (by omega), show (decv l * 10 + (c - 48)) / 10 = decv l by omega, show 48 + (decv l * 10 + (c - 48)) % 10 = c by omega, h3]
theorem not48_take {l : List Nat} {n : Nat} (h : ∀ l', l ≠ 48 :: l') : ∀ l', l.take n ≠ 48 :: l' := fun l' e => by
  cases l with
  | nil => simp at e
  | cons c l => cases n with
    | zero => simp at e
    | succ n => rw [List.take_succ_cons] at e; exact h l (by rw [(List.cons.inj e).1])
theorem tl_S (l : List Nat) : tl (S l) = l := by simp [tl, S]
theorem S_tl (s : Str) : S (tl s) = s := by simp [tl, S]
mutual
/-- what was read, written -/
theorem Rd.txt : ∀ {d l t l'}, Rd d l t l' → l = LW.txt t ++ l'
  | _, _, _, _, .zero => by rw [LW.txt]; rfl
  | _, _, _, _, .word h => by rw [LW.txt, tl_S, List.take_append_drop]
  | _, _, _, _, .num (l := l) h0 h1 h => by
    rw [LW.txt, Int.toNat_natCast, (val_pos rfl (digs runLen_all) (fun e => by have := congrArg List.length e; rw [List.length_take, Nat.min_eq_left runLen_len] at this; simp at this; omega) (not48_take h0)).2, List.take_append_drop]
  | _, _, _, _, .nil h => by rw [LW.txt, txts]; rfl
  | _, _, _, _, .tup h h1 hi => by rw [LW.txt, hi.txt.1]; simp
theorem Its.txt : ∀ {d l xs l'}, Its d l xs l' → l = txts xs ++ l' ∧ xs ≠ []
  | _, _, _, _, .one h => ⟨by rw [txts, txtr, List.append_nil]; exact h.txt, by simp⟩
  | _, _, _, _, .snoc h h1 => ⟨by
    rw [txts_snoc h.txt.2, List.append_assoc, List.cons_append, ← h1.txt]; exact h.txt.1, by simp⟩
end
/-- what was read is a term -/
inductive IsT : D → Prop
  | word {s : Str} {c l} (h : tl s = c :: l) (h1 : isLet c = true) : IsT (.str s)
  | num {i : Int} : IsT (.int i)
  | tup {l} (h : ∀ x ∈ l, IsT x) : IsT (.tup l)
/-- signs that end a word or a number -/
def Stop (r : List Nat) : Prop := ∀ c l, r = c :: l → c = 32 ∨ c = 41
theorem runLen_app {p : Nat → Bool} {r : List Nat} (hr : ∀ c l, r = c :: l → p c = false) : ∀ {s : List Nat} {m}, (∀ c ∈ s, p c = true) → s.length ≤ m → runLen p m (s ++ r) = s.length
  | [], 0, _, _ => rfl
  | [], m + 1, _, _ => by
    cases r with
    | nil => rfl
    | cons c l => rw [List.nil_append, runLen, hr c l rfl]; rfl
  | c :: s, 0, _, h => by simp at h
  | c :: s, m + 1, h, hl => by
    rw [List.cons_append, runLen, if_pos (h c (by simp)), runLen_app hr (fun x hx => h x (by simp [hx])) (by simpa using hl)]
    rfl
theorem stop_let {r} (h : Stop r) : ∀ c l, r = c :: l → isLet c = false := fun c l e => by rcases h c l e with rfl | rfl <;> rfl
theorem stop_dig {r} (h : Stop r) : ∀ c l, r = c :: l → isDig c = false := fun c l e => by rcases h c l e with rfl | rfl <;> rfl
theorem runLen_head {p : Nat → Bool} {c l m} (h : p c = false) : runLen p m (c :: l) = 0 := by
  cases m with
  | zero => rfl
  | succ m => rw [runLen, h]; rfl
/-- how a term's text begins -/
theorem txt_head {k t} (h : Tm k t) : ∃ c l, txt t = c :: l ∧ c ≠ 41 := by
  cases h with
  | @word _ s h0 h1 h =>
    rw [txt]
    cases e : tl s with
    | nil => rw [e] at h0; simp at h0
    | cons c l => exact ⟨c, l, rfl, (let_dig (h c (by rw [e]; simp))).2.2.2.1⟩
  | @num _ i h0 h1 =>
    rw [txt]
    cases e : numL i.toNat with
    | nil => exact absurd e (numL_ne _)
    | cons c l => exact ⟨c, l, rfl, fun e2 => by have := numL_digits i.toNat c (by rw [e]; simp); omega⟩
  | tup h => rw [txt]; exact ⟨_, _, rfl, by decide⟩
theorem num_len {i : Int} (h0 : 0 ≤ i) (h1 : i < 1000000000) : (numL i.toNat).length ≤ 9 := numL_len (by decide) (by omega)
theorem num48 : ∀ {n : Nat} {l}, numL n = 48 :: l → n = 0 ∧ l = [] := by
  intro n
  induction n using Nat.strongRecOn with
  | _ n ih =>
    intro l h
    by_cases h1 : n < 10
    · rw [numL_lt h1] at h
      have := (List.cons.inj h).1
      exact ⟨by omega, (List.cons.inj h).2.symm⟩
    · rw [numL_step (by omega)] at h
      cases e : numL (n / 10) with
      | nil => exact absurd e (numL_ne _)
      | cons c l' =>
        rw [e, List.cons_append] at h
        obtain ⟨h2, _⟩ := ih (n / 10) (by omega) (l := l') (by rw [e, (List.cons.inj h).1])
        omega
theorem dig_let {c} (h : isDig c = true) : isLet c = false := by
  simp only [isLet, isDig, decide_eq_true_eq, decide_eq_false_iff_not] at *; omega
/-- a word, read -/
theorem rd_word {d s r t l'} (h0 : 0 < (tl s).length) (h1 : (tl s).length ≤ 12) (h : ∀ c ∈ tl s, isLet c = true) (hr : Stop r) (q : Rd d (tl s ++ r) t l') : t = .str s ∧ l' = r := by
  have e := runLen_app (stop_let hr) h h1
  have hh : ∀ c l, tl s ++ r = c :: l → isLet c = true := fun c l ee => by
    cases es : tl s with
    | nil => rw [es] at h0; simp at h0
    | cons x y => rw [es, List.cons_append] at ee; exact h c (by rw [es, ← (List.cons.inj ee).1]; simp)
  generalize hL : tl s ++ r = L at q e hh
  cases q with
  | zero => exact absurd (hh 48 _ rfl) (by decide)
  | word h2 => rw [e, ← hL, List.take_left, List.drop_left, S_tl]; exact ⟨rfl, rfl⟩
  | num _ h2 => omega
  | nil => exact absurd (hh 40 _ rfl) (by decide)
  | tup => exact absurd (hh 40 _ rfl) (by decide)
theorem rd_num {d i r t l'} (h0 : 0 ≤ i) (h1 : i < 1000000000) (hr : Stop r) (q : Rd d (numL i.toNat ++ r) t l') : t = .int i ∧ l' = r := by
  have hd : ∀ c ∈ numL i.toNat, isDig c = true := fun c hc => by simpa [isDig] using numL_digits i.toNat c hc
  have e := runLen_app (stop_dig hr) hd (num_len h0 h1)
  have hh : ∀ c l, numL i.toNat ++ r = c :: l → isDig c = true ∧ (c = 48 → i = 0 ∧ l = r) := fun c l ee => by
    cases es : numL i.toNat with
    | nil => exact absurd es (numL_ne _)
    | cons x y =>
      rw [es, List.cons_append] at ee
      obtain ⟨rfl, rfl⟩ := List.cons.inj ee
      refine ⟨hd x (by rw [es]; simp), fun e2 => ?_⟩
      subst e2
      obtain ⟨h2, rfl⟩ := num48 es
      exact ⟨by omega, rfl⟩
  generalize hL : numL i.toNat ++ r = L at q e hh
  cases q with
  | zero => obtain ⟨rfl, h3⟩ := (hh 48 _ rfl).2 rfl; exact ⟨rfl, h3⟩
  | word h2 =>
    cases L with
    | nil => simp [runLen] at h2
    | cons c l => rw [runLen_head (dig_let (hh c l rfl).1)] at h2; omega
  | num _ _ h2 =>
    rw [e, ← hL, List.take_left, List.drop_left, show decv (numL i.toNat) = i.toNat from numL_val _, Int.toNat_of_nonneg h0]; exact ⟨rfl, rfl⟩
  | nil => exact absurd (hh 40 _ rfl).1 (by decide)
  | tup => exact absurd (hh 40 _ rfl).1 (by decide)
theorem stop_txtr {l : List D} {r} : Stop (txtr l ++ 41 :: r) := fun c m e => by
  cases l with
  | nil => rw [txtr, List.nil_append] at e; exact .inr (List.cons.inj e).1.symm
  | cons x l => rw [txtr, List.cons_append] at e; exact .inl (List.cons.inj e).1.symm
/-- items, read: a first part of what was written -/
theorem its_back {d k r} {xs : List D} (hx : ∀ x ∈ xs, Tm k x) (A : ∀ x ∈ xs, ∀ {r t l'}, Stop r → Rd (d + 1) (txt x ++ r) t l' → t = x ∧ l' = r) (hne : xs ≠ []) :
    ∀ {n l ys l'}, ys.length = n → l = txts xs ++ 41 :: r → Its d l ys l' → ∃ n, 0 < n ∧ n ≤ xs.length ∧ ys = xs.take n ∧ l' = txtr (xs.drop n) ++ 41 :: r := by
  intro n
  induction n with
  | zero =>
    intro l ys l' hn _ h
    have := h.txt.2
    exact absurd (List.length_eq_zero_iff.1 hn) this
  | succ n ih =>
    intro l ys l' hn e h
    subst e
    cases h with
    | one h =>
      cases xs with
      | nil => exact absurd rfl hne
      | cons x xs =>
        rw [txts, List.append_assoc] at h
        obtain ⟨rfl, rfl⟩ := A x (by simp) stop_txtr h
        exact ⟨1, by omega, by simp, by simp, by simp⟩
    | snoc h h1 =>
      obtain ⟨m, h2, h3, rfl, h5⟩ := ih (by simpa using hn) rfl h
      cases hd : xs.drop m with
      | nil => rw [hd, txtr] at h5; simp at h5
      | cons x rest =>
        rw [hd, txtr, List.cons_append, List.append_assoc] at h5
        rw [(List.cons.inj h5).2] at h1
        have hm : m < xs.length := by
          rcases Nat.lt_or_ge m xs.length with h6 | h6
          · exact h6
          · rw [List.drop_eq_nil_of_le h6] at hd; simp at hd
        have hx2 : xs[m] = x := by
          have := List.drop_eq_getElem_cons hm
          rw [hd] at this; exact (List.cons.inj this).1.symm
        obtain ⟨rfl, rfl⟩ := A x (by rw [← hx2]; exact List.getElem_mem hm) stop_txtr h1
        refine ⟨m + 1, by omega, hm, ?_, ?_⟩
        · rw [List.take_succ_eq_append_getElem hm, hx2]
        · have := List.drop_eq_getElem_cons hm
          rw [hd] at this
          rw [← (List.cons.inj this).2]
/-- a term's text, read -/
theorem rd_back {k t} (h : Tm k t) : ∀ {d r t' l'}, k + d ≤ 31 → Stop r → Rd d (txt t ++ r) t' l' → t' = t ∧ l' = r := by
  induction h with
  | @word k s h0 h1 h => intro d r t' l' _ hr q; rw [txt] at q; exact rd_word h0 h1 h hr q
  | @num k i h0 h1 => intro d r t' l' _ hr q; rw [txt] at q; exact rd_num h0 h1 hr q
  | @tup k xs h ih =>
    intro d r t' l' hk hr q
    rw [txt, List.cons_append, List.append_assoc] at q
    generalize hL : txts xs ++ ([41] ++ r) = L at q
    generalize hM : 40 :: L = M at q
    cases q with
    | zero => exact absurd (List.cons.inj hM).1 (by decide)
    | word h2 => rw [← hM, runLen_head (by decide)] at h2; omega
    | num _ _ h2 => rw [← hM, runLen_head (by decide)] at h2; omega
    | @nil _ l hd =>
      have e := (List.cons.inj hM).2
      rw [e] at hL
      cases xs with
      | nil => rw [txts] at hL; exact ⟨rfl, (List.cons.inj hL).2.symm⟩
      | cons x xs =>
        obtain ⟨c, m, h3, h4⟩ := txt_head (h x (by simp))
        rw [txts, h3] at hL
        exact absurd (List.cons.inj hL).1 h4
    | @tup _ l ys _ hd h1 hi =>
      have e := (List.cons.inj hM).2
      subst e
      have hne : xs ≠ [] := fun e => h1 r (by rw [← hL, e, txts]; rfl)
      obtain ⟨n, h2, h3, rfl, h5⟩ := its_back (r := r) h (fun x hx _ _ _ h6 h7 => ih x hx (by omega) h6 h7) hne rfl hL.symm hi
      cases hd2 : xs.drop n with
      | nil =>
        rw [hd2, txtr] at h5
        have : xs.length ≤ n := by simpa using hd2
        rw [List.take_of_length_le this]
        exact ⟨rfl, (List.cons.inj h5).2⟩
      | cons x m => rw [hd2, txtr] at h5; exact absurd (List.cons.inj h5).1 (by decide)
theorem bad_back {k t} (h : Tm k t) : ∀ {d r l'}, k + d ≤ 31 → Stop r → ¬Bad d (txt t ++ r) l' := by
  induction h with
  | @word k s h0 h1 h =>
    intro d r l' _ hr q
    rw [txt] at q
    have e := runLen_app (stop_let hr) h h1
    have hh : ∀ c l, tl s ++ r = c :: l → isLet c = true := fun c l ee => by
      cases es : tl s with
      | nil => rw [es] at h0; simp at h0
      | cons x y => rw [es, List.cons_append] at ee; exact h c (by rw [es, ← (List.cons.inj ee).1]; simp)
    generalize hL : tl s ++ r = L at q e hh
    cases q with
    | here _ _ h2 => omega
    | first => exact absurd (hh 40 _ rfl) (by decide)
    | item => exact absurd (hh 40 _ rfl) (by decide)
    | sep => exact absurd (hh 40 _ rfl) (by decide)
  | @num k i h0 h1 =>
    intro d r l' _ hr q
    rw [txt] at q
    have hd : ∀ c ∈ numL i.toNat, isDig c = true := fun c hc => by simpa [isDig] using numL_digits i.toNat c hc
    have e := runLen_app (stop_dig hr) hd (num_len h0 h1)
    have hp : 0 < (numL i.toNat).length := List.length_pos_iff.2 (numL_ne _)
    have hh : ∀ c l, numL i.toNat ++ r = c :: l → isDig c = true := fun c l ee => by
      cases es : numL i.toNat with
      | nil => exact absurd es (numL_ne _)
      | cons x y => rw [es, List.cons_append] at ee; exact hd c (by rw [es, ← (List.cons.inj ee).1]; simp)
    generalize hL : numL i.toNat ++ r = L at q e hh
    cases q with
    | here _ _ _ h2 => omega
    | first => exact absurd (hh 40 _ rfl) (by decide)
    | item => exact absurd (hh 40 _ rfl) (by decide)
    | sep => exact absurd (hh 40 _ rfl) (by decide)
  | @tup k xs h ih =>
    intro d r l' hk hr q
    rw [txt, List.cons_append, List.append_assoc] at q
    generalize hL : txts xs ++ ([41] ++ r) = L at q
    have hB : ∀ {L ys l'}, (∀ l'', L ≠ 41 :: l'') → txts xs ++ ([41] ++ r) = L → Its d L ys l' → ∃ n, 0 < n ∧ n ≤ xs.length ∧ ys = xs.take n ∧ l' = txtr (xs.drop n) ++ 41 :: r := fun h1 hL hi => by
      have hne : xs ≠ [] := fun e => h1 r (by rw [← hL, e, txts]; rfl)
      exact its_back (r := r) h (fun x hx _ _ _ h6 h7 => rd_back (h x hx) (by omega) h6 h7) hne rfl hL.symm hi
    cases q with
    | here _ h2 => have := h2 _ rfl; omega
    | first hd h1 hb =>
      cases xs with
      | nil => rw [txts] at hL; exact h1 _ hL.symm
      | cons x xs =>
        rw [txts, List.append_assoc] at hL
        rw [← hL] at hb
        exact ih x (by simp) (by omega) stop_txtr hb
    | item hd h1 hi hb =>
      obtain ⟨n, h2, h3, rfl, h5⟩ := hB h1 hL hi
      cases hd2 : xs.drop n with
      | nil => rw [hd2, txtr] at h5; exact absurd (List.cons.inj h5).1 (by decide)
      | cons x m =>
        rw [hd2, txtr, List.cons_append, List.append_assoc] at h5
        rw [(List.cons.inj h5).2] at hb
        exact ih x (List.mem_of_mem_drop (by rw [hd2]; simp)) (by omega) stop_txtr hb
    | sep hd h1 hi h6 h7 =>
      obtain ⟨n, h2, h3, rfl, h5⟩ := hB h1 hL hi
      cases hd2 : xs.drop n with
      | nil => rw [hd2, txtr] at h5; exact h6 _ h5
      | cons x m => rw [hd2, txtr, List.cons_append] at h5; exact h7 _ h5
theorem val_lt : ∀ {n : Nat} {l : List Nat}, l.length = n → NumText.AllDigits l → decv l < 10 ^ n := by
  intro n
  induction n with
  | zero => intro l hn _; rw [List.length_eq_zero_iff.1 hn]; decide
  | succ n ih =>
    intro l hn hd
    have h1 : l ≠ [] := fun e => by rw [e] at hn; simp at hn
    obtain ⟨l, c, rfl⟩ : ∃ l0 c, l = l0 ++ [c] := ⟨l.dropLast, l.getLast h1, (List.dropLast_concat_getLast h1).symm⟩
    have hc : 48 ≤ c ∧ c ≤ 57 := hd c (by simp)
    have := ih (l := l) (by simpa using hn) (fun x hx => hd x (by simp [hx]))
    rw [val_snoc, Nat.pow_succ]
    omega
mutual
/-- what was read is a term -/
theorem Rd.tm : ∀ {d l t l'}, Rd d l t l' → d ≤ 31 → Tm (31 - d) t
  | _, _, _, _, .zero, _ => .num (by decide) (by decide)
  | _, _, _, _, .word h, _ => .word (by rw [tl_S, List.length_take, Nat.min_eq_left runLen_len]; exact h) (by rw [tl_S, List.length_take]; exact Nat.le_trans (Nat.min_le_left ..) runLen_le) (by rw [tl_S]; exact runLen_all)
  | _, _, _, _, .num (l := l) h0 h1 h, _ => .num (by omega) (by
    have h2 := val_lt rfl (digs (runLen_all (p := isDig) (m := 9) (l := l)))
    have h3 : (l.take (runLen isDig 9 l)).length ≤ 9 := by rw [List.length_take]; exact Nat.le_trans (Nat.min_le_left ..) runLen_le
    have h4 : 10 ^ (l.take (runLen isDig 9 l)).length ≤ 10 ^ 9 := Nat.pow_le_pow_right (by decide) h3
    omega)
  | d, _, _, _, .nil h, _ => by
    rw [show 31 - d = (30 - d) + 1 by omega]; exact .tup (by simp)
  | d, _, _, _, .tup h h1 hi, _ => by
    rw [show 31 - d = (30 - d) + 1 by omega]; exact .tup fun x hx => (hi.tm (by omega) x hx).mono (by omega)
theorem Its.tm : ∀ {d l xs l'}, Its d l xs l' → d ≤ 30 → ∀ x ∈ xs, Tm (30 - d) x
  | _, _, _, _, .one h, hd => fun x hx => by
    rw [List.mem_singleton.1 hx]; exact (h.tm (by omega)).mono (by omega)
  | _, _, _, _, .snoc h h1, hd => fun x hx => by
    rcases List.mem_append.1 hx with hx | hx
    · exact h.tm hd x hx
    · rw [List.mem_singleton.1 hx]; exact (h1.tm (by omega)).mono (by omega)
end
end LW
set_option Elab.async false
set_option linter.all false
set_option maxRecDepth 100000
namespace LW
open PySem PySem.Spec L2 DW PyProof.Rows TL
mutual
/-- the path of the first tuple that is more than k tuples deep -/
def fdp : Nat → D → Option (List Int)
  | 0, .tup _ => some []
  | k + 1, .tup l => fdpl k 0 l
  | _, _ => none
def fdpl : Nat → Int → List D → Option (List Int)
  | _, _, [] => none
  | k, i, x :: l => match fdp k x with
    | some p => some (i :: p)
    | none => fdpl k (i + 1) l
end
theorem fdpl_none {k : Nat} {l : List D} : ∀ {i : Int}, (∀ x ∈ l, fdp k x = none) → fdpl k i l = none := by
  induction l with
  | nil => intro i _; rw [fdpl]
  | cons x l ih => intro i h; rw [fdpl, h x (by simp)]; exact ih fun y hy => h y (by simp [hy])
theorem fdpl_at {k : Nat} {l : List D} : ∀ {i : Int} {j : Nat} {x p}, (∀ m y, m < j → l[m]? = some y → fdp k y = none) → l[j]? = some x → fdp k x = some p → fdpl k i l = some ((i + j) :: p) := by
  induction l with
  | nil => intro i j x p _ h _; simp at h
  | cons y l ih =>
    intro i j x p h hj hp
    cases j with
    | zero =>
      obtain rfl : y = x := by simpa using hj
      rw [fdpl, hp]; simp
    | succ j =>
      rw [fdpl, h 0 y (by omega) rfl]
      show fdpl k (i + 1) l = _
      rw [ih (i := i + 1) (j := j) (fun m z hm hz => h (m + 1) z (by omega) (by simpa using hz)) (by simpa using hj) hp]
      rw [show i + 1 + (j : Int) = i + ((j + 1 : Nat) : Int) by omega]
theorem tl_join_txts : ∀ (l : List D), joinL [32] (l.map txt) = txts l
  | [] => by rw [txts]; rfl
  | [x] => by rw [txts, txtr, List.append_nil]; rfl
  | x :: y :: r => by
    show txt x ++ ([32] ++ joinL [32] ((y :: r).map txt)) = _
    rw [tl_join_txts (y :: r), txts, txts, txtr]; rfl
theorem join_txts (l : List D) : Txt.join " " (l.map fun x => S (txt x)) = S (txts l) := by
  have h : tl (Txt.join " " (l.map fun x => S (txt x))) = txts l := by
    rw [join_eq, tl_join, List.map_map, ← tl_join_txts]
    rfl
  rw [← S_tl (Txt.join " " _), h]
/-- no deep path: a term of fewer levels -/
theorem fdp_tm {j d} (h : Tm j d) : ∀ {k}, fdp k d = none → Tm k d := by
  induction h with
  | word h0 h1 h => intro k _; exact .word h0 h1 h
  | num h0 h1 => intro k _; exact .num h0 h1
  | @tup j l h ih =>
    intro k hk
    cases k with
    | zero => rw [fdp] at hk; exact absurd hk nofun
    | succ k =>
      rw [fdp] at hk
      have : ∀ (l : List D) (i : Int), fdpl k i l = none → ∀ x ∈ l, fdp k x = none := by
        intro l
        induction l with
        | nil => intro _ _ x hx; simp at hx
        | cons y l ihl =>
          intro i e x hx
          rw [fdpl] at e
          cases hy : fdp k y with
          | some p => rw [hy] at e; exact absurd e nofun
          | none =>
            rw [hy] at e
            rcases List.mem_cons.1 hx with rfl | hx
            · exact hy
            · exact ihl (i + 1) e x hx
      exact .tup fun x hx => ih x hx (this l 0 hk x hx)
theorem txt_pos {k t} (h : Tm k t) : 0 < (txt t).length := by
  obtain ⟨c, l, e, _⟩ := txt_head h; rw [e]; simp
theorem txtr_len {k} : ∀ {l : List D}, (∀ x ∈ l, Tm k x) → (txtr l).length = (l.map fun x => (txt x).length + 1).sum
  | [], _ => by rw [txtr]; rfl
  | x :: l, h => by rw [txtr, List.map_cons, List.sum_cons, ← txtr_len (l := l) fun y hy => h y (by simp [hy])]; simp; omega
theorem items_len {k} {l : List D} (h : ∀ x ∈ l, Tm k x) : l.length ≤ (txts l).length := by
  have : ∀ {l : List D}, l.length ≤ (txtr l).length := by
    intro l
    induction l with
    | nil => simp
    | cons x l ih => rw [txtr]; simp; omega
  cases l with
  | nil => simp
  | cons x l =>
    have h1 := txt_pos (h x (by simp))
    have h2 := this (l := l)
    rw [txts]; simp; omega
theorem join_size {k} {l : List D} (h : ∀ x ∈ l, Tm k x) : (l.map fun x => (txt x).length).sum + l.length ≤ (txts l).length + 1 := by
  have e : ∀ {l : List D}, (txtr l).length = (l.map fun x => (txt x).length).sum + l.length := by
    intro l
    induction l with
    | nil => rw [txtr]; rfl
    | cons x l ih => rw [txtr]; simp; omega
  cases l with
  | nil => simp
  | cons x l => rw [txts]; have := e (l := l); simp; omega
theorem item_le : ∀ {l : List D} {x}, x ∈ l → (txt x).length ≤ (txts l).length := by
  have e : ∀ {l : List D} {x}, x ∈ l → (txt x).length ≤ (txtr l).length := by
    intro l
    induction l with
    | nil => intro x h; simp at h
    | cons y l ih =>
      intro x h
      rw [txtr]
      rcases List.mem_cons.1 h with rfl | h
      · simp; omega
      · have := ih h; simp; omega
  intro l x h
  cases l with
  | nil => simp at h
  | cons y l =>
    rw [txts]
    rcases List.mem_cons.1 h with rfl | h
    · simp
    · have := e h; simp; omega
end LW
set_option Elab.async false
set_option linter.all false
set_option maxRecDepth 100000
namespace LW
open PySem PySem.Spec L2 DW PyProof.Rows TL
mutual
/-- what the law compares: plain data -/
def plainD : D → Bool
  | .int _ => true
  | .str _ => true
  | .tup ds => plainDs ds && decide (ds.length ≤ 100000)
  | _ => false
def plainDs : List D → Bool
  | [] => true
  | d :: ds => plainD d && plainDs ds
end
mutual
def depD : D → Nat
  | .tup ds => depDs ds + 1
  | _ => 1
def depDs : List D → Nat
  | [] => 0
  | d :: ds => max (depD d) (depDs ds)
end
mutual
def sameD : D → D → Bool
  | a, .tup ds => match a with
    | .tup es => sameDs es ds
    | _ => false
  | a, .non => match a with
    | .non => true
    | _ => false
  | a, .str s => match a with
    | .str t => decide (t = s)
    | _ => false
  | a, .bl s => match a with
    | .bl t => decide (t = s)
    | _ => false
  | a, .int s => match a with
    | .int t => decide (t = s)
    | _ => false
  | _, _ => false
def sameDs : List D → List D → Bool
  | [], [] => true
  | e :: es, d :: ds => sameD e d && sameDs es ds
  | _, _ => false
end
theorem depD_pos (d : D) : 0 < depD d := by cases d <;> simp [depD]
theorem plain_get : ∀ {ds : List D} {i : Nat} {d : D}, plainDs ds = true → ds[i]? = some d → plainD d = true
  | [], i, d, _, e => by cases e
  | x :: xs, 0, d, h, e => by cases e; simp [plainDs] at h; exact h.1
  | x :: xs, i + 1, d, h, e => by simp [plainDs] at h; exact plain_get h.2 e
theorem dep_get : ∀ {ds : List D} {i : Nat} {d : D}, ds[i]? = some d → depD d ≤ depDs ds
  | [], i, d, e => by cases e
  | x :: xs, 0, d, e => by cases e; simp only [depDs]; omega
  | x :: xs, i + 1, d, e => by have := dep_get (ds := xs) (i := i) e; simp only [depDs]; omega
theorem sameDs_len : ∀ {es ds : List D}, es.length ≠ ds.length → sameDs es ds = false
  | [], [], h => absurd rfl h
  | [], _ :: _, h => by simp [sameDs]
  | _ :: _, [], h => by simp [sameDs]
  | e :: es, d :: ds, h => by simp [sameDs]; intro _; exact sameDs_len (by simpa using h)
theorem sameDs_all : ∀ {es ds : List D}, es.length = ds.length → ((List.range ds.length).map fun i => sameD (es.getD i .non) (ds.getD i .non)).all id = sameDs es ds
  | [], [], h => by simp [sameDs]
  | [], _ :: _, h => by simp at h
  | _ :: _, [], h => by simp at h
  | e :: es, d :: ds, h => by
    have ih := sameDs_all (es := es) (ds := ds) (by simpa using h)
    rw [List.length_cons, List.range_succ_eq_map, List.map_cons, List.map_map, List.all_cons, sameDs, ← ih]
    rfl
mutual
theorem same_refl : ∀ d : D, plainD d = true → sameD d d = true
  | .non, _ => by simp [sameD]
  | .bl _, _ => by simp [sameD]
  | .int _, _ => by simp [sameD]
  | .str _, _ => by simp [sameD]
  | .tup ds, h => by simp only [plainD, Bool.and_eq_true] at h; simp only [sameD]; exact sames_refl ds h.1
  | .lst _, h => by simp [plainD] at h
  | .obj _ _ _, h => by simp [plainD] at h
  | .hd _, h => by simp [plainD] at h
  | .scr _, h => by simp [plainD] at h
theorem sames_refl : ∀ ds : List D, plainDs ds = true → sameDs ds ds = true
  | [], _ => by simp [sameDs]
  | d :: ds, h => by simp only [plainDs, Bool.and_eq_true] at h; simp only [sameDs, same_refl d h.1, sames_refl ds h.2, Bool.and_self]
end

theorem plainDs_of {l : List D} (h : ∀ x ∈ l, plainD x = true) : plainDs l = true := by
  induction l with
  | nil => rfl
  | cons x l ih => rw [plainDs, h x (by simp), ih fun y hy => h y (by simp [hy])]; rfl
theorem plain_tm {k d} (h : Tm k d) : (txt d).length ≤ 100000 → plainD d = true := by
  induction h with
  | word h0 h1 h => intro _; rfl
  | num h0 h1 => intro _; rfl
  | @tup j l h ih =>
    intro hz
    rw [txt] at hz
    have hb : (txts l).length ≤ 100000 := by simp at hz; omega
    have h1 := items_len h
    rw [plainD, plainDs_of fun x hx => ih x hx (Nat.le_trans (item_le hx) hb), decide_eq_true (by omega)]; rfl
theorem depDs_of {n : Nat} {l : List D} (h : ∀ x ∈ l, depD x ≤ n) : depDs l ≤ n := by
  induction l with
  | nil => simp [depDs]
  | cons x l ih => rw [depDs]; have := h x (by simp); have := ih fun y hy => h y (by simp [hy]); omega
theorem dep_tm {k d} (h : Tm k d) : depD d ≤ k + 1 := by
  induction h with
  | word h0 h1 h => simp [depD]
  | num h0 h1 => simp [depD]
  | @tup j l h ih => rw [depD]; have := depDs_of ih; omega
mutual
theorem fdp_len : ∀ {k : Nat} {d : D} {p}, fdp k d = some p → p.length ≤ k
  | 0, .tup l, p, h => by rw [fdp] at h; cases h; simp
  | k + 1, .tup l, p, h => by rw [fdp] at h; exact fdpl_len h
  | 0, .int _, _, h => by simp [fdp] at h
  | 0, .str _, _, h => by simp [fdp] at h
  | 0, .non, _, h => by simp [fdp] at h
  | 0, .bl _, _, h => by simp [fdp] at h
  | 0, .lst _, _, h => by simp [fdp] at h
  | 0, .obj _ _ _, _, h => by simp [fdp] at h
  | 0, .hd _, _, h => by simp [fdp] at h
  | 0, .scr _, _, h => by simp [fdp] at h
  | k + 1, .int _, _, h => by simp [fdp] at h
  | k + 1, .str _, _, h => by simp [fdp] at h
  | k + 1, .non, _, h => by simp [fdp] at h
  | k + 1, .bl _, _, h => by simp [fdp] at h
  | k + 1, .lst _, _, h => by simp [fdp] at h
  | k + 1, .obj _ _ _, _, h => by simp [fdp] at h
  | k + 1, .hd _, _, h => by simp [fdp] at h
  | k + 1, .scr _, _, h => by simp [fdp] at h
theorem fdpl_len : ∀ {k : Nat} {l : List D} {i : Int} {p}, fdpl k i l = some p → p.length ≤ k + 1
  | k, [], i, p, h => by rw [fdpl] at h; cases h
  | k, x :: l, i, p, h => by
    rw [fdpl] at h
    cases hx : fdp k x with
    | some q =>
      rw [hx] at h
      cases h
      have := fdp_len hx
      simp; omega
    | none => rw [hx] at h; exact fdpl_len h
end
mutual
theorem fdp_idx : ∀ {k : Nat} {d : D} {p}, plainD d = true → fdp k d = some p → ∀ i ∈ p, 0 ≤ i ∧ i < (100000 : Int)
  | 0, .tup l, p, _, h => by rw [fdp] at h; cases h; simp
  | k + 1, .tup l, p, hp, h => by
    rw [fdp] at h
    simp [plainD] at hp
    exact fdpl_idx (n := 0) hp.1 (by omega) h
  | 0, .int _, _, _, h => by simp [fdp] at h
  | 0, .str _, _, _, h => by simp [fdp] at h
  | 0, .non, _, _, h => by simp [fdp] at h
  | 0, .bl _, _, _, h => by simp [fdp] at h
  | 0, .lst _, _, _, h => by simp [fdp] at h
  | 0, .obj _ _ _, _, _, h => by simp [fdp] at h
  | 0, .hd _, _, _, h => by simp [fdp] at h
  | 0, .scr _, _, _, h => by simp [fdp] at h
  | k + 1, .int _, _, _, h => by simp [fdp] at h
  | k + 1, .str _, _, _, h => by simp [fdp] at h
  | k + 1, .non, _, _, h => by simp [fdp] at h
  | k + 1, .bl _, _, _, h => by simp [fdp] at h
  | k + 1, .lst _, _, _, h => by simp [fdp] at h
  | k + 1, .obj _ _ _, _, _, h => by simp [fdp] at h
  | k + 1, .hd _, _, _, h => by simp [fdp] at h
  | k + 1, .scr _, _, _, h => by simp [fdp] at h
theorem fdpl_idx : ∀ {k : Nat} {l : List D} {n : Nat} {p}, plainDs l = true → l.length + n ≤ 100000 → fdpl k n l = some p → ∀ i ∈ p, 0 ≤ i ∧ i < (100000 : Int)
  | k, [], n, p, _, _, h => by rw [fdpl] at h; cases h
  | k, x :: l, n, p, hp, hn, h => by
    rw [fdpl] at h
    simp [plainDs] at hp
    simp at hn
    cases hx : fdp k x with
    | some q =>
      rw [hx] at h
      cases h
      intro i hi
      rcases List.mem_cons.1 hi with rfl | hi
      · omega
      · exact fdp_idx hp.1 hx i hi
    | none =>
      rw [hx] at h
      have h : fdpl k ((n + 1 : Nat) : Int) l = some p := by rw [show ((n + 1 : Nat) : Int) = (n : Int) + 1 by omega]; exact h
      exact fdpl_idx (n := n + 1) hp.2 (by omega) h
end
theorem S_inj {l m : List Nat} : S l = S m ↔ l = m := ⟨fun h => by rw [← tl_S l, h, tl_S], fun h => by rw [h]⟩
theorem cutS_ab (t : Str) {a b : Nat} (h : a ≤ b) : cutS t (some (a : Int)) (some (b : Int)) = S (((tl t).drop a).take (b - a)) := by
  unfold cutS
  rw [HT.sIx_nat, HT.sIx_nat]
  show S _ = S _
  congr 1
  show List.take (min b (tl t).length - min a (tl t).length) (List.drop (min a (tl t).length) (tl t)) = _
  by_cases h1 : a ≤ (tl t).length
  · rw [Nat.min_eq_left h1]
    by_cases h2 : b ≤ (tl t).length
    · rw [Nat.min_eq_left h2]
    · rw [Nat.min_eq_right (a := b) (by omega), List.take_of_length_le (by rw [List.length_drop]; omega), List.take_of_length_le (by rw [List.length_drop]; omega)]
  · rw [Nat.min_eq_right (a := a) (by omega), List.drop_of_length_le (Nat.le_refl _), List.drop_of_length_le (i := a) (by omega)]; simp
theorem cutS_1 (t : Str) (a : Nat) : cutS t (some (a : Int)) (some ((a : Int) + 1)) = S (((tl t).drop a).take 1) := by
  have := cutS_ab t (a := a) (b := a + 1) (by omega)
  rw [show a + 1 - a = 1 by omega] at this
  exact this
theorem cutS_to (t : Str) (b : Nat) : cutS t none (some (b : Int)) = S ((tl t).take b) := by
  have := cutS_ab t (a := 0) (b := b) (by omega)
  rw [List.drop_zero, Nat.sub_zero] at this
  exact this
theorem cutS_from (t : Str) (a : Nat) : cutS t (some (a : Int)) none = S ((tl t).drop a) := by
  unfold cutS
  rw [HT.sIx_nat, HT.sIx_none]
  show S _ = S _
  congr 1
  show List.take ((tl t).length - min a (tl t).length) (List.drop (min a (tl t).length) (tl t)) = _
  by_cases h1 : a ≤ (tl t).length
  · rw [Nat.min_eq_left h1, List.take_of_length_le (by rw [List.length_drop]; omega)]
  · rw [Nat.min_eq_right (a := a) (by omega), List.drop_of_length_le (Nat.le_refl _), List.drop_of_length_le (i := a) (by omega)]; simp
theorem cutS_from1 (t : Str) (a : Nat) : cutS t (some ((a : Int) + 1)) none = S ((tl t).drop (a + 1)) := cutS_from t (a + 1)
theorem take1 {c : Nat} {L : List Nat} : S (L.take 1) = S [c] ↔ ∃ l', L = c :: l' := by
  rw [S_inj]
  cases L with
  | nil => simp
  | cons x l => simp
theorem o_open : Str.ofString "(" = S [40] := by decide +kernel
theorem o_close : Str.ofString ")" = S [41] := by decide +kernel
theorem o_zero : Str.ofString "0" = S [48] := by decide +kernel
theorem o_space : Str.ofString " " = S [32] := by decide +kernel
theorem in_let : (fun c => decide (c ∈ (Str.ofString "abcdefghijklmnopqrstuvwxyz").cps.toList)) = isLet := by
  have hL : (Str.ofString "abcdefghijklmnopqrstuvwxyz").cps.toList = [97, 98, 99, 100, 101, 102, 103, 104, 105, 106, 107, 108, 109, 110, 111, 112, 113, 114, 115, 116, 117, 118, 119, 120, 121, 122] := by decide +kernel
  funext c
  rw [hL, isLet]
  apply Bool.eq_iff_iff.2
  simp only [List.mem_cons, List.not_mem_nil, or_false, decide_eq_true_eq]
  omega
theorem in_dig : (fun c => decide (c ∈ (Str.ofString "0123456789").cps.toList)) = isDig := by
  have hL : (Str.ofString "0123456789").cps.toList = [48, 49, 50, 51, 52, 53, 54, 55, 56, 57] := by decide +kernel
  funext c
  rw [hL, isDig]
  apply Bool.eq_iff_iff.2
  simp only [List.mem_cons, List.not_mem_nil, or_false, decide_eq_true_eq]
  omega
theorem int_of_digits {l : List Nat} (h : ∀ c ∈ l, isDig c = true) (h1 : l ≠ []) (h2 : l.length ≤ 640) : intText? (S l) = some ((decv l : Nat) : Int) :=
  PySem.intText_digits (x := S l) (by intro c hc; exact digs h c (by simpa [S] using hc)) (by simpa [S] using h1) (by show (S l).cps.size ≤ _; simp [S]; omega)
theorem S_len (l : List Nat) : (S l).length = l.length := by show (S l).cps.size = _; simp [S]
theorem log_small {i : Nat} (h : i ≤ 100000) : ((i : Int)).natAbs.log2 < 1920 := Nat.lt_of_lt_of_le (PySem.Flt.log2_lt_of (n := (i : Int).natAbs) (by decide : 0 < 100) (by omega)) (by decide)
theorem joinL_one : ∀ l : List Nat, joinL [] (l.map fun c => [c]) = l
  | [] => rfl
  | [x] => rfl
  | x :: y :: r => by
    show [x] ++ ([] ++ joinL [] ((y :: r).map fun c => [c])) = _
    rw [joinL_one (y :: r)]; rfl
theorem join_letters (l : List Nat) : Txt.join "" (l.map fun c => S [c]) = S l := by
  have h : tl (Txt.join "" (l.map fun c => S [c])) = l := by
    rw [join_eq, tl_join, List.map_map]
    exact joinL_one l
  rw [← S_tl (Txt.join "" _), h]
theorem let_at {r : Int} (h0 : 0 ≤ r) (h1 : r < 26) : ∃ c, atI (TL.tl (Str.ofString "abcdefghijklmnopqrstuvwxyz")) r = some c ∧ isLet c = true := by
  have hL : TL.tl (Str.ofString "abcdefghijklmnopqrstuvwxyz") = [97, 98, 99, 100, 101, 102, 103, 104, 105, 106, 107, 108, 109, 110, 111, 112, 113, 114, 115, 116, 117, 118, 119, 120, 121, 122] := by decide +kernel
  obtain ⟨n, rfl⟩ : ∃ n : Nat, r = (n : Int) := ⟨r.toNat, by omega⟩
  rw [hL]
  have hn : n < 26 := by omega
  have hall : ∀ n : Fin 26, isLet ([97, 98, 99, 100, 101, 102, 103, 104, 105, 106, 107, 108, 109, 110, 111, 112, 113, 114, 115, 116, 117, 118, 119, 120, 121, 122][n.1]'n.2) = true := by decide
  exact ⟨_, atI_nat (List.getElem?_eq_getElem hn), hall ⟨n, hn⟩⟩
theorem let_len : (TL.tl (Str.ofString "abcdefghijklmnopqrstuvwxyz")).length ≤ 100000 := by decide +kernel
theorem txts_le {B : Nat} {l : List D} (h : ∀ x ∈ l, (txt x).length ≤ B) : (txts l).length ≤ l.length * B + l.length := by
  have e : ∀ {l : List D}, (∀ x ∈ l, (txt x).length ≤ B) → (txtr l).length ≤ l.length * B + l.length := by
    intro l
    induction l with
    | nil => intro _; rw [txtr]; simp
    | cons x l ih =>
      intro h
      have h1 := h x (by simp)
      have h2 := ih fun y hy => h y (by simp [hy])
      rw [txtr]
      simp only [List.length_cons, List.length_append, Nat.succ_mul]; omega
  cases l with
  | nil => rw [txts]; simp
  | cons x l =>
    have h1 := h x (by simp)
    have h2 := e (l := l) fun y hy => h y (by simp [hy])
    rw [txts]
    simp only [List.length_cons, List.length_append, Nat.succ_mul]; omega
theorem sg_eq {c k : Nat} (s : String) (h : Str.ofString s = S [k]) : ((⟨#[c]⟩ : Str) = Str.ofString s) = (c = k) := by
  rw [h]
  apply propext
  exact ⟨fun q => by have := (S_inj (l := [c]) (m := [k])).1 q; simpa using this, fun q => by rw [q]; rfl⟩
theorem in_let1 (c : Nat) : (c ∈ TL.tl (Str.ofString "abcdefghijklmnopqrstuvwxyz")) = (isLet c = true) := by
  have := congrFun in_let c
  apply propext; rw [← this]; simp
theorem in_dig1 (c : Nat) : (c ∈ TL.tl (Str.ofString "0123456789")) = (isDig c = true) := by
  have := congrFun in_dig c
  apply propext; rw [← this]; simp
theorem in_dig2 (c : Nat) : (c ∈ TL.tl (Str.ofString "123456789")) = (isDig c = true ∧ ¬c = 48) := by
  have hL : TL.tl (Str.ofString "123456789") = [49, 50, 51, 52, 53, 54, 55, 56, 57] := by decide +kernel
  rw [hL]
  apply propext
  simp only [List.mem_cons, List.not_mem_nil, or_false, isDig, decide_eq_true_eq]
  omega
def kName : Kd → Str
  | .item => Str.ofString "item"
  | .opn => Str.ofString "open"
  | .word => Str.ofString "word"
  | .num => Str.ofString "number"
  | .zero => Str.ofString "zero"
  | .done => Str.ofString "done"
theorem kn_item (k : Kd) : (kName k = Str.ofString "item") = (k = .item) := by cases k <;> (apply propext; decide +kernel)
theorem kn_open (k : Kd) : (kName k = Str.ofString "open") = (k = .opn) := by cases k <;> (apply propext; decide +kernel)
theorem kn_word (k : Kd) : (kName k = Str.ofString "word") = (k = .word) := by cases k <;> (apply propext; decide +kernel)
theorem kn_num (k : Kd) : (kName k = Str.ofString "number") = (k = .num) := by cases k <;> (apply propext; decide +kernel)
theorem nx_opn {s s' : MS} {c : Nat} (h : nx s c = some s') : s'.k = .opn → 0 < s'.d := by
  obtain ⟨k, m, d⟩ := s
  intro hk
  unfold nx sepN at h
  dsimp only at h
  repeat' split at h
  all_goals cases h
  all_goals (dsimp only at hk ⊢; first | omega | cases hk)
def faultF (n : Nat) : MS ⊕ List Nat → Int
  | .inr l' => (n : Int) - l'.length
  | .inl s => if s.d = 0 ∧ ¬(s.k = .item ∨ s.k = .opn) then -1 else n
def faultL (L : List Nat) : Int := faultF L.length (run ⟨.item, 0, 0⟩ L)
theorem at_sign {r : Int} (h0 : 0 ≤ r) (h1 : r < 10) : ∃ c, atI (TL.tl (Str.ofString "az09() ,-A")) r = some c := by
  have hL : TL.tl (Str.ofString "az09() ,-A") = [97, 122, 48, 57, 40, 41, 32, 44, 45, 65] := by decide +kernel
  obtain ⟨n, rfl⟩ : ∃ n : Nat, r = (n : Int) := ⟨r.toNat, by omega⟩
  rw [hL]
  exact ⟨_, atI_nat (List.getElem?_eq_getElem (by simp; omega))⟩
theorem sign_len : (TL.tl (Str.ofString "az09() ,-A")).length ≤ 100000 := by decide +kernel
theorem S_app (l m : List Nat) : S l ++ S m = S (l ++ m) := by rw [← S_tl (S l ++ S m), TL.tl_append, tl_S, tl_S]
theorem t_app (t : Str) (m : List Nat) : t ++ S m = S (tl t ++ m) := by rw [← S_tl (t ++ S m), TL.tl_append, tl_S]
/-- where a text goes wrong -/
def BadT (l : List Nat) (b : Nat) : Prop := Bad 1 l (l.drop b) ∨ (b < l.length ∧ ∃ x, Rd 1 l x (l.drop b))
theorem fault_rd {l x} (h : Rd 1 l x []) : faultL l = -1 := by
  obtain ⟨s, e, hs, hd⟩ := h.run (d := 0) rfl (k := .item) (m := 0) (.inl rfl)
  rw [faultL, e]
  show (if s.d = 0 ∧ ¬(s.k = .item ∨ s.k = .opn) then (-1 : Int) else l.length) = -1
  rw [if_pos ⟨hd, fun q => q.elim hs.k.1 hs.k.2⟩]
theorem fault_bad {l b} (hb : b ≤ l.length) (h : BadT l b) : faultL l = b := by
  have fin : faultF l.length (.inr (l.drop b)) = b := by
    show (l.length : Int) - (l.drop b).length = b
    rw [List.length_drop]; omega
  rcases h with h | ⟨hlt, x, h⟩
  · rcases h.run (d := 0) rfl (k := .item) (m := 0) (.inl rfl) with ⟨_, e⟩ | ⟨e0, s, e, hs⟩
    · rw [faultL, e, fin]
    · have : b = l.length := by
        have := congrArg List.length e0
        rw [List.length_drop, List.length_nil] at this; omega
      rw [faultL, e]
      show (if s.d = 0 ∧ ¬(s.k = .item ∨ s.k = .opn) then (-1 : Int) else l.length) = b
      rw [if_neg (fun q => hs.elim (fun z => by omega) q.2), this]
  · obtain ⟨s, e, hs, hd⟩ := h.run (d := 0) rfl (k := .item) (m := 0) (.inl rfl)
    have e1 : l.drop b = l[b] :: l.drop (b + 1) := List.drop_eq_getElem_cons hlt
    have e2 : run s (l.drop b) = .inr (l.drop b) := by
      rw [e1, run, hs.n l[b] _ e1, sepN, if_neg (by omega), if_neg (by omega)]
    rw [faultL, e, e2, fin]
theorem back_rd {d x : D} (h : Tm 30 d) (q : Rd 1 (txt d) x []) : x = d := by
  have := rd_back h (d := 1) (r := []) (t' := x) (l' := []) (by omega) (fun c l e => by cases e) (by rw [List.append_nil]; exact q)
  exact this.1
theorem back_bad {d : D} {b : Nat} (h : Tm 30 d) (q : BadT (txt d) b) : False := by
  rcases q with q | ⟨hlt, x, q⟩
  · exact bad_back h (d := 1) (r := []) (by omega) (fun c l e => by cases e) (by rw [List.append_nil]; exact q)
  · have := rd_back h (d := 1) (r := []) (t' := x) (l' := (txt d).drop b) (by omega) (fun c l e => by cases e) (by rw [List.append_nil]; exact q)
    have := congrArg List.length this.2
    rw [List.length_drop, List.length_nil] at this; omega
theorem plain_path {q : List Int} (h : q.length ≤ 100000) : plainD (.tup (q.map .int)) = true := by
  have e : ∀ q : List Int, plainDs (q.map .int) = true := fun q => by
    induction q with
    | nil => rfl
    | cons x l ih => rw [List.map_cons, plainDs, ih]; rfl
  rw [plainD, e, List.length_map, decide_eq_true h]; rfl
theorem dep_path {q : List Int} : depD (.tup (q.map .int)) ≤ 2 := by
  have e : ∀ q : List Int, depDs (q.map .int) ≤ 1 := fun q => by
    induction q with
    | nil => simp [depDs]
    | cons x l ih => rw [List.map_cons, depDs]; have : depD (.int x) = 1 := by simp [depD]
                     omega
  rw [depD]; have := e q; omega
structure StC (ns : List Int) (c : List D) : Prop where
  ex : ∃ seed idx rest : Int, c = [.int seed, .lst (ns.map .int), .int idx, .int rest] ∧ 0 ≤ seed ∧ seed < 2147483647 ∧ 0 ≤ idx ∧ 0 ≤ rest
end LW
set_option Elab.async false
set_option linter.all false
set_option maxRecDepth 100000
namespace LW
open PySem PySem.Spec L2 DW PyProof.Rows
def topS (i : Nat) : Stmt := PySem.Challenge.pw_choosersrow_k00_term_texts.main.body.getD i (.Pass ⟨0, 0, 0, 0⟩)
local macro_rules | `(tactic| walk_at "wp") => `(tactic| try simp only [u_isE, w_isE, u_kitER, u_kitET, u_excE, u_xf, w_xf1, u_slS, u_raise1, u_iEn, w_listStr, w_lenStr, w_catStr, w_ixStr, w_inStr, w_strE, w_strI, w_strS, u_rest, cut_to, cut_from1, Int.zero_add, u_revT, w_repT, u_tupG, u_try, u_gPlain, u_gThen, u_gNil, u_yield, u_gWhile, u_while, u_isX, u_kitR, u_kitT, u_excOk, w_zipE, u_goalX, u_lc, rngD_len, Int.toNat_natCast, u_for, u_iT, u_iL, u_iR1, u_iR2, u_iZ, u_iS, w_lstE, dwipe, u_asg, u_asgS, u_ret, u_retN, u_if, u_next, u_break, u_cont, u_drop, u_raise, u_aug, u_var, u_c, u_op, u_un, u_test, u_and, u_or, u_not, u_yes, u_andV, u_orV, u_notV, u_ifE, u_chain, u_nil, u_cons, u_tup, u_lst, u_own, u_cb, u_call, u_callS, u_name, u_etup, u_enil, u_econs, u_sub, u_app, u_slT, u_slL, u_noPart, u_part, u_revL, ex_some, w_I0, w_I, w_uI, w_int, w_bl, w_isi, w_someb, w_eqI, w_neI, w_eqS, w_neS, w_lenT, w_lenL, w_lenS, w_tupL, w_tupT, w_ixT, w_ixL, w_ixS, w_catT, w_catL, w_all, w_any, w_min2, w_divmod, w_listS, w_listL, w_listT, w_isN, w_notN, w_tupE, w_intE, w_consE, w_hdE, w_cellS, w_set, at0, at1, at2, at3, i_tT, i_tI, i_tB, i_tS, i_nT, i_nI, i_nB, i_nS, i_iT, i_iI, i_iB, i_iS, i_bT, i_bI, i_bB, i_bS, i_sT, i_sI, i_sB, i_sS, v_itemsS, w_eqB, isNone, dstart, List.map, List.length, List.replicate, List.cons_append, List.nil_append, List.append_nil, List.getElem?_cons_zero, List.getElem?_cons_succ, List.set_cons_zero, List.set_cons_succ, ix40, ix42, ix43, true_implies, false_implies, and_true, true_and, Bool.not_true, Bool.not_false, decide_eq_true_eq, decide_eq_false_iff_not, List.length_map, Nat.reduceAdd, reduceCtorEq, v_ixH, v_items, v_itemsT, v_itemsL, v_len, v_tuple, v_list, v_listOwn, sset_same, sset_sset, Option.some.injEq, Cell.lst.injEq, Cell.frz.injEq, false_and, exists_false, or_false, false_or, exists_eq_left', ne_eq, not_false_eq_true, isTup, Bool.true_eq_false, Bool.false_eq_true])
local macro_rules | `(tactic| walk_at "wh") => `(tactic| try simp only [*, u_seq, u_isE, w_isE, u_kitER, u_kitET, u_excE, u_xf, w_xf1, u_slS, u_raise1, u_iEn, w_listStr, w_lenStr, w_catStr, w_ixStr, w_inStr, w_strE, w_strI, w_strS, u_rest, cut_to, cut_from1, Int.zero_add, u_revT, w_repT, u_tupG, u_try, u_gPlain, u_gThen, u_gNil, u_yield, u_gWhile, u_while, u_isX, u_kitR, u_kitT, u_excOk, w_zipE, u_goalX, u_lc, rngD_len, Int.toNat_natCast, u_for, u_iT, u_iL, u_iR1, u_iR2, u_iZ, u_iS, w_lstE, dwipe, u_asg, u_asgS, u_ret, u_retN, u_if, u_next, u_break, u_cont, u_drop, u_raise, u_aug, u_var, u_c, u_op, u_un, u_test, u_and, u_or, u_not, u_yes, u_andV, u_orV, u_notV, u_ifE, u_chain, u_nil, u_cons, u_tup, u_lst, u_own, u_cb, u_call, u_callS, u_name, u_etup, u_enil, u_econs, u_sub, u_app, u_slT, u_slL, u_noPart, u_part, u_revL, ex_some, w_I0, w_I, w_uI, w_int, w_bl, w_isi, w_someb, w_eqI, w_neI, w_eqS, w_neS, w_lenT, w_lenL, w_lenS, w_tupL, w_tupT, w_ixT, w_ixL, w_ixS, w_catT, w_catL, w_all, w_any, w_min2, w_divmod, w_listS, w_listL, w_listT, w_isN, w_notN, w_tupE, w_intE, w_consE, w_hdE, w_cellS, w_set, at0, at1, at2, at3, i_tT, i_tI, i_tB, i_tS, i_nT, i_nI, i_nB, i_nS, i_iT, i_iI, i_iB, i_iS, i_bT, i_bI, i_bB, i_bS, i_sT, i_sI, i_sB, i_sS, v_itemsS, w_eqB, isNone, dstart, List.map, List.length, List.replicate, List.cons_append, List.nil_append, List.append_nil, List.getElem?_cons_zero, List.getElem?_cons_succ, List.set_cons_zero, List.set_cons_succ, ix40, ix42, ix43, true_implies, false_implies, and_true, true_and, Bool.not_true, Bool.not_false, decide_eq_true_eq, decide_eq_false_iff_not, List.length_map, Nat.reduceAdd, reduceCtorEq, v_ixH, v_items, v_itemsT, v_itemsL, v_len, v_tuple, v_list, v_listOwn, sset_same, sset_sset, Option.some.injEq, Cell.lst.injEq, Cell.frz.injEq, false_and, exists_false, or_false, false_or, exists_eq_left', ne_eq, not_false_eq_true, isTup, Bool.true_eq_false, Bool.false_eq_true])
local macro_rules | `(tactic| walk_at "wps") => `(tactic| try simp only [u_seq, u_isE, w_isE, u_kitER, u_kitET, u_excE, u_xf, w_xf1, u_slS, u_raise1, u_iEn, w_listStr, w_lenStr, w_catStr, w_ixStr, w_inStr, w_strE, w_strI, w_strS, u_rest, cut_to, cut_from1, Int.zero_add, u_revT, w_repT, u_tupG, u_try, u_gPlain, u_gThen, u_gNil, u_yield, u_gWhile, u_while, u_isX, u_kitR, u_kitT, u_excOk, w_zipE, u_goalX, u_lc, rngD_len, Int.toNat_natCast, u_for, u_iT, u_iL, u_iR1, u_iR2, u_iZ, u_iS, w_lstE, dwipe, u_asg, u_asgS, u_ret, u_retN, u_if, u_next, u_break, u_cont, u_drop, u_raise, u_aug, u_var, u_c, u_op, u_un, u_test, u_and, u_or, u_not, u_yes, u_andV, u_orV, u_notV, u_ifE, u_chain, u_nil, u_cons, u_tup, u_lst, u_own, u_cb, u_call, u_callS, u_name, u_etup, u_enil, u_econs, u_sub, u_app, u_slT, u_slL, u_noPart, u_part, u_revL, ex_some, w_I0, w_I, w_uI, w_int, w_bl, w_isi, w_someb, w_eqI, w_neI, w_eqS, w_neS, w_lenT, w_lenL, w_lenS, w_tupL, w_tupT, w_ixT, w_ixL, w_ixS, w_catT, w_catL, w_all, w_any, w_min2, w_divmod, w_listS, w_listL, w_listT, w_isN, w_notN, w_tupE, w_intE, w_consE, w_hdE, w_cellS, w_set, at0, at1, at2, at3, i_tT, i_tI, i_tB, i_tS, i_nT, i_nI, i_nB, i_nS, i_iT, i_iI, i_iB, i_iS, i_bT, i_bI, i_bB, i_bS, i_sT, i_sI, i_sB, i_sS, v_itemsS, w_eqB, isNone, dstart, List.map, List.length, List.replicate, List.cons_append, List.nil_append, List.append_nil, List.getElem?_cons_zero, List.getElem?_cons_succ, List.set_cons_zero, List.set_cons_succ, ix40, ix42, ix43, true_implies, false_implies, and_true, true_and, Bool.not_true, Bool.not_false, decide_eq_true_eq, decide_eq_false_iff_not, List.length_map, Nat.reduceAdd, reduceCtorEq, v_ixH, v_items, v_itemsT, v_itemsL, v_len, v_tuple, v_list, v_listOwn, sset_same, sset_sset, Option.some.injEq, Cell.lst.injEq, Cell.frz.injEq, false_and, exists_false, or_false, false_or, exists_eq_left', ne_eq, not_false_eq_true, isTup, Bool.true_eq_false, Bool.false_eq_true])
abbrev s_is_number : Stmt := topS 11
abbrev N_is_number : List Str := ["value"]
theorem sc_is_number : FnScope N_is_number ["value"] (defScope s_is_number) := ⟨rfl, rfl, rfl, by decide +kernel, rfl, by decide +kernel, by decide +kernel⟩

abbrev s_is_below : Stmt := topS 12
abbrev N_is_below : List Str := ["value", "limit"]
theorem sc_is_below : FnScope N_is_below ["value", "limit"] (defScope s_is_below) := ⟨rfl, rfl, rfl, by decide +kernel, rfl, by decide +kernel, by decide +kernel⟩

abbrev s_is_word : Stmt := topS 13
abbrev N_is_word : List Str := ["value", "letter"]
theorem sc_is_word : FnScope N_is_word ["value"] (defScope s_is_word) := ⟨rfl, rfl, rfl, by decide +kernel, rfl, by decide +kernel, by decide +kernel⟩

abbrev s_wrong_part : Stmt := topS 15
abbrev N_wrong_part : List Str := ["term", "depth", "index", "item", "path"]
theorem sc_wrong_part : FnScope N_wrong_part ["term", "depth"] (defScope s_wrong_part) := ⟨rfl, rfl, rfl, by decide +kernel, rfl, by decide +kernel, by decide +kernel⟩

abbrev s_text_of : Stmt := topS 16
abbrev N_text_of : List Str := ["term", "item"]
theorem sc_text_of : FnScope N_text_of ["term"] (defScope s_text_of) := ⟨rfl, rfl, rfl, by decide +kernel, rfl, by decide +kernel, by decide +kernel⟩

abbrev s_write_term : Stmt := topS 14
abbrev N_write_term : List Str := ["term", "path"]
theorem sc_write_term : FnScope N_write_term ["term"] (defScope s_write_term) := ⟨rfl, rfl, rfl, by decide +kernel, rfl, by decide +kernel, by decide +kernel⟩

abbrev s_run_end : Stmt := topS 19
abbrev N_run_end : List Str := ["text", "start", "signs", "most", "end"]
theorem sc_run_end : FnScope N_run_end ["text", "start", "signs", "most"] (defScope s_run_end) := ⟨rfl, rfl, rfl, by decide +kernel, rfl, by decide +kernel, by decide +kernel⟩

abbrev s_read_part : Stmt := topS 18
abbrev N_read_part : List Str := ["text", "start", "depth", "sign", "end"]
theorem sc_read_part : FnScope N_read_part ["text", "start", "depth"] (defScope s_read_part) := ⟨rfl, rfl, rfl, by decide +kernel, rfl, by decide +kernel, by decide +kernel⟩

abbrev s_read_tuple : Stmt := topS 20
abbrev N_read_tuple : List Str := ["text", "start", "depth", "items", "place", "item", "end"]
theorem sc_read_tuple : FnScope N_read_tuple ["text", "start", "depth"] (defScope s_read_tuple) := ⟨rfl, rfl, rfl, by decide +kernel, rfl, by decide +kernel, by decide +kernel⟩

abbrev s_read_term : Stmt := topS 17
abbrev N_read_term : List Str := ["text", "term", "end"]
theorem sc_read_term : FnScope N_read_term ["text"] (defScope s_read_term) := ⟨rfl, rfl, rfl, by decide +kernel, rfl, by decide +kernel, by decide +kernel⟩

abbrev s__law_start : Stmt := topS 22
abbrev N__law_start : List Str := ["_law_script", "_law_seed", "_law_k"]
theorem sc__law_start : FnScope N__law_start ["_law_script"] (defScope s__law_start) := ⟨rfl, rfl, rfl, by decide +kernel, rfl, by decide +kernel, by decide +kernel⟩

abbrev s__law_pick : Stmt := topS 23
abbrev N__law_pick : List Str := ["_law_state", "_law_limit", "_law_cell", "_law_mixed", "_law_rest"]
theorem sc__law_pick : FnScope N__law_pick ["_law_state", "_law_limit"] (defScope s__law_pick) := ⟨rfl, rfl, rfl, by decide +kernel, rfl, by decide +kernel, by decide +kernel⟩

abbrev s__law_atom : Stmt := topS 24
abbrev N__law_atom : List Str := ["_law_state", "_law_letters", "_law_size", "_law_k"]
theorem sc__law_atom : FnScope N__law_atom ["_law_state"] (defScope s__law_atom) := ⟨rfl, rfl, rfl, by decide +kernel, rfl, by decide +kernel, by decide +kernel⟩

abbrev s__law_term : Stmt := topS 25
abbrev N__law_term : List Str := ["_law_state", "_law_levels", "_law_k"]
theorem sc__law_term : FnScope N__law_term ["_law_state", "_law_levels"] (defScope s__law_term) := ⟨rfl, rfl, rfl, by decide +kernel, rfl, by decide +kernel, by decide +kernel⟩

abbrev s__law_text : Stmt := topS 26
abbrev N__law_text : List Str := ["_law_term_here", "_law_item"]
theorem sc__law_text : FnScope N__law_text ["_law_term_here"] (defScope s__law_text) := ⟨rfl, rfl, rfl, by decide +kernel, rfl, by decide +kernel, by decide +kernel⟩

abbrev s__law_next : Stmt := topS 27
abbrev N__law_next : List Str := ["_law_kind", "_law_many", "_law_depth", "_law_sign", "_law_letters"]
theorem sc__law_next : FnScope N__law_next ["_law_kind", "_law_many", "_law_depth", "_law_sign"] (defScope s__law_next) := ⟨rfl, rfl, rfl, by decide +kernel, rfl, by decide +kernel, by decide +kernel⟩

abbrev s__law_fault : Stmt := topS 28
abbrev N__law_fault : List Str := ["_law_text_here", "_law_place", "_law_k"]
theorem sc__law_fault : FnScope N__law_fault ["_law_text_here"] (defScope s__law_fault) := ⟨rfl, rfl, rfl, by decide +kernel, rfl, by decide +kernel, by decide +kernel⟩

abbrev s__law_spoilt : Stmt := topS 29
abbrev N__law_spoilt : List Str := ["_law_state", "_law_text_here", "_law_signs", "_law_at", "_law_how", "_law_sign"]
theorem sc__law_spoilt : FnScope N__law_spoilt ["_law_state", "_law_text_here"] (defScope s__law_spoilt) := ⟨rfl, rfl, rfl, by decide +kernel, rfl, by decide +kernel, by decide +kernel⟩

abbrev s__law_first_deep : Stmt := topS 30
abbrev N__law_first_deep : List Str := ["_law_term_here", "_law_path", "_law_k", "_law_found"]
theorem sc__law_first_deep : FnScope N__law_first_deep ["_law_term_here", "_law_path"] (defScope s__law_first_deep) := ⟨rfl, rfl, rfl, by decide +kernel, rfl, by decide +kernel, by decide +kernel⟩

abbrev s__law_same : Stmt := topS 31
abbrev N__law_same : List Str := ["_law_actual", "_law_term_here", "_law_k"]
theorem sc__law_same : FnScope N__law_same ["_law_actual", "_law_term_here"] (defScope s__law_same) := ⟨rfl, rfl, rfl, by decide +kernel, rfl, by decide +kernel, by decide +kernel⟩

abbrev s__law_is_term : Stmt := topS 32
abbrev N__law_is_term : List Str := ["_law_actual", "_law_item"]
theorem sc__law_is_term : FnScope N__law_is_term ["_law_actual"] (defScope s__law_is_term) := ⟨rfl, rfl, rfl, by decide +kernel, rfl, by decide +kernel, by decide +kernel⟩

abbrev s__law_read : Stmt := topS 33
abbrev N__law_read : List Str := ["_law_text_here", "e"]
theorem sc__law_read : FnScope N__law_read ["_law_text_here"] (defScope s__law_read) := ⟨rfl, rfl, rfl, by decide +kernel, rfl, by decide +kernel, by decide +kernel⟩

abbrev s__law_deep_path : Stmt := topS 34
abbrev N__law_deep_path : List Str := ["_law_term_here", "e"]
theorem sc__law_deep_path : FnScope N__law_deep_path ["_law_term_here"] (defScope s__law_deep_path) := ⟨rfl, rfl, rfl, by decide +kernel, rfl, by decide +kernel, by decide +kernel⟩

abbrev s_law : Stmt := topS 35
abbrev N_law : List Str := ["_law_script", "_law_state", "_law_term_here", "_law_deep", "_law_text_here", "_law_spoilt_here", "_law_fault_here", "_law_actual", "_law_k"]
theorem sc_law : FnScope N_law ["_law_script"] (defScope s_law) := ⟨rfl, rfl, rfl, by decide +kernel, rfl, by decide +kernel, by decide +kernel⟩

structure Txt (P : Program) (K : Fg) (mg : Str → Option Value) where
  f_is_number : Addr
  d_is_number : FuncData
  F_is_number : Fun K "is_number" "is_number" s_is_number f_is_number d_is_number
  g_is_number : mg "is_number" = some (.ref f_is_number)
  b_is_number : Binds K d_is_number ["value"] []
  f_is_below : Addr
  d_is_below : FuncData
  F_is_below : Fun K "is_below" "is_below" s_is_below f_is_below d_is_below
  g_is_below : mg "is_below" = some (.ref f_is_below)
  b_is_below : Binds K d_is_below ["value", "limit"] []
  f_is_word : Addr
  d_is_word : FuncData
  F_is_word : Fun K "is_word" "is_word" s_is_word f_is_word d_is_word
  g_is_word : mg "is_word" = some (.ref f_is_word)
  b_is_word : Binds K d_is_word ["value"] []
  f_wrong_part : Addr
  d_wrong_part : FuncData
  F_wrong_part : Fun K "wrong_part" "wrong_part" s_wrong_part f_wrong_part d_wrong_part
  g_wrong_part : mg "wrong_part" = some (.ref f_wrong_part)
  b_wrong_part : Binds K d_wrong_part ["term", "depth"] []
  f_text_of : Addr
  d_text_of : FuncData
  F_text_of : Fun K "text_of" "text_of" s_text_of f_text_of d_text_of
  g_text_of : mg "text_of" = some (.ref f_text_of)
  b_text_of : Binds K d_text_of ["term"] []
  f_write_term : Addr
  d_write_term : FuncData
  F_write_term : Fun K "write_term" "write_term" s_write_term f_write_term d_write_term
  g_write_term : mg "write_term" = some (.ref f_write_term)
  b_write_term : Binds K d_write_term ["term"] []
  f_run_end : Addr
  d_run_end : FuncData
  F_run_end : Fun K "run_end" "run_end" s_run_end f_run_end d_run_end
  g_run_end : mg "run_end" = some (.ref f_run_end)
  b_run_end : Binds K d_run_end ["text", "start", "signs", "most"] []
  f_read_part : Addr
  d_read_part : FuncData
  F_read_part : Fun K "read_part" "read_part" s_read_part f_read_part d_read_part
  g_read_part : mg "read_part" = some (.ref f_read_part)
  b_read_part : Binds K d_read_part ["text", "start", "depth"] []
  f_read_tuple : Addr
  d_read_tuple : FuncData
  F_read_tuple : Fun K "read_tuple" "read_tuple" s_read_tuple f_read_tuple d_read_tuple
  g_read_tuple : mg "read_tuple" = some (.ref f_read_tuple)
  b_read_tuple : Binds K d_read_tuple ["text", "start", "depth"] []
  f_read_term : Addr
  d_read_term : FuncData
  F_read_term : Fun K "read_term" "read_term" s_read_term f_read_term d_read_term
  g_read_term : mg "read_term" = some (.ref f_read_term)
  b_read_term : Binds K d_read_term ["text"] []
  f__law_start : Addr
  d__law_start : FuncData
  F__law_start : Fun K "_law_start" "_law_start" s__law_start f__law_start d__law_start
  g__law_start : mg "_law_start" = some (.ref f__law_start)
  b__law_start : Binds K d__law_start ["_law_script"] []
  f__law_pick : Addr
  d__law_pick : FuncData
  F__law_pick : Fun K "_law_pick" "_law_pick" s__law_pick f__law_pick d__law_pick
  g__law_pick : mg "_law_pick" = some (.ref f__law_pick)
  b__law_pick : Binds K d__law_pick ["_law_state", "_law_limit"] []
  f__law_atom : Addr
  d__law_atom : FuncData
  F__law_atom : Fun K "_law_atom" "_law_atom" s__law_atom f__law_atom d__law_atom
  g__law_atom : mg "_law_atom" = some (.ref f__law_atom)
  b__law_atom : Binds K d__law_atom ["_law_state"] []
  f__law_term : Addr
  d__law_term : FuncData
  F__law_term : Fun K "_law_term" "_law_term" s__law_term f__law_term d__law_term
  g__law_term : mg "_law_term" = some (.ref f__law_term)
  b__law_term : Binds K d__law_term ["_law_state", "_law_levels"] []
  f__law_text : Addr
  d__law_text : FuncData
  F__law_text : Fun K "_law_text" "_law_text" s__law_text f__law_text d__law_text
  g__law_text : mg "_law_text" = some (.ref f__law_text)
  b__law_text : Binds K d__law_text ["_law_term_here"] []
  f__law_next : Addr
  d__law_next : FuncData
  F__law_next : Fun K "_law_next" "_law_next" s__law_next f__law_next d__law_next
  g__law_next : mg "_law_next" = some (.ref f__law_next)
  b__law_next : Binds K d__law_next ["_law_kind", "_law_many", "_law_depth", "_law_sign"] []
  f__law_fault : Addr
  d__law_fault : FuncData
  F__law_fault : Fun K "_law_fault" "_law_fault" s__law_fault f__law_fault d__law_fault
  g__law_fault : mg "_law_fault" = some (.ref f__law_fault)
  b__law_fault : Binds K d__law_fault ["_law_text_here"] []
  f__law_spoilt : Addr
  d__law_spoilt : FuncData
  F__law_spoilt : Fun K "_law_spoilt" "_law_spoilt" s__law_spoilt f__law_spoilt d__law_spoilt
  g__law_spoilt : mg "_law_spoilt" = some (.ref f__law_spoilt)
  b__law_spoilt : Binds K d__law_spoilt ["_law_state", "_law_text_here"] []
  f__law_first_deep : Addr
  d__law_first_deep : FuncData
  F__law_first_deep : Fun K "_law_first_deep" "_law_first_deep" s__law_first_deep f__law_first_deep d__law_first_deep
  g__law_first_deep : mg "_law_first_deep" = some (.ref f__law_first_deep)
  b__law_first_deep : Binds K d__law_first_deep ["_law_term_here", "_law_path"] []
  f__law_same : Addr
  d__law_same : FuncData
  F__law_same : Fun K "_law_same" "_law_same" s__law_same f__law_same d__law_same
  g__law_same : mg "_law_same" = some (.ref f__law_same)
  b__law_same : Binds K d__law_same ["_law_actual", "_law_term_here"] []
  f__law_is_term : Addr
  d__law_is_term : FuncData
  F__law_is_term : Fun K "_law_is_term" "_law_is_term" s__law_is_term f__law_is_term d__law_is_term
  g__law_is_term : mg "_law_is_term" = some (.ref f__law_is_term)
  b__law_is_term : Binds K d__law_is_term ["_law_actual"] []
  f__law_read : Addr
  d__law_read : FuncData
  F__law_read : Fun K "_law_read" "_law_read" s__law_read f__law_read d__law_read
  g__law_read : mg "_law_read" = some (.ref f__law_read)
  b__law_read : Binds K d__law_read ["_law_text_here"] []
  f__law_deep_path : Addr
  d__law_deep_path : FuncData
  F__law_deep_path : Fun K "_law_deep_path" "_law_deep_path" s__law_deep_path f__law_deep_path d__law_deep_path
  g__law_deep_path : mg "_law_deep_path" = some (.ref f__law_deep_path)
  b__law_deep_path : Binds K d__law_deep_path ["_law_term_here"] []
  f_law : Addr
  d_law : FuncData
  F_law : Fun K "law" "law" s_law f_law d_law
  g_law : mg "law" = some (.ref f_law)
  b_law : Binds K d_law ["_law_script"] []
  z_isinstance : mg "isinstance" = none
  z_int : mg "int" = none
  z_bool : mg "bool" = none
  z_all : mg "all" = none
  z_str : mg "str" = none
  z_len : mg "len" = none
  z_enumerate : mg "enumerate" = none
  z_tuple : mg "tuple" = none
  z_range : mg "range" = none
  z_list : mg "list" = none
  z_ValueError : mg "ValueError" = none
  g_LETTERS : ∃ t, mg "LETTERS" = some (.str "abcdefghijklmnopqrstuvwxyz" t)
  g_DIGITS : ∃ t, mg "DIGITS" = some (.str "0123456789" t)
  g_LONGEST_WORD : ∃ t, mg "LONGEST_WORD" = some (.int 12 t)
  g_LONGEST_NUMBER : ∃ t, mg "LONGEST_NUMBER" = some (.int 9 t)
  g_NUMBERS_END : ∃ t, mg "NUMBERS_END" = some (.int 1000000000 t)
  g_DEEPEST_TUPLE : ∃ t, mg "DEEPEST_TUPLE" = some (.int 30 t)
  c_InvalidTerm : Addr
  g_InvalidTerm : mg "InvalidTerm" = some (.ref c_InvalidTerm)
  c_InvalidText : Addr
  g_InvalidText : mg "InvalidText" = some (.ref c_InvalidText)
  c_ChoosersError : Addr
  g_ChoosersError : mg "ChoosersError" = some (.ref c_ChoosersError)
  fi_InvalidTerm : Addr
  di_InvalidTerm : FuncData
  ox_InvalidTerm : OexC K c_InvalidTerm
  ic_InvalidTerm : PySem.W.findIn K (.ref c_InvalidTerm) "__init__" = some (some (.ref fi_InvalidTerm))
  ti_InvalidTerm : PySem.W.typeIn K (.ref fi_InvalidTerm) = some (.type "function")
  no_InvalidTerm : PySem.W.findIn K (.ref c_InvalidTerm) "path" = some none
  xf_InvalidTerm : XfC K c_InvalidTerm
  ec_InvalidTerm : L2.ExcC K c_InvalidTerm
  in_InvalidTerm : ∀ {w : World} {base : Heap} {cx : CXT}, FnOk P w K mg base cx 1 fi_InvalidTerm di_InvalidTerm ["self", "path"] (spInit K c_InvalidTerm "path" (okPath K))
  bi_InvalidTerm : Binds K di_InvalidTerm ["self", "path"] []
  i_InvalidTerm_InvalidTerm : PySem.W.kitOne K (.ref c_InvalidTerm) (.ref c_InvalidTerm) = some true
  i_InvalidTerm_ChoosersError : PySem.W.kitOne K (.ref c_InvalidTerm) (.ref c_ChoosersError) = some true
  i_InvalidTerm_ValueError : PySem.W.kitOne K (.ref c_InvalidTerm) (.type "ValueError") = some true
  m_InvalidTerm_InvalidText : PySem.W.exmOne K (.ref c_InvalidTerm) (.ref c_InvalidText) = some false
  m_InvalidTerm_ChoosersError : PySem.W.exmOne K (.ref c_InvalidTerm) (.ref c_ChoosersError) = some true
  fi_InvalidText : Addr
  di_InvalidText : FuncData
  ox_InvalidText : OexC K c_InvalidText
  ic_InvalidText : PySem.W.findIn K (.ref c_InvalidText) "__init__" = some (some (.ref fi_InvalidText))
  ti_InvalidText : PySem.W.typeIn K (.ref fi_InvalidText) = some (.type "function")
  no_InvalidText : PySem.W.findIn K (.ref c_InvalidText) "position" = some none
  xf_InvalidText : XfC K c_InvalidText
  ec_InvalidText : L2.ExcC K c_InvalidText
  in_InvalidText : ∀ {w : World} {base : Heap} {cx : CXT}, FnOk P w K mg base cx 1 fi_InvalidText di_InvalidText ["self", "position"] (spInit K c_InvalidText "position" okInt)
  bi_InvalidText : Binds K di_InvalidText ["self", "position"] []
  i_InvalidText_InvalidTerm : PySem.W.kitOne K (.ref c_InvalidText) (.ref c_InvalidTerm) = some false
  i_InvalidText_ChoosersError : PySem.W.kitOne K (.ref c_InvalidText) (.ref c_ChoosersError) = some true
  i_InvalidText_ValueError : PySem.W.kitOne K (.ref c_InvalidText) (.type "ValueError") = some true
  m_InvalidText_InvalidText : PySem.W.exmOne K (.ref c_InvalidText) (.ref c_InvalidText) = some true
  m_InvalidText_ChoosersError : PySem.W.exmOne K (.ref c_InvalidText) (.ref c_ChoosersError) = some true

section
variable {P : Program} {w : World} {K : Fg} {mg : Str → Option Value} {base : Heap}
theorem range_map {α β : Type} {f : α → β} {d : α} {l : List α} : (List.range l.length).map (fun i => f (l.getD i d)) = l.map f := by
  apply List.ext_getElem
  · simp
  · intro i h1 h2
    simp at h1
    simp [List.getD_eq_getElem?_getD, List.getElem?_eq_getElem h1]
inductive TD : D → Prop
  | int (i : Int) : TD (.int i)
  | str (s : Str) (h : (TL.tl s).length ≤ 100000) : TD (.str s)
  | tup (l : List D) : TD (.tup l)
def isN : D → Bool
  | .int _ => true
  | _ => false
def isB (m : Int) : D → Bool
  | .int i => decide (0 ≤ i ∧ i < m)
  | _ => false
def isW : D → Bool
  | .str s => decide (1 ≤ (TL.tl s).length ∧ (TL.tl s).length ≤ 12) && (TL.tl s).all isLet
  | _ => false
def c_is_number : Con := fun ds μ Φ _ => ∃ d, ds = [d] ∧ TD d ∧ Φ (.bl (isN d)) μ
theorem len_is_number {ds μ Φ Ψ} (h : c_is_number ds μ Φ Ψ) : ds.length = 1 := by obtain ⟨i, rfl, _⟩ := h; rfl
theorem ok_is_number {cx : CXT} (T : Txt P K mg) : FnOk P w K mg base cx 1 T.f_is_number T.d_is_number ["value"] (spOf K c_is_number) := by
  refine def_okC T.F_is_number sc_is_number _ (fun ds μ Φ Ψ h => len_is_number h) (fun cdv A outer s H E B hW hr =>
    ⟨_, (pss_one (ps_ret (pe_and (pe_callB call_isi (by rfl) T.z_isinstance (by decide +kernel) (pa_cons (pv 0) (pa_cons (pe_bltn (v := .ty "int") rfl T.z_int (by decide +kernel) rfl) pa_nil))) (pe_one (pe_not (pe_callB call_isi (by rfl) T.z_isinstance (by decide +kernel) (pa_cons (pv 0) (pa_cons (pe_bltn (v := .ty "bool") rfl T.z_bool (by decide +kernel) rfl) pa_nil)))))))),
      (sRet (sAndV (sCB (rcIsi (T := "int")) (sCons sVar (sCons sHd sNil))) (sNotV (sCB (rcIsi (T := "bool")) (sCons sVar (sCons sHd sNil))))))⟩) (fun ds μ Φ Ψ h => ?hv)
  case hv =>
    obtain ⟨d, rfl, hd, h⟩ := h
    cases hd <;> (walk_at "wps"; exact ret_same h)

def c_is_below : Con := fun ds μ Φ _ => ∃ d m, ds = [d, .int m] ∧ TD d ∧ Φ (.bl (isB m d)) μ
theorem len_is_below {ds μ Φ Ψ} (h : c_is_below ds μ Φ Ψ) : ds.length = 2 := by obtain ⟨i, m, rfl, _⟩ := h; rfl
theorem ok_is_below (T : Txt P K mg) : FnOk P w K mg base (L2N.CX P w) 2 T.f_is_below T.d_is_below ["value", "limit"] (spOf K c_is_below) := by
  refine def_okC T.F_is_below sc_is_below _ (fun ds μ Φ Ψ h => len_is_below h) (fun cdv A outer s H E B hW hr =>
    have tk : L2N.Takes (cxOf (L2N.CX P w) P w K mg base N_is_below "is_below" (defScope s_is_below) T.f_is_below cdv A outer s H E) (fun cls d _ H => E cls d H) := L2N.takes_of rfl rfl rfl rfl
    ⟨_, (pss_one (ps_ret (pe_and (pe_call (ok_is_number T) hr rfl T.g_is_number T.F_is_number.kp T.b_is_number .nil passN (pa_cons (pv 0) pa_nil)) (pe_one (pe_chain op_le op_lt pe_int (pv 0) (pv 1)))))),
      (sRet (sAndV (sCall (sCons sVar sNil)) (sChain roBl0 roBl0 sInt sVar sVar)))⟩) (fun ds μ Φ Ψ h => ?hv)
  case hv =>
    obtain ⟨d, m, rfl, hd, h⟩ := h
    walk_at "wps"
    refine ⟨_, rfl, hd, ?_⟩
    cases hd <;> (simp only [isN]; walk_at "wps"; try exact ret_same h)
    refine ⟨fun h1 => ret_same ?_, fun h1 => ret_same ?_⟩
    · simpa [isB, h1] using h
    · simpa [isB, h1] using h

def c_is_word : Con := fun ds μ Φ _ => ∃ d, ds = [d] ∧ TD d ∧ Φ (.bl (isW d)) μ
theorem len_is_word {ds μ Φ Ψ} (h : c_is_word ds μ Φ Ψ) : ds.length = 1 := by obtain ⟨i, rfl, _⟩ := h; rfl
theorem ok_is_word {cx : CXT} (T : Txt P K mg) : FnOk P w K mg base cx 1 T.f_is_word T.d_is_word ["value"] (spOf K c_is_word) := by
  refine def_okC T.F_is_word sc_is_word _ (fun ds μ Φ Ψ h => len_is_word h) (fun cdv A outer s H E B hW hr =>
    ⟨_, (pss_cons (ps_if (PW.pt (pw_or (pt_not (pt_val (pe_callB call_isi (by rfl) T.z_isinstance (by decide +kernel) (pa_cons (pv 0) (pa_cons (pe_bltn (v := .ty "str") rfl T.z_str (by decide +kernel) rfl) pa_nil))))) (pw_or1 (pt_not (pt_chain op_le op_le pe_int (pe_callB call_len_str (by rfl) T.z_len PySem.boot_len (pa_cons (pv 0) pa_nil)) (pe_glob (v := .int 12) rfl T.g_LONGEST_WORD.choose_spec ⟨_, rfl⟩)))))) (pss_one (ps_ret pe_bl)) pss_nil)
      (pss_one (ps_ret (pe_callB (cr_all rfl) (by rfl) T.z_all (by decide +kernel) (pa_cons (pe_lc (own := [("letter", 1)]) rfl sc_is_word.nd (pi_str (pv 0)) (blkOk_by (N := N_is_word) (sc := defScope s_is_word) (by decide +kernel)) (fun _ _ _ _ _ => (pg_name (i := 1) sc_is_word.nd rfl (Or.inl rfl))) (fun _ _ _ _ _ => pts_nil) (fun _ _ _ _ _ => (pe_cmpR op_in_sign (pv 1) (pe_glob (v := .str "abcdefghijklmnopqrstuvwxyz") rfl T.g_LETTERS.choose_spec ⟨_, rfl⟩) (by with_unfolding_all rfl)))) pa_nil))))),
      (sSeq (sIfS (sOr (sNot (sB (sCB (rcIsi (T := "str")) (sCons sVar (sCons sHd sNil))))) (sNot (sTest (sChain roBl0 roBl0 sInt (sCB rcLenStr (sCons sVar sNil)) sInt)))) (sRet sBl) sNext)
      (sRet (sCB rcAll (sCons (sLc (siText sVar) (gwName List.mem_cons_self) (fun _ _ _ => sName) (fun _ _ _ => sYes) (fun _ _ _ => (sOp roInS sVar sStr))) sNil))))⟩) (fun ds μ Φ Ψ h => ?hv)
  case hv =>
    obtain ⟨d, rfl, hd, h⟩ := h
    cases hd with
    | int i => walk_at "wps"; exact ret_same h
    | tup l => walk_at "wps"; exact ret_same h
    | str s hz =>
      have hL : (Str.ofString "abcdefghijklmnopqrstuvwxyz").cps.toList = [97, 98, 99, 100, 101, 102, 103, 104, 105, 106, 107, 108, 109, 110, 111, 112, 113, 114, 115, 116, 117, 118, 119, 120, 121, 122] := by decide +kernel
      walk_at "wps"
      refine ⟨hz, fun h1 => ⟨fun h2 => ret_same ?_, fun h2 => ?_⟩, fun h1 => ret_same ?_⟩
      · have h5 : isW (.str s) = false := by
          simp only [Bool.not_eq_true', decide_eq_false_iff_not] at h2
          simp only [isW]; rw [decide_eq_false (by omega)]; rfl
        rw [h5] at h; exact h
      · have h3 : (TL.tl s).length ≤ 12 := by simp only [Bool.not_eq_false', decide_eq_true_eq] at h2; omega
        have h4 : 1 ≤ (TL.tl s).length := by omega
        have hl : (List.map (fun c => D.str { cps := #[c] }) s.cps.toList).length = (TL.tl s).length := List.length_map ..
        refine lcG_mapN (fun i => .bl (isLet ((TL.tl s).getD i 0))) (by rw [hl]; exact hz) (fun i d μ2 X hi hsub hx => ?_) ?_
        · rw [List.getElem?_map, Option.map_eq_some_iff] at hi
          obtain ⟨c, hc, rfl⟩ := hi
          walk_at "wps"
          have : (TL.tl s).getD i 0 = c := by rw [List.getD_eq_getElem?_getD]; show (s.cps.toList[i]?).getD 0 = c; rw [hc]; rfl
          rw [this] at hx
          have e : decide (c ∈ TL.tl (Str.ofString "abcdefghijklmnopqrstuvwxyz")) = isLet c := by
            show decide (c ∈ (Str.ofString "abcdefghijklmnopqrstuvwxyz").cps.toList) = _
            rw [hL, isLet]
            apply Bool.eq_iff_iff.2
            simp only [List.mem_cons, List.not_mem_nil, or_false, decide_eq_true_eq]
            omega
          rw [e]
          exact hx
        · rw [hl]
          refine w_allB (P := (TL.tl s).map isLet) (range_map (f := fun c => D.bl (isLet c)) (d := 0) |>.trans (by rw [List.map_map]; rfl)) (ret_same ?_)
          have : ((TL.tl s).map isLet).all id = (TL.tl s).all isLet := by rw [List.all_map]; rfl
          rw [this]
          have h5 : isW (.str s) = (TL.tl s).all isLet := by simp only [isW]; rw [decide_eq_true ⟨h4, h3⟩]; rfl
          rw [h5] at h; exact h
      · have h5 : isW (.str s) = false := by simp only [isW]; rw [decide_eq_false (by omega)]; rfl
        rw [h5] at h; exact h

end
end LW
set_option Elab.async false
set_option linter.all false
set_option maxRecDepth 100000
namespace LW
open PySem PySem.Spec L2 DW PyProof.Rows
local macro_rules | `(tactic| walk_at "wp") => `(tactic| try simp only [u_isE, w_isE, u_kitER, u_kitET, u_excE, u_xf, w_xf1, u_slS, u_raise1, u_iEn, w_listStr, w_lenStr, w_catStr, w_ixStr, w_inStr, w_strE, w_strI, w_strS, u_rest, cut_to, cut_from1, Int.zero_add, u_revT, w_repT, u_tupG, u_try, u_gPlain, u_gThen, u_gNil, u_yield, u_gWhile, u_while, u_isX, u_kitR, u_kitT, u_excOk, w_zipE, u_goalX, u_lc, rngD_len, Int.toNat_natCast, u_for, u_iT, u_iL, u_iR1, u_iR2, u_iZ, u_iS, w_lstE, dwipe, u_asg, u_asgS, u_ret, u_retN, u_if, u_next, u_break, u_cont, u_drop, u_raise, u_aug, u_var, u_c, u_op, u_un, u_test, u_and, u_or, u_not, u_yes, u_andV, u_orV, u_notV, u_ifE, u_chain, u_nil, u_cons, u_tup, u_lst, u_own, u_cb, u_call, u_callS, u_name, u_etup, u_enil, u_econs, u_sub, u_app, u_slT, u_slL, u_noPart, u_part, u_revL, ex_some, w_I0, w_I, w_uI, w_int, w_bl, w_isi, w_someb, w_eqI, w_neI, w_eqS, w_neS, w_lenT, w_lenL, w_lenS, w_tupL, w_tupT, w_ixT, w_ixL, w_ixS, w_catT, w_catL, w_all, w_any, w_min2, w_divmod, w_listS, w_listL, w_listT, w_isN, w_notN, w_tupE, w_intE, w_consE, w_hdE, w_cellS, w_set, at0, at1, at2, at3, i_tT, i_tI, i_tB, i_tS, i_nT, i_nI, i_nB, i_nS, i_iT, i_iI, i_iB, i_iS, i_bT, i_bI, i_bB, i_bS, i_sT, i_sI, i_sB, i_sS, v_itemsS, w_eqB, isNone, dstart, List.map, List.length, List.replicate, List.cons_append, List.nil_append, List.append_nil, List.getElem?_cons_zero, List.getElem?_cons_succ, List.set_cons_zero, List.set_cons_succ, ix40, ix42, ix43, true_implies, false_implies, and_true, true_and, Bool.not_true, Bool.not_false, decide_eq_true_eq, decide_eq_false_iff_not, List.length_map, Nat.reduceAdd, reduceCtorEq, v_ixH, v_items, v_itemsT, v_itemsL, v_len, v_tuple, v_list, v_listOwn, sset_same, sset_sset, Option.some.injEq, Cell.lst.injEq, Cell.frz.injEq, false_and, exists_false, or_false, false_or, exists_eq_left', ne_eq, not_false_eq_true, isTup, Bool.true_eq_false, Bool.false_eq_true])
local macro_rules | `(tactic| walk_at "wh") => `(tactic| try simp only [*, u_seq, u_isE, w_isE, u_kitER, u_kitET, u_excE, u_xf, w_xf1, u_slS, u_raise1, u_iEn, w_listStr, w_lenStr, w_catStr, w_ixStr, w_inStr, w_strE, w_strI, w_strS, u_rest, cut_to, cut_from1, Int.zero_add, u_revT, w_repT, u_tupG, u_try, u_gPlain, u_gThen, u_gNil, u_yield, u_gWhile, u_while, u_isX, u_kitR, u_kitT, u_excOk, w_zipE, u_goalX, u_lc, rngD_len, Int.toNat_natCast, u_for, u_iT, u_iL, u_iR1, u_iR2, u_iZ, u_iS, w_lstE, dwipe, u_asg, u_asgS, u_ret, u_retN, u_if, u_next, u_break, u_cont, u_drop, u_raise, u_aug, u_var, u_c, u_op, u_un, u_test, u_and, u_or, u_not, u_yes, u_andV, u_orV, u_notV, u_ifE, u_chain, u_nil, u_cons, u_tup, u_lst, u_own, u_cb, u_call, u_callS, u_name, u_etup, u_enil, u_econs, u_sub, u_app, u_slT, u_slL, u_noPart, u_part, u_revL, ex_some, w_I0, w_I, w_uI, w_int, w_bl, w_isi, w_someb, w_eqI, w_neI, w_eqS, w_neS, w_lenT, w_lenL, w_lenS, w_tupL, w_tupT, w_ixT, w_ixL, w_ixS, w_catT, w_catL, w_all, w_any, w_min2, w_divmod, w_listS, w_listL, w_listT, w_isN, w_notN, w_tupE, w_intE, w_consE, w_hdE, w_cellS, w_set, at0, at1, at2, at3, i_tT, i_tI, i_tB, i_tS, i_nT, i_nI, i_nB, i_nS, i_iT, i_iI, i_iB, i_iS, i_bT, i_bI, i_bB, i_bS, i_sT, i_sI, i_sB, i_sS, v_itemsS, w_eqB, isNone, dstart, List.map, List.length, List.replicate, List.cons_append, List.nil_append, List.append_nil, List.getElem?_cons_zero, List.getElem?_cons_succ, List.set_cons_zero, List.set_cons_succ, ix40, ix42, ix43, true_implies, false_implies, and_true, true_and, Bool.not_true, Bool.not_false, decide_eq_true_eq, decide_eq_false_iff_not, List.length_map, Nat.reduceAdd, reduceCtorEq, v_ixH, v_items, v_itemsT, v_itemsL, v_len, v_tuple, v_list, v_listOwn, sset_same, sset_sset, Option.some.injEq, Cell.lst.injEq, Cell.frz.injEq, false_and, exists_false, or_false, false_or, exists_eq_left', ne_eq, not_false_eq_true, isTup, Bool.true_eq_false, Bool.false_eq_true])
local macro_rules | `(tactic| walk_at "wps") => `(tactic| try simp only [u_seq, u_isE, w_isE, u_kitER, u_kitET, u_excE, u_xf, w_xf1, u_slS, u_raise1, u_iEn, w_listStr, w_lenStr, w_catStr, w_ixStr, w_inStr, w_strE, w_strI, w_strS, u_rest, cut_to, cut_from1, Int.zero_add, u_revT, w_repT, u_tupG, u_try, u_gPlain, u_gThen, u_gNil, u_yield, u_gWhile, u_while, u_isX, u_kitR, u_kitT, u_excOk, w_zipE, u_goalX, u_lc, rngD_len, Int.toNat_natCast, u_for, u_iT, u_iL, u_iR1, u_iR2, u_iZ, u_iS, w_lstE, dwipe, u_asg, u_asgS, u_ret, u_retN, u_if, u_next, u_break, u_cont, u_drop, u_raise, u_aug, u_var, u_c, u_op, u_un, u_test, u_and, u_or, u_not, u_yes, u_andV, u_orV, u_notV, u_ifE, u_chain, u_nil, u_cons, u_tup, u_lst, u_own, u_cb, u_call, u_callS, u_name, u_etup, u_enil, u_econs, u_sub, u_app, u_slT, u_slL, u_noPart, u_part, u_revL, ex_some, w_I0, w_I, w_uI, w_int, w_bl, w_isi, w_someb, w_eqI, w_neI, w_eqS, w_neS, w_lenT, w_lenL, w_lenS, w_tupL, w_tupT, w_ixT, w_ixL, w_ixS, w_catT, w_catL, w_all, w_any, w_min2, w_divmod, w_listS, w_listL, w_listT, w_isN, w_notN, w_tupE, w_intE, w_consE, w_hdE, w_cellS, w_set, at0, at1, at2, at3, i_tT, i_tI, i_tB, i_tS, i_nT, i_nI, i_nB, i_nS, i_iT, i_iI, i_iB, i_iS, i_bT, i_bI, i_bB, i_bS, i_sT, i_sI, i_sB, i_sS, v_itemsS, w_eqB, isNone, dstart, List.map, List.length, List.replicate, List.cons_append, List.nil_append, List.append_nil, List.getElem?_cons_zero, List.getElem?_cons_succ, List.set_cons_zero, List.set_cons_succ, ix40, ix42, ix43, true_implies, false_implies, and_true, true_and, Bool.not_true, Bool.not_false, decide_eq_true_eq, decide_eq_false_iff_not, List.length_map, Nat.reduceAdd, reduceCtorEq, v_ixH, v_items, v_itemsT, v_itemsL, v_len, v_tuple, v_list, v_listOwn, sset_same, sset_sset, Option.some.injEq, Cell.lst.injEq, Cell.frz.injEq, false_and, exists_false, or_false, false_or, exists_eq_left', ne_eq, not_false_eq_true, isTup, Bool.true_eq_false, Bool.false_eq_true])
section
variable {P : Program} {w : World} {K : Fg} {mg : Str → Option Value} {base : Heap}
def pthD : Option (List Int) → D
  | none => .non
  | some p => .tup (p.map .int)
def c_wrong_part : Nat → Con := fun n ds μ Φ _ => ∃ (k : Nat) (d : D) (e : Nat), k < n ∧ ds = [d, .int e] ∧ Tm k d ∧ 1 ≤ e ∧ e ≤ 31 ∧ Φ (pthD (fdp (31 - e) d)) μ
theorem len_wrong_part {n ds μ Φ Ψ} (h : c_wrong_part n ds μ Φ Ψ) : ds.length = 2 := by obtain ⟨_, _, _, _, rfl, _⟩ := h; rfl
theorem step_wrong_part (T : Txt P K mg) {k : Nat} (hk : 2 ≤ k) (n : Nat) (ih_wrong_part : FnOk P w K mg base (L2N.CX P w) k T.f_wrong_part T.d_wrong_part ["term", "depth"] (spOf K (c_wrong_part n))) : FnOk P w K mg base (L2N.CX P w) (k + 1) T.f_wrong_part T.d_wrong_part ["term", "depth"] (spOf K (c_wrong_part (n + 1))) := by
  refine def_okC T.F_wrong_part sc_wrong_part _ (fun ds μ Φ Ψ h => len_wrong_part h) (fun cdv A outer s H E B hW hr =>
    have tk : L2N.Takes (cxOf (L2N.CX P w) P w K mg base N_wrong_part "wrong_part" (defScope s_wrong_part) T.f_wrong_part cdv A outer s H E) (fun cls d _ H => E cls d H) := L2N.takes_of rfl rfl rfl rfl
    ⟨_, (pss_cons (ps_if (pt_not (pt_val (pe_callB call_isi (by rfl) T.z_isinstance (by decide +kernel) (pa_cons (pv 0) (pa_cons (pe_bltn (v := .ty "tuple") rfl T.z_tuple (by decide +kernel) rfl) pa_nil))))) (pss_one (ps_ret (pe_ifExp (PW.pt (pw_or (pt_val (pe_call (ok_is_word T) (hr.mono (by omega)) rfl T.g_is_word T.F_is_word.kp T.b_is_word .nil passN (pa_cons (pv 0) pa_nil))) (pw_or1 (pt_val (pe_call (ok_is_below T) (hr.mono (by omega)) rfl T.g_is_below T.F_is_below.kp T.b_is_below .nil passN (pa_cons (pv 0) (pa_cons (pe_glob (v := .int 1000000000) rfl T.g_NUMBERS_END.choose_spec ⟨_, rfl⟩) pa_nil))))))) pe_non (pe_tup pa_nil)))) pss_nil)
      (pss_cons (ps_if (pt_cmpR op_gt (pv 1) (pe_glob (v := .int 30) rfl T.g_DEEPEST_TUPLE.choose_spec ⟨_, rfl⟩) (nomark _)) (pss_one (ps_ret (pe_tup pa_nil))) pss_nil)
      (pss_cons (ps_for (passes_of rfl) rfl (pi_enumT (by rfl) T.z_enumerate (pa_cons (pv 0) pa_nil)) (pg_tup (n := 2) rfl (pgs_cons (pg_name (i := 2) sc_wrong_part.nd rfl (Or.inl rfl)) (pgs_cons (pg_name (i := 3) sc_wrong_part.nd rfl (Or.inl rfl)) pgs_nil))) (pss_cons (ps_set (i := 4) sc_wrong_part.nd rfl (Or.inl rfl) (pe_call ih_wrong_part hr rfl T.g_wrong_part T.F_wrong_part.kp T.b_wrong_part .nil passN (pa_cons (pv 3) (pa_cons (pe_op op_add (pv 1) pe_int) pa_nil))))
      (pss_one (ps_if (pt_cmpR op_notN (pv 4) pe_non (nomark _)) (pss_one (ps_ret (pe_op op_catA (pe_tup (pa_cons (pv 2) pa_nil)) (pv 4)))) pss_nil))))
      (pss_one (ps_ret pe_non))))),
      (sSeq (sIfS (sNot (sB (sCB (rcIsi (T := "tuple")) (sCons sVar (sCons sHd sNil))))) (sRet (sIf (sOr (sB (sCall (sCons sVar sNil))) (sB (sCall (sCons sVar (sCons sInt sNil))))) sNon (sTup sNil))) sNext)
      (sSeq (sIfS (sTest (sOp roBl0 sVar sInt)) (sRet (sTup sNil)) sNext)
      (sSeq (sFor (siEnumT sVar) (fun _ _ _ => (sgTup (sgCons sName (sgCons sName sgNil)))) (fun _ _ _ => (sSeq (sAsg (sCall (sCons sVar (sCons (sOp roInt0 sVar sInt) sNil))) sName)
      (sIfS (sTest (sOp roNotN sVar sNon)) (sRet (sOp roCatT (sTup (sCons sVar sNil)) sVar)) sNext))))
      (sRet sNon))))⟩) (fun ds μ Φ Ψ h => ?hv)
  case hv =>
    obtain ⟨k, d, e, hk, rfl, hd, he, he2, h⟩ := h
    cases hd with
    | @word _ s h0 h1 h2 =>
      walk_at "wps"
      refine ⟨_, rfl, .str s (by omega), ?_⟩
      have h5 : isW (.str s) = true := by simp only [isW]; rw [decide_eq_true ⟨h0, h1⟩, List.all_eq_true.2 h2]; rfl
      rw [h5]
      walk_at "wps"
      have : fdp (31 - e) (.str s) = none := by cases 31 - e <;> simp [fdp]
      rw [this] at h
      exact ret_same h
    | @num _ i h0 h1 =>
      walk_at "wps"
      have : fdp (31 - e) (.int i) = none := by cases 31 - e <;> simp [fdp]
      rw [this] at h
      refine ⟨_, rfl, .int i, ?_⟩
      simp only [isW]
      walk_at "wps"
      refine ⟨_, _, rfl, .int i, ?_⟩
      have h5 : isB 1000000000 (.int i) = true := by simp only [isB]; rw [decide_eq_true ⟨h0, h1⟩]
      rw [h5]
      walk_at "wps"
      exact ret_same h
    | @tup k' l hx =>
      walk_at "wps"
      refine ⟨fun c1 => ?_, fun c1 => ?_⟩
      · have h31 : e = 31 := by omega
        subst h31
        rw [fdp] at h
        exact ⟨by omega, ret_same h⟩
      · obtain ⟨j, hj⟩ : ∃ j, 31 - e = j + 1 := ⟨30 - e, by omega⟩
        have hj2 : 31 - (e + 1) = j := by omega
        rw [hj, fdp] at h
        refine ⟨fun i δ' μ' => μ' = μ ∧ (∀ m y, m < i → l[m]? = some y → fdp j y = none) ∧ ∃ x2 x3 x4, δ' = [some (.tup l), some (.int e), x2, x3, x4], ⟨rfl, fun m y hm => absurd hm (Nat.not_lt_zero _), none, none, none, rfl⟩, ?_, ?_⟩
        · rintro i d δ' μ' hi ⟨rfl, hpre, x2, x3, x4, rfl⟩
          rw [List.getElem?_map, Option.map_eq_some_iff] at hi
          obtain ⟨i', hi, rfl⟩ := hi
          have hil : i < l.length := by have := (List.getElem?_eq_some_iff.mp hi).1; simpa using this
          have : i' = i := by rw [List.getElem?_range hil] at hi; exact (Option.some.inj hi).symm
          subst this
          have eg : l.getD i' .non = l[i'] := by rw [List.getD_eq_getElem?_getD, List.getElem?_eq_getElem hil]; rfl
          rw [eg]
          walk_at "wps"
          refine ⟨k', l[i'], e + 1, by omega, rfl, hx _ (List.getElem_mem hil), by omega, by omega, ?_⟩
          rw [hj2]
          cases hp : fdp j l[i'] with
          | none =>
            simp only [pthD]
            walk_at "wps"
            exact ⟨fun m y hm hy => by
              by_cases c : m = i'
              · subst c; rw [List.getElem?_eq_getElem hil] at hy; cases hy; exact hp
              · exact hpre m y (by omega) hy, _, _, _, rfl⟩
          | some p =>
            have hpl := fdp_len hp
            rw [fdpl_at hpre (List.getElem?_eq_getElem hil) hp] at h
            simp only [pthD] at h ⊢
            walk_at "wps"
            refine ⟨by decide, by omega, ret_same ?_⟩
            rw [Int.zero_add, List.map_cons] at h
            exact h
        · rintro δ' μ' ⟨rfl, hpre, x2, x3, x4, rfl⟩
          walk_at "wps"
          rw [fdpl_none (fun x hx => ?_)] at h
          · exact ret_same h
          · obtain ⟨m, hm⟩ := List.getElem?_of_mem hx
            have := (List.getElem?_eq_some_iff.mp hm).1
            exact hpre m x (by simp; omega) hm

def c_text_of : Nat → Con := fun n ds μ Φ _ => ∃ k d, k < n ∧ ds = [d] ∧ Tm k d ∧ (txt d).length ≤ 90000 ∧ Φ (.str (S (txt d))) μ
theorem len_text_of {n ds μ Φ Ψ} (h : c_text_of n ds μ Φ Ψ) : ds.length = 1 := by obtain ⟨_, _, _, rfl, _⟩ := h; rfl
theorem step_text_of (T : Txt P K mg) {k : Nat} (hk : 0 ≤ k) (n : Nat) (ih_text_of : FnOk P w K mg base (L2N.CX P w) k T.f_text_of T.d_text_of ["term"] (spOf K (c_text_of n))) : FnOk P w K mg base (L2N.CX P w) (k + 1) T.f_text_of T.d_text_of ["term"] (spOf K (c_text_of (n + 1))) := by
  refine def_okC T.F_text_of sc_text_of _ (fun ds μ Φ Ψ h => len_text_of h) (fun cdv A outer s H E B hW hr =>
    have tk : L2N.Takes (cxOf (L2N.CX P w) P w K mg base N_text_of "text_of" (defScope s_text_of) T.f_text_of cdv A outer s H E) (fun cls d _ H => E cls d H) := L2N.takes_of rfl rfl rfl rfl
    ⟨_, (pss_cons (ps_if (pt_not (pt_val (pe_callB call_isi (by rfl) T.z_isinstance (by decide +kernel) (pa_cons (pv 0) (pa_cons (pe_bltn (v := .ty "tuple") rfl T.z_tuple (by decide +kernel) rfl) pa_nil))))) (pss_one (ps_ret (pe_callTy call_strA (by rfl) T.z_str (by decide +kernel) (pa_cons (pv 0) pa_nil)))) pss_nil)
      (pss_one (ps_ret (pe_op op_add_str (pe_op op_add_str pe_str (pe_bm PySem.F.plainAttrs_str PySem.F.slot_str_join PySem.F.type_str_join mt_join pe_str (pa_cons (pe_lc (own := [("item", 1)]) rfl sc_text_of.nd (pi_tup (pv 0)) (blkOk_by (N := N_text_of) (sc := defScope s_text_of) (by decide +kernel)) (fun _ _ _ _ _ => (pg_name (i := 1) sc_text_of.nd rfl (Or.inl rfl))) (fun _ _ _ _ _ => pts_nil) (fun _ _ _ _ _ => (pe_call ih_text_of hr rfl T.g_text_of T.F_text_of.kp T.b_text_of .nil passN (pa_cons (pv 1) pa_nil)))) pa_nil))) pe_str)))),
      (sSeq (sIfS (sNot (sB (sCB (rcIsi (T := "tuple")) (sCons sVar (sCons sHd sNil))))) (sRet (sCB rcStr (sCons sVar sNil))) sNext)
      (sRet (sOp roCatS (sOp roCatS sStr (sJoin sStr (sLc (siT sVar) (gwName List.mem_cons_self) (fun _ _ _ => sName) (fun _ _ _ => sYes) (fun _ _ _ => (sCall (sCons sVar sNil)))))) sStr)))⟩) (fun ds μ Φ Ψ h => ?hv)
  case hv =>
    obtain ⟨k, d, hk, rfl, hd, hz, h⟩ := h
    cases hd with
    | @word _ s h0 h1 h2 => walk_at "wps"; rw [txt, S_tl] at h; exact ret_same h
    | @num _ i h0 h1 =>
      walk_at "wps"
      refine ⟨Nat.lt_of_lt_of_le (PySem.Flt.log2_lt_of (n := i.natAbs) (by decide : 0 < 100) (by omega)) (by decide), ret_same ?_⟩
      have e := TL.tl_num i.toNat
      rw [Int.toNat_of_nonneg h0] at e
      rw [txt, ← e, S_tl] at h
      exact h
    | @tup k' l hx =>
      rw [txt] at h hz
      have hb : (txts l).length ≤ 90000 := by simp at hz; omega
      have hsz : l.length ≤ (txts l).length := items_len hx
      have hsum := join_size hx
      walk_at "wps"
      simp only [dJoin]
      walk_at "wps"
      refine lcG_mapN (fun i => .str (S (txt (l.getD i .non)))) (by omega) (fun i d μ2 X hi hsub hx2 => ?_) ?_
      · walk_at "wps"
        have e : l.getD i .non = d := by rw [List.getD_eq_getElem?_getD, hi]; rfl
        rw [e] at hx2
        exact ⟨_, _, by omega, rfl, hx d (List.mem_of_getElem? hi), Nat.le_trans (item_le (List.mem_of_getElem? hi)) hb, hx2⟩
      · rw [range_map (f := fun x => D.str (S (txt x)))]
        refine ⟨l.map fun x => S (txt x), by rw [List.map_map]; rfl, ?_, ?_⟩
        · have e1 : (List.map (fun x => x.length) (List.map (fun x => S (txt x)) l)).sum = (List.map (fun x => (txt x).length) l).sum := by
            rw [List.map_map]
            congr 1
          have e2 : (Str.ofString " ").length = 1 := by decide +kernel
          rw [e1, e2, List.length_map]
          omega
        · rw [join_txts]
          walk_at "wps"
          have o1 : TL.tl (Str.ofString "(") = [40] := by decide +kernel
          have o2 : TL.tl (Str.ofString ")") = [41] := by decide +kernel
          have e : Str.ofString "(" ++ S (txts l) ++ Str.ofString ")" = S (40 :: (txts l ++ [41])) := by
            rw [← S_tl (_ ++ _ ++ _), TL.tl_append, TL.tl_append, tl_S, o1, o2]; rfl
          rw [e, TL.tl_append, tl_S, o1, o2]
          exact ⟨by simp; omega, by simp; omega, ret_same h⟩

theorem fn_false {cx : CXT} {k : Nat} {f : Addr} {fd : FuncData} {ps : List Str} : FnOk P w K mg base cx k f fd ps (spOf K fun _ _ _ _ => False) := by
  refine ⟨fun vs H Q E h => ?_, fun A outer s H args us vs Q E _ _ _ _ h => ?_⟩ <;> (obtain ⟨_, _, _, _, _, _, z, _⟩ := h; exact z.elim)
theorem fn_none {cx : CXT} {k : Nat} {f : Addr} {fd : FuncData} {ps : List Str} {c : Con} (h : ∀ ds μ Φ Ψ, ¬c ds μ Φ Ψ) : FnOk P w K mg base cx k f fd ps (spOf K c) := by
  rw [show c = fun _ _ _ _ => False from funext fun a => funext fun b => funext fun d => funext fun e => propext ⟨h a b d e, nofun⟩]
  exact fn_false
theorem okN_wrong_part (T : Txt P K mg) : ∀ n, FnOk P w K mg base (L2N.CX P w) (2 + n) T.f_wrong_part T.d_wrong_part ["term", "depth"] (spOf K (c_wrong_part n))
  | 0 => fn_none fun _ _ _ _ ⟨_, _, _, h, _⟩ => absurd h (Nat.not_lt_zero _)
  | n + 1 => step_wrong_part T (Nat.le_add_right 2 n) n (okN_wrong_part T n)
theorem ok_wrong_part (T : Txt P K mg) : FnOk P w K mg base (L2N.CX P w) 40 T.f_wrong_part T.d_wrong_part ["term", "depth"] (spOf K (c_wrong_part 38)) := okN_wrong_part T 38
theorem okN_text_of (T : Txt P K mg) : ∀ n, FnOk P w K mg base (L2N.CX P w) n T.f_text_of T.d_text_of ["term"] (spOf K (c_text_of n))
  | 0 => fn_none fun _ _ _ _ ⟨_, _, h, _⟩ => absurd h (Nat.not_lt_zero _)
  | n + 1 => step_text_of T (Nat.zero_le _) n (okN_text_of T n)
theorem ok_text_of (T : Txt P K mg) : FnOk P w K mg base (L2N.CX P w) 40 T.f_text_of T.d_text_of ["term"] (spOf K (c_text_of 40)) := okN_text_of T 40
def c_write_term (C : Addr) : Con := fun ds μ Φ Ψ => ∃ k d, k < 38 ∧ ds = [d] ∧ Tm k d ∧ (txt d).length ≤ 90000 ∧ (fdp 30 d = none → Φ (.str (S (txt d))) μ) ∧ (∀ p, fdp 30 d = some p → Ψ (.mk C (some (["path"], [.tup (p.map .int)]))) μ)
theorem len_write_term {C ds μ Φ Ψ} (h : c_write_term C ds μ Φ Ψ) : ds.length = 1 := by obtain ⟨_, _, _, rfl, _⟩ := h; rfl
theorem ok_write_term (T : Txt P K mg) : FnOk P w K mg base (L2N.CX P w) 41 T.f_write_term T.d_write_term ["term"] (spOf K (c_write_term T.c_InvalidTerm)) := by
  refine def_okC T.F_write_term sc_write_term _ (fun ds μ Φ Ψ h => len_write_term h) (fun cdv A outer s H E B hW hr =>
    have tk : L2N.Takes (cxOf (L2N.CX P w) P w K mg base N_write_term "write_term" (defScope s_write_term) T.f_write_term cdv A outer s H E) (fun cls d _ H => E cls d H) := L2N.takes_of rfl rfl rfl rfl
    ⟨_, (pss_cons (ps_set (i := 1) sc_write_term.nd rfl (Or.inl rfl) (pe_call (ok_wrong_part T) hr rfl T.g_wrong_part T.F_wrong_part.kp T.b_wrong_part .nil passN (pa_cons (pv 0) (pa_cons pe_int pa_nil))))
      (pss_cons (ps_if (pt_cmpR op_notN (pv 1) pe_non (nomark _)) (pss_one (L2N.ps_raise rfl tk (pmk_sup T.ox_InvalidTerm T.ic_InvalidTerm T.ti_InvalidTerm T.no_InvalidTerm T.in_InvalidTerm (hr.mono (by decide)) T.bi_InvalidTerm passN rfl T.g_InvalidTerm (pa_cons (pv 1) pa_nil)))) pss_nil)
      (pss_one (ps_ret (pe_call (ok_text_of T) hr rfl T.g_text_of T.F_text_of.kp T.b_text_of .nil passN (pa_cons (pv 0) pa_nil)))))),
      (sSeq (sAsg (sCall (sCons sVar (sCons sInt sNil))) sName)
      (sSeq (sIfS (sTest (sOp roNotN sVar sNon)) (sRaise1 (W := fun cls d _ H => E cls d H) (C := T.c_InvalidTerm) (fld := "path") (by exact hW) okdPath_ok sVar) sNext)
      (sRet (sCall (sCons sVar sNil)))))⟩) (fun ds μ Φ Ψ h => ?hv)
  case hv =>
    obtain ⟨k, d, hk, rfl, hd, hz, h1, h2⟩ := h
    walk_at "wps"
    refine ⟨k, d, 1, hk, rfl, hd, by decide, by decide, ?_⟩
    show _
    cases hp : fdp (31 - 1) d with
    | none =>
      have hp : fdp 30 d = none := hp
      simp only [pthD]
      walk_at "wps"
      exact ⟨k, d, by omega, rfl, hd, hz, ret_same (h1 hp)⟩
    | some p =>
      have hp : fdp 30 d = some p := hp
      simp only [pthD]
      walk_at "wps"
      have hi := fdp_idx (plain_tm hd (by omega)) hp
      have hl := fdp_len hp
      exact ⟨⟨p, rfl, fun i hm => Nat.lt_of_lt_of_le (PySem.Flt.log2_lt_of (n := i.natAbs) (by decide : 0 < 100) (by have := hi i hm; omega)) (by decide), by omega⟩, μ, Sub.refl, h2 p hp⟩

end
end LW
set_option Elab.async false
set_option linter.all false
set_option maxRecDepth 100000
namespace LW
open PySem PySem.Spec L2 DW PyProof.Rows
local macro_rules | `(tactic| walk_at "wp") => `(tactic| try simp only [u_isE, w_isE, u_kitER, u_kitET, u_excE, u_xf, w_xf1, u_slS, u_raise1, u_iEn, w_listStr, w_lenStr, w_catStr, w_ixStr, w_inStr, w_strE, w_strI, w_strS, u_rest, cut_to, cut_from1, Int.zero_add, u_revT, w_repT, u_tupG, u_try, u_gPlain, u_gThen, u_gNil, u_yield, u_gWhile, u_while, u_isX, u_kitR, u_kitT, u_excOk, w_zipE, u_goalX, u_lc, rngD_len, Int.toNat_natCast, u_for, u_iT, u_iL, u_iR1, u_iR2, u_iZ, u_iS, w_lstE, dwipe, u_asg, u_asgS, u_ret, u_retN, u_if, u_next, u_break, u_cont, u_drop, u_raise, u_aug, u_var, u_c, u_op, u_un, u_test, u_and, u_or, u_not, u_yes, u_andV, u_orV, u_notV, u_ifE, u_chain, u_nil, u_cons, u_tup, u_lst, u_own, u_cb, u_call, u_callS, u_name, u_etup, u_enil, u_econs, u_sub, u_app, u_slT, u_slL, u_noPart, u_part, u_revL, ex_some, w_I0, w_I, w_uI, w_int, w_bl, w_isi, w_someb, w_eqI, w_neI, w_eqS, w_neS, w_lenT, w_lenL, w_lenS, w_tupL, w_tupT, w_ixT, w_ixL, w_ixS, w_catT, w_catL, w_all, w_any, w_min2, w_divmod, w_listS, w_listL, w_listT, w_isN, w_notN, w_tupE, w_intE, w_consE, w_hdE, w_cellS, w_set, at0, at1, at2, at3, i_tT, i_tI, i_tB, i_tS, i_nT, i_nI, i_nB, i_nS, i_iT, i_iI, i_iB, i_iS, i_bT, i_bI, i_bB, i_bS, i_sT, i_sI, i_sB, i_sS, v_itemsS, w_eqB, isNone, dstart, List.map, List.length, List.replicate, List.cons_append, List.nil_append, List.append_nil, List.getElem?_cons_zero, List.getElem?_cons_succ, List.set_cons_zero, List.set_cons_succ, ix40, ix42, ix43, true_implies, false_implies, and_true, true_and, Bool.not_true, Bool.not_false, decide_eq_true_eq, decide_eq_false_iff_not, List.length_map, Nat.reduceAdd, reduceCtorEq, v_ixH, v_items, v_itemsT, v_itemsL, v_len, v_tuple, v_list, v_listOwn, sset_same, sset_sset, Option.some.injEq, Cell.lst.injEq, Cell.frz.injEq, false_and, exists_false, or_false, false_or, exists_eq_left', ne_eq, not_false_eq_true, isTup, Bool.true_eq_false, Bool.false_eq_true])
local macro_rules | `(tactic| walk_at "wh") => `(tactic| try simp only [*, u_seq, u_isE, w_isE, u_kitER, u_kitET, u_excE, u_xf, w_xf1, u_slS, u_raise1, u_iEn, w_listStr, w_lenStr, w_catStr, w_ixStr, w_inStr, w_strE, w_strI, w_strS, u_rest, cut_to, cut_from1, Int.zero_add, u_revT, w_repT, u_tupG, u_try, u_gPlain, u_gThen, u_gNil, u_yield, u_gWhile, u_while, u_isX, u_kitR, u_kitT, u_excOk, w_zipE, u_goalX, u_lc, rngD_len, Int.toNat_natCast, u_for, u_iT, u_iL, u_iR1, u_iR2, u_iZ, u_iS, w_lstE, dwipe, u_asg, u_asgS, u_ret, u_retN, u_if, u_next, u_break, u_cont, u_drop, u_raise, u_aug, u_var, u_c, u_op, u_un, u_test, u_and, u_or, u_not, u_yes, u_andV, u_orV, u_notV, u_ifE, u_chain, u_nil, u_cons, u_tup, u_lst, u_own, u_cb, u_call, u_callS, u_name, u_etup, u_enil, u_econs, u_sub, u_app, u_slT, u_slL, u_noPart, u_part, u_revL, ex_some, w_I0, w_I, w_uI, w_int, w_bl, w_isi, w_someb, w_eqI, w_neI, w_eqS, w_neS, w_lenT, w_lenL, w_lenS, w_tupL, w_tupT, w_ixT, w_ixL, w_ixS, w_catT, w_catL, w_all, w_any, w_min2, w_divmod, w_listS, w_listL, w_listT, w_isN, w_notN, w_tupE, w_intE, w_consE, w_hdE, w_cellS, w_set, at0, at1, at2, at3, i_tT, i_tI, i_tB, i_tS, i_nT, i_nI, i_nB, i_nS, i_iT, i_iI, i_iB, i_iS, i_bT, i_bI, i_bB, i_bS, i_sT, i_sI, i_sB, i_sS, v_itemsS, w_eqB, isNone, dstart, List.map, List.length, List.replicate, List.cons_append, List.nil_append, List.append_nil, List.getElem?_cons_zero, List.getElem?_cons_succ, List.set_cons_zero, List.set_cons_succ, ix40, ix42, ix43, true_implies, false_implies, and_true, true_and, Bool.not_true, Bool.not_false, decide_eq_true_eq, decide_eq_false_iff_not, List.length_map, Nat.reduceAdd, reduceCtorEq, v_ixH, v_items, v_itemsT, v_itemsL, v_len, v_tuple, v_list, v_listOwn, sset_same, sset_sset, Option.some.injEq, Cell.lst.injEq, Cell.frz.injEq, false_and, exists_false, or_false, false_or, exists_eq_left', ne_eq, not_false_eq_true, isTup, Bool.true_eq_false, Bool.false_eq_true])
local macro_rules | `(tactic| walk_at "wps") => `(tactic| try simp only [u_seq, u_isE, w_isE, u_kitER, u_kitET, u_excE, u_xf, w_xf1, u_slS, u_raise1, u_iEn, w_listStr, w_lenStr, w_catStr, w_ixStr, w_inStr, w_strE, w_strI, w_strS, u_rest, cut_to, cut_from1, Int.zero_add, u_revT, w_repT, u_tupG, u_try, u_gPlain, u_gThen, u_gNil, u_yield, u_gWhile, u_while, u_isX, u_kitR, u_kitT, u_excOk, w_zipE, u_goalX, u_lc, rngD_len, Int.toNat_natCast, u_for, u_iT, u_iL, u_iR1, u_iR2, u_iZ, u_iS, w_lstE, dwipe, u_asg, u_asgS, u_ret, u_retN, u_if, u_next, u_break, u_cont, u_drop, u_raise, u_aug, u_var, u_c, u_op, u_un, u_test, u_and, u_or, u_not, u_yes, u_andV, u_orV, u_notV, u_ifE, u_chain, u_nil, u_cons, u_tup, u_lst, u_own, u_cb, u_call, u_callS, u_name, u_etup, u_enil, u_econs, u_sub, u_app, u_slT, u_slL, u_noPart, u_part, u_revL, ex_some, w_I0, w_I, w_uI, w_int, w_bl, w_isi, w_someb, w_eqI, w_neI, w_eqS, w_neS, w_lenT, w_lenL, w_lenS, w_tupL, w_tupT, w_ixT, w_ixL, w_ixS, w_catT, w_catL, w_all, w_any, w_min2, w_divmod, w_listS, w_listL, w_listT, w_isN, w_notN, w_tupE, w_intE, w_consE, w_hdE, w_cellS, w_set, at0, at1, at2, at3, i_tT, i_tI, i_tB, i_tS, i_nT, i_nI, i_nB, i_nS, i_iT, i_iI, i_iB, i_iS, i_bT, i_bI, i_bB, i_bS, i_sT, i_sI, i_sB, i_sS, v_itemsS, w_eqB, isNone, dstart, List.map, List.length, List.replicate, List.cons_append, List.nil_append, List.append_nil, List.getElem?_cons_zero, List.getElem?_cons_succ, List.set_cons_zero, List.set_cons_succ, ix40, ix42, ix43, true_implies, false_implies, and_true, true_and, Bool.not_true, Bool.not_false, decide_eq_true_eq, decide_eq_false_iff_not, List.length_map, Nat.reduceAdd, reduceCtorEq, v_ixH, v_items, v_itemsT, v_itemsL, v_len, v_tuple, v_list, v_listOwn, sset_same, sset_sset, Option.some.injEq, Cell.lst.injEq, Cell.frz.injEq, false_and, exists_false, or_false, false_or, exists_eq_left', ne_eq, not_false_eq_true, isTup, Bool.true_eq_false, Bool.false_eq_true])
section
variable {P : Program} {w : World} {K : Fg} {mg : Str → Option Value} {base : Heap}
def c_run_end : Con := fun ds μ Φ _ => ∃ (t g : Str) (a m : Nat), ds = [.str t, .int a, .str g, .int m] ∧ (TL.tl t).length ≤ 100000 ∧ a ≤ (TL.tl t).length ∧ Φ (.int (a + runLen (fun c => decide (c ∈ g.cps.toList)) m ((TL.tl t).drop a))) μ
theorem len_run_end {ds μ Φ Ψ} (h : c_run_end ds μ Φ Ψ) : ds.length = 4 := by obtain ⟨_, _, _, _, rfl, _⟩ := h; rfl
theorem ok_run_end {cx : CXT} (T : Txt P K mg) : FnOk P w K mg base cx 1 T.f_run_end T.d_run_end ["text", "start", "signs", "most"] (spOf K c_run_end) := by
  refine def_okC T.F_run_end sc_run_end _ (fun ds μ Φ Ψ h => len_run_end h) (fun cdv A outer s H E B hW hr =>
    ⟨_, (pss_cons (ps_set (i := 4) sc_run_end.nd rfl (Or.inl rfl) (pv 1))
      (pss_cons (ps_while (passes_of rfl) (PW.pt (pw_and (pt_cmpR op_lt (pv 4) (pe_callB call_len_str (by rfl) T.z_len PySem.boot_len (pa_cons (pv 0) pa_nil)) (nomark _)) (pw_and (pt_cmpR op_lt (pv 4) (pe_op op_add (pv 1) (pv 3)) (nomark _)) (pw_and1 (pt_cmpR op_in_sign (pe_ix ix_str (pv 0) (pv 4) (fun _ _ => rfl)) (pv 2) (by with_unfolding_all rfl)))))) (pss_one (ps_aug (i := 4) sc_run_end.nd rfl (Or.inl rfl) pe_int ip_add)))
      (pss_one (ps_ret (pv 4))))),
      (sSeq (sAsg sVar sName)
      (sSeq (sWhile (sAnd (sTest (sOp roBl0 sVar (sCB rcLenStr (sCons sVar sNil)))) (sAnd (sTest (sOp roBl0 sVar (sOp roInt0 sVar sVar))) (sTest (sOp roInS (sOp roIxS sVar sVar) sVar)))) (sAug roIp sInt))
      (sRet sVar)))⟩) (fun ds μ Φ Ψ h => ?hv)
  case hv =>
    obtain ⟨t, g, a, m, rfl, h0, ha, h⟩ := h
    walk_at "wps"
    refine ⟨fun k δ' μ' => μ' = μ ∧ ∃ e : Nat, e + k = a + m ∧ a ≤ e ∧ e ≤ (TL.tl t).length ∧ a + runLen (fun c => decide (c ∈ g.cps.toList)) m ((TL.tl t).drop a) = e + runLen (fun c => decide (c ∈ g.cps.toList)) k ((TL.tl t).drop e) ∧ δ' = [some (.str t), some (.int a), some (.str g), some (.int m), some (.int e)], ⟨m, rfl, a, rfl, Nat.le_refl _, ha, rfl, rfl⟩, ?_⟩
    rintro k δ' μ' ⟨rfl, e, hk, h1, h2, h3, rfl⟩
    walk_at "wps"
    have at1 : ∀ hl : e < (TL.tl t).length, (TL.tl t).drop e = (TL.tl t)[e] :: (TL.tl t).drop (e + 1) := fun hl => List.drop_eq_getElem_cons hl
    refine ⟨h0, fun p1 => ⟨fun p2 => ?_, fun p2 => ret_same ?_⟩, fun p1 => ret_same ?_⟩
    · have hl : e < (TL.tl t).length := by omega
      obtain ⟨k, rfl⟩ : ∃ k', k = k' + 1 := ⟨k - 1, by omega⟩
      refine ⟨h0, (TL.tl t)[e], atI_nat (List.getElem?_eq_getElem hl), fun hc => ⟨k, by omega, e + 1, by omega, by omega, by omega, ?_, rfl⟩, fun hc => ret_same ?_⟩
      · rw [h3, at1 hl, runLen, if_pos (by simpa [TL.tl] using hc)]; omega
      · rw [at1 hl, runLen, if_neg (by simpa [TL.tl] using hc)] at h3
        rw [← Int.natCast_add, h3] at h; exact h
    · have : k = 0 := by omega
      subst this
      rw [runLen] at h3
      rw [← Int.natCast_add, h3] at h; exact h
    · rw [List.drop_eq_nil_of_le (i := e) (by omega)] at h3
      have : runLen (fun c => decide (c ∈ g.cps.toList)) k [] = 0 := by cases k <;> rfl
      rw [this] at h3
      rw [← Int.natCast_add, h3] at h; exact h

def c_read_tuple (C : Addr) : Nat → Con := fun n ds μ Φ Ψ => ∃ (t : Str) (a e : Nat), ds = [.str t, .int a, .int e] ∧ (TL.tl t).length ≤ 100000 ∧ a ≤ (TL.tl t).length ∧ 1 ≤ e ∧ e ≤ 30 ∧ 61 < n + 2 * e ∧
  (∀ x b, b ≤ (TL.tl t).length → Rd e (40 :: (TL.tl t).drop a) x ((TL.tl t).drop b) → Φ (.tup [x, .int b]) μ) ∧ (∀ b, b ≤ (TL.tl t).length → Bad e (40 :: (TL.tl t).drop a) ((TL.tl t).drop b) → Ψ (.mk C (some (["position"], [.int b]))) μ)
theorem len_read_tuple {C n ds μ Φ Ψ} (h : c_read_tuple C n ds μ Φ Ψ) : ds.length = 3 := by obtain ⟨_, _, _, rfl, _⟩ := h; rfl
def c_read_part (C : Addr) : Nat → Con := fun n ds μ Φ Ψ => ∃ (t : Str) (a e : Nat), ds = [.str t, .int a, .int e] ∧ (TL.tl t).length ≤ 100000 ∧ a ≤ (TL.tl t).length ∧ 1 ≤ e ∧ e ≤ 31 ∧ 62 < n + 2 * e ∧
  (∀ x b, b ≤ (TL.tl t).length → Rd e ((TL.tl t).drop a) x ((TL.tl t).drop b) → Φ (.tup [x, .int b]) μ) ∧ (∀ b, b ≤ (TL.tl t).length → Bad e ((TL.tl t).drop a) ((TL.tl t).drop b) → Ψ (.mk C (some (["position"], [.int b]))) μ)
theorem len_read_part {C n ds μ Φ Ψ} (h : c_read_part C n ds μ Φ Ψ) : ds.length = 3 := by obtain ⟨_, _, _, rfl, _⟩ := h; rfl
theorem step_read_part (T : Txt P K mg) {k : Nat} (hk : 2 ≤ k) (n : Nat) (ih_read_tuple : FnOk P w K mg base (L2N.CX P w) k T.f_read_tuple T.d_read_tuple ["text", "start", "depth"] (spOf K (c_read_tuple T.c_InvalidText n))) : FnOk P w K mg base (L2N.CX P w) (k + 1) T.f_read_part T.d_read_part ["text", "start", "depth"] (spOf K (c_read_part T.c_InvalidText (n + 1))) := by
  refine def_okC T.F_read_part sc_read_part _ (fun ds μ Φ Ψ h => len_read_part h) (fun cdv A outer s H E B hW hr =>
    have tk : L2N.Takes (cxOf (L2N.CX P w) P w K mg base N_read_part "read_part" (defScope s_read_part) T.f_read_part cdv A outer s H E) (fun cls d _ H => E cls d H) := L2N.takes_of rfl rfl rfl rfl
    ⟨_, (pss_cons (ps_set (i := 3) sc_read_part.nd rfl (Or.inl rfl) (pe_slice sl_str (pv 0) (po_some (pv 1)) (po_some (pe_op op_add (pv 1) pe_int))))
      (pss_cons (ps_if (PW.pt (pw_and (pt_cmpR op_eq (pv 3) pe_str (nomark _)) (pw_and1 (pt_cmpR op_le (pv 2) (pe_glob (v := .int 30) rfl T.g_DEEPEST_TUPLE.choose_spec ⟨_, rfl⟩) (nomark _))))) (pss_one (ps_ret (pe_callS ih_read_tuple hr rfl T.g_read_tuple T.F_read_tuple.kp T.b_read_tuple (fun σ => L2N.passAt tk σ) (pa_cons (pv 0) (pa_cons (pe_op op_add (pv 1) pe_int) (pa_cons (pv 2) pa_nil)))))) pss_nil)
      (pss_cons (ps_if (pt_cmpR op_eq (pv 3) pe_str (nomark _)) (pss_one (ps_ret (pe_tup (pa_cons pe_int (pa_cons (pe_op op_add (pv 1) pe_int) pa_nil))))) pss_nil)
      (pss_cons (ps_set (i := 4) sc_read_part.nd rfl (Or.inl rfl) (pe_call (ok_run_end T) (hr.mono (by omega)) rfl T.g_run_end T.F_run_end.kp T.b_run_end .nil passN (pa_cons (pv 0) (pa_cons (pv 1) (pa_cons (pe_glob (v := .str "abcdefghijklmnopqrstuvwxyz") rfl T.g_LETTERS.choose_spec ⟨_, rfl⟩) (pa_cons (pe_glob (v := .int 12) rfl T.g_LONGEST_WORD.choose_spec ⟨_, rfl⟩) pa_nil))))))
      (pss_cons (ps_if (pt_cmpR op_gt (pv 4) (pv 1) (nomark _)) (pss_one (ps_ret (pe_tup (pa_cons (pe_slice sl_str (pv 0) (po_some (pv 1)) (po_some (pv 4))) (pa_cons (pv 4) pa_nil))))) pss_nil)
      (pss_cons (ps_set (i := 4) sc_read_part.nd rfl (Or.inl rfl) (pe_call (ok_run_end T) (hr.mono (by omega)) rfl T.g_run_end T.F_run_end.kp T.b_run_end .nil passN (pa_cons (pv 0) (pa_cons (pv 1) (pa_cons (pe_glob (v := .str "0123456789") rfl T.g_DIGITS.choose_spec ⟨_, rfl⟩) (pa_cons (pe_glob (v := .int 9) rfl T.g_LONGEST_NUMBER.choose_spec ⟨_, rfl⟩) pa_nil))))))
      (pss_cons (ps_if (pt_cmpR op_gt (pv 4) (pv 1) (nomark _)) (pss_one (ps_ret (pe_tup (pa_cons (pe_callTy call_int_str (by rfl) T.z_int (by decide +kernel) (pa_cons (pe_slice sl_str (pv 0) (po_some (pv 1)) (po_some (pv 4))) pa_nil)) (pa_cons (pv 4) pa_nil))))) pss_nil)
      (pss_one (L2N.ps_raise rfl tk (pmk_sup T.ox_InvalidText T.ic_InvalidText T.ti_InvalidText T.no_InvalidText T.in_InvalidText (hr.mono (by omega)) T.bi_InvalidText passN rfl T.g_InvalidText (pa_cons (pv 1) pa_nil))))))))))),
      (sSeq (sAsg (sSlS sVar (sPart sVar) (sPart (sOp roInt0 sVar sInt))) sName)
      (sSeq (sIfS (sAnd (sTest (sOp roEq sVar sStr)) (sTest (sOp roBl0 sVar sInt))) (sRet (sCallSW (W := fun cls d _ H => E cls d H) (by exact hW) (sCons sVar (sCons (sOp roInt0 sVar sInt) (sCons sVar sNil))))) sNext)
      (sSeq (sIfS (sTest (sOp roEq sVar sStr)) (sRet (sTup (sCons sInt (sCons (sOp roInt0 sVar sInt) sNil)))) sNext)
      (sSeq (sAsg (sCall (sCons sVar (sCons sVar (sCons sStr (sCons sInt sNil))))) sName)
      (sSeq (sIfS (sTest (sOp roBl0 sVar sVar)) (sRet (sTup (sCons (sSlS sVar (sPart sVar) (sPart sVar)) (sCons sVar sNil)))) sNext)
      (sSeq (sAsg (sCall (sCons sVar (sCons sVar (sCons sStr (sCons sInt sNil))))) sName)
      (sSeq (sIfS (sTest (sOp roBl0 sVar sVar)) (sRet (sTup (sCons (sCB rcIntS (sCons (sSlS sVar (sPart sVar) (sPart sVar)) sNil)) (sCons sVar sNil)))) sNext)
      (sRaise1 (W := fun cls d _ H => E cls d H) (C := T.c_InvalidText) (fld := "position") (by exact hW) okdInt_ok sVar))))))))⟩) (fun ds μ Φ Ψ h => ?hv)
  case hv =>
    obtain ⟨t, a, e, rfl, hz, ha, he, he2, hn, h1, h2⟩ := h
    have hnx : ∀ {c l'}, (TL.tl t).drop a = c :: l' → a + 1 ≤ (TL.tl t).length ∧ (TL.tl t).drop (a + 1) = l' := fun {c l'} q => by
      have hl := congrArg List.length q
      rw [List.length_drop, List.length_cons] at hl
      refine ⟨by omega, ?_⟩
      rw [← List.tail_drop, q]; rfl
    walk_at "wps"
    simp only [cutS_1, o_open, o_zero]
    refine ⟨hz, fun c => ⟨fun c2 => ?A, fun c2 => ?B⟩, fun c => ?C⟩
    case A =>
      obtain ⟨l', hl'⟩ := take1.1 c
      obtain ⟨q1, q2⟩ := hnx hl'
      refine ⟨t, a + 1, e, rfl, hz, q1, he, by omega, by omega, fun x b hb hr => ret_same (h1 x b hb ?_), fun b hb hr => ⟨_, Sub.refl, h2 b hb ?_⟩⟩
      · rw [hl', ← q2]; exact hr
      · rw [hl', ← q2]; exact hr
    case' B => have hno : ∀ l', (TL.tl t).drop a = 40 :: l' → 30 < e := fun _ _ => by omega
    case' C => have hno : ∀ l', (TL.tl t).drop a = 40 :: l' → 30 < e := fun l' q => absurd (take1.2 ⟨l', q⟩) c
    all_goals
      refine ⟨fun c3 => ?_, fun c3 => ?_⟩
      · obtain ⟨l', hl'⟩ := take1.1 c3
        obtain ⟨q1, q2⟩ := hnx hl'
        exact ⟨by decide, ret_same (h1 _ (a + 1) q1 (by rw [hl', q2]; exact .zero))⟩
      refine ⟨t, _, a, 12, rfl, hz, ha, ?_⟩
      rw [in_let]
      walk_at "wps"
      have hr1 := runLen_len (p := isLet) (m := 12) (l := (TL.tl t).drop a)
      rw [List.length_drop] at hr1
      refine ⟨fun c4 => ⟨hz, by decide, ret_same ?_⟩, fun c4 => ?_⟩
      · rw [← Int.natCast_add, cutS_ab t (by omega), Nat.add_sub_cancel_left]
        refine h1 _ _ (by omega) ?_
        rw [← List.drop_drop]
        exact .word (by omega)
      refine ⟨t, _, a, 9, rfl, hz, ha, ?_⟩
      rw [in_dig]
      walk_at "wps"
      have hr2 := runLen_len (p := isDig) (m := 9) (l := (TL.tl t).drop a)
      have hr3 := runLen_le (p := isDig) (m := 9) (l := (TL.tl t).drop a)
      rw [List.length_drop] at hr2
      have h48 : ∀ l', (TL.tl t).drop a ≠ 48 :: l' := fun l' q => c3 (take1.2 ⟨l', q⟩)
      refine ⟨fun c5 => ⟨hz, ?_⟩, fun c5 => ⟨⟨a, rfl, log_small (by omega)⟩, _, Sub.refl, h2 a ha ?_⟩⟩
      · rw [← Int.natCast_add, cutS_ab t (by omega), Nat.add_sub_cancel_left]
        refine ⟨_, _, rfl, int_of_digits runLen_all (fun q => ?_) ?_, ?_, by decide, ret_same ?_⟩
        · have := congrArg List.length q
          rw [List.length_take, List.length_drop, Nat.min_eq_left hr2, List.length_nil] at this
          omega
        · rw [List.length_take]; omega
        · rw [S_len, List.length_take]; omega
        · refine h1 _ _ (by omega) ?_
          rw [← List.drop_drop]
          exact .num h48 (by omega) (by omega)
      · exact .here h48 hno (by omega) (by omega)

--@ read_tuple
theorem step_read_tuple (T : Txt P K mg) {k : Nat} (hk : 2 ≤ k) (n : Nat) (ih_read_part : FnOk P w K mg base (L2N.CX P w) k T.f_read_part T.d_read_part ["text", "start", "depth"] (spOf K (c_read_part T.c_InvalidText n))) : FnOk P w K mg base (L2N.CX P w) (k + 1) T.f_read_tuple T.d_read_tuple ["text", "start", "depth"] (spOf K (c_read_tuple T.c_InvalidText (n + 1))) := by
  refine def_okC T.F_read_tuple sc_read_tuple _ (fun ds μ Φ Ψ h => len_read_tuple h) (fun cdv A outer s H E B hW hr =>
    have tk : L2N.Takes (cxOf (L2N.CX P w) P w K mg base N_read_tuple "read_tuple" (defScope s_read_tuple) T.f_read_tuple cdv A outer s H E) (fun cls d _ H => E cls d H) := L2N.takes_of rfl rfl rfl rfl
    ⟨_, (pss_cons (ps_if (pt_cmpR op_eq (pe_slice sl_str (pv 0) (po_some (pv 1)) (po_some (pe_op op_add (pv 1) pe_int))) pe_str (nomark _)) (pss_one (ps_ret (pe_tup (pa_cons (pe_tup pa_nil) (pa_cons (pe_op op_add (pv 1) pe_int) pa_nil))))) pss_nil)
      (pss_cons (ps_set (i := 3) sc_read_tuple.nd rfl (Or.inl rfl) (pe_lst pa_nil))
      (pss_cons (ps_set (i := 4) sc_read_tuple.nd rfl (Or.inl rfl) (pv 1))
      (pss_one (ps_while (passes_of rfl) (pt_val pe_bl) (pss_cons (ps_asg (pe_callS ih_read_part hr rfl T.g_read_part T.F_read_part.kp T.b_read_part (fun σ => L2N.passAt tk σ) (pa_cons (pv 0) (pa_cons (pv 4) (pa_cons (pe_op op_add (pv 2) pe_int) pa_nil)))) (pg_tup (n := 2) rfl (pgs_cons (pg_name (i := 5) sc_read_tuple.nd rfl (Or.inl rfl)) (pgs_cons (pg_name (i := 6) sc_read_tuple.nd rfl (Or.inl rfl)) pgs_nil))))
      (pss_cons (ps_expr (pe_bm PySem.F.plainAttrs_list PySem.F.slot_list_append PySem.F.type_list_append mt_append (pv 3) (pa_cons (pv 5) pa_nil)))
      (pss_cons (ps_if (pt_cmpR op_eq (pe_slice sl_str (pv 0) (po_some (pv 6)) (po_some (pe_op op_add (pv 6) pe_int))) pe_str (nomark _)) (pss_one (ps_ret (pe_tup (pa_cons (pe_callTy call_tuple_of (by rfl) T.z_tuple (by decide +kernel) (pa_cons (pv 3) pa_nil)) (pa_cons (pe_op op_add (pv 6) pe_int) pa_nil))))) pss_nil)
      (pss_cons (ps_if (pt_cmpR op_ne (pe_slice sl_str (pv 0) (po_some (pv 6)) (po_some (pe_op op_add (pv 6) pe_int))) pe_str (nomark _)) (pss_one (L2N.ps_raise rfl tk (pmk_sup T.ox_InvalidText T.ic_InvalidText T.ti_InvalidText T.no_InvalidText T.in_InvalidText (hr.mono (by omega)) T.bi_InvalidText passN rfl T.g_InvalidText (pa_cons (pv 6) pa_nil)))) pss_nil)
      (pss_one (ps_set (i := 4) sc_read_tuple.nd rfl (Or.inl rfl) (pe_op op_add (pv 6) pe_int)))))))))))),
      (sSeq (sIfS (sTest (sOp roEq (sSlS sVar (sPart sVar) (sPart (sOp roInt0 sVar sInt))) sStr)) (sRet (sTup (sCons (sTup sNil) (sCons (sOp roInt0 sVar sInt) sNil)))) sNext)
      (sSeq (sAsg (sOwn sNil) sName)
      (sSeq (sAsg sVar sName)
      (sWhile (sB sBl) (sSeq (sAsg (sCallSW (W := fun cls d _ H => E cls d H) (by exact hW) (sCons sVar (sCons sVar (sCons (sOp roInt0 sVar sInt) sNil)))) (sgTup (sgCons sName (sgCons sName sgNil))))
      (sSeq (sDrop (sApp sVar sVar))
      (sSeq (sIfS (sTest (sOp roEq (sSlS sVar (sPart sVar) (sPart (sOp roInt0 sVar sInt))) sStr)) (sRet (sTup (sCons (sCB rcTuple (sCons sVar sNil)) (sCons (sOp roInt0 sVar sInt) sNil)))) sNext)
      (sSeq (sIfS (sTest (sOp roNe (sSlS sVar (sPart sVar) (sPart (sOp roInt0 sVar sInt))) sStr)) (sRaise1 (W := fun cls d _ H => E cls d H) (C := T.c_InvalidText) (fld := "position") (by exact hW) okdInt_ok sVar) sNext)
      (sAsg (sOp roInt0 sVar sInt) sName)))))))))⟩) (fun ds μ Φ Ψ h => ?hv)
  case hv =>
    obtain ⟨t, a, e, rfl, hz, ha, he, he2, hn, h1, h2⟩ := h
    have hnx : ∀ {a c l'}, (TL.tl t).drop a = c :: l' → a + 1 ≤ (TL.tl t).length ∧ (TL.tl t).drop (a + 1) = l' := fun {a c l'} q => by
      have hl := congrArg List.length q
      rw [List.length_drop, List.length_cons] at hl
      refine ⟨by omega, ?_⟩
      rw [← List.tail_drop, q]; rfl
    walk_at "wps"
    simp only [cutS_1, o_close]
    refine ⟨hz, fun c => ?_, fun c => ⟨by decide, fun p hp => ?_⟩⟩
    · obtain ⟨l', hl'⟩ := take1.1 c
      obtain ⟨q1, q2⟩ := hnx hl'
      exact ⟨by decide, by decide, ret_same (h1 _ (a + 1) q1 (by rw [hl', q2]; exact .nil he2))⟩
    have hne : ∀ l'', (TL.tl t).drop a ≠ 41 :: l'' := fun l' q => c (take1.2 ⟨l', q⟩)
    refine ⟨fun k δ' μ' => ∃ (xs : List D) (b : Nat) (x5 x6 : Option D), k + b = (TL.tl t).length ∧ b ≤ (TL.tl t).length ∧ xs.length ≤ b ∧ μ' = sset μ p (.lst xs) ∧ δ' = [some (.str t), some (.int a), some (.int e), some (.hd (.ref p)), some (.int b), x5, x6] ∧ ((xs = [] ∧ b = a) ∨ Its e ((TL.tl t).drop a) xs (32 :: (TL.tl t).drop b)), ⟨(TL.tl t).length - a, [], a, none, none, by omega, ha, Nat.zero_le _, rfl, rfl, .inl ⟨rfl, rfl⟩⟩, ?_⟩
    rintro k δ' μ' ⟨xs, b, x5, x6, hkb, hb, hxs, rfl, rfl, hI⟩
    walk_at "wps"
    refine ⟨t, b, e + 1, rfl, hz, hb, by omega, by omega, by omega, fun x b' hb' hr => ?_, fun b' hb' hr => ⟨_, Sub.set Sub.refl hp, h2 b' hb' ?_⟩⟩
    · walk_at "wps"
      simp only [cutS_1, o_space]
      have hlt : b < b' := by
        have q1 := txt_pos (hr.tm (by omega))
        have q2 := congrArg List.length hr.txt
        rw [List.length_append, List.length_drop, List.length_drop] at q2
        omega
      have hI2 : Its e ((TL.tl t).drop a) (xs ++ [x]) ((TL.tl t).drop b') := by
        rcases hI with ⟨rfl, rfl⟩ | hI
        · exact .one hr
        · exact .snoc hI hr
      refine ⟨by omega, hz, fun c1 => ?_, fun c1 => ⟨hz, fun c2 => ⟨⟨b', rfl, log_small (by omega)⟩, _, Sub.set Sub.refl hp, h2 b' hb' ?_⟩, fun c2 => ?_⟩⟩
      · obtain ⟨l', hl'⟩ := take1.1 c1
        obtain ⟨q1, q2⟩ := hnx hl'
        refine ⟨by decide, _, Sub.set Sub.refl hp, h1 _ (b' + 1) q1 (.tup he2 hne ?_)⟩
        rw [q2, ← hl']; exact hI2
      · refine .sep he2 hne hI2 (fun l'' q => c1 (take1.2 ⟨l'', q⟩)) fun l'' q => ?_
        rw [decide_eq_true (take1.2 ⟨l'', q⟩)] at c2; cases c2
      · have c3 : S (List.take 1 (List.drop b' (TL.tl t))) = S [32] := by simpa using c2
        obtain ⟨l', hl'⟩ := take1.1 c3
        obtain ⟨q1, q2⟩ := hnx hl'
        refine ⟨(TL.tl t).length - (b' + 1), by omega, _, b' + 1, _, _, by omega, q1, ?_, rfl, rfl, .inr ?_⟩
        · rw [List.length_append]; simp; omega
        · rw [q2, ← hl']; exact hI2
    · rcases hI with ⟨rfl, rfl⟩ | hI
      · exact .first he2 hne hr
      · exact .item he2 hne hI hr

end
end LW
set_option Elab.async false
set_option linter.all false
set_option maxRecDepth 100000
namespace LW
open PySem PySem.Spec L2 DW PyProof.Rows
local macro_rules | `(tactic| walk_at "wp") => `(tactic| try simp only [u_isE, w_isE, u_kitER, u_kitET, u_excE, u_xf, w_xf1, u_slS, u_raise1, u_iEn, w_listStr, w_lenStr, w_catStr, w_ixStr, w_inStr, w_strE, w_strI, w_strS, u_rest, cut_to, cut_from1, Int.zero_add, u_revT, w_repT, u_tupG, u_try, u_gPlain, u_gThen, u_gNil, u_yield, u_gWhile, u_while, u_isX, u_kitR, u_kitT, u_excOk, w_zipE, u_goalX, u_lc, rngD_len, Int.toNat_natCast, u_for, u_iT, u_iL, u_iR1, u_iR2, u_iZ, u_iS, w_lstE, dwipe, u_asg, u_asgS, u_ret, u_retN, u_if, u_next, u_break, u_cont, u_drop, u_raise, u_aug, u_var, u_c, u_op, u_un, u_test, u_and, u_or, u_not, u_yes, u_andV, u_orV, u_notV, u_ifE, u_chain, u_nil, u_cons, u_tup, u_lst, u_own, u_cb, u_call, u_callS, u_name, u_etup, u_enil, u_econs, u_sub, u_app, u_slT, u_slL, u_noPart, u_part, u_revL, ex_some, w_I0, w_I, w_uI, w_int, w_bl, w_isi, w_someb, w_eqI, w_neI, w_eqS, w_neS, w_lenT, w_lenL, w_lenS, w_tupL, w_tupT, w_ixT, w_ixL, w_ixS, w_catT, w_catL, w_all, w_any, w_min2, w_divmod, w_listS, w_listL, w_listT, w_isN, w_notN, w_tupE, w_intE, w_consE, w_hdE, w_cellS, w_set, at0, at1, at2, at3, i_tT, i_tI, i_tB, i_tS, i_nT, i_nI, i_nB, i_nS, i_iT, i_iI, i_iB, i_iS, i_bT, i_bI, i_bB, i_bS, i_sT, i_sI, i_sB, i_sS, v_itemsS, w_eqB, isNone, dstart, List.map, List.length, List.replicate, List.cons_append, List.nil_append, List.append_nil, List.getElem?_cons_zero, List.getElem?_cons_succ, List.set_cons_zero, List.set_cons_succ, ix40, ix42, ix43, true_implies, false_implies, and_true, true_and, Bool.not_true, Bool.not_false, decide_eq_true_eq, decide_eq_false_iff_not, List.length_map, Nat.reduceAdd, reduceCtorEq, v_ixH, v_items, v_itemsT, v_itemsL, v_len, v_tuple, v_list, v_listOwn, sset_same, sset_sset, Option.some.injEq, Cell.lst.injEq, Cell.frz.injEq, false_and, exists_false, or_false, false_or, exists_eq_left', ne_eq, not_false_eq_true, isTup, Bool.true_eq_false, Bool.false_eq_true])
local macro_rules | `(tactic| walk_at "wh") => `(tactic| try simp only [*, u_seq, u_isE, w_isE, u_kitER, u_kitET, u_excE, u_xf, w_xf1, u_slS, u_raise1, u_iEn, w_listStr, w_lenStr, w_catStr, w_ixStr, w_inStr, w_strE, w_strI, w_strS, u_rest, cut_to, cut_from1, Int.zero_add, u_revT, w_repT, u_tupG, u_try, u_gPlain, u_gThen, u_gNil, u_yield, u_gWhile, u_while, u_isX, u_kitR, u_kitT, u_excOk, w_zipE, u_goalX, u_lc, rngD_len, Int.toNat_natCast, u_for, u_iT, u_iL, u_iR1, u_iR2, u_iZ, u_iS, w_lstE, dwipe, u_asg, u_asgS, u_ret, u_retN, u_if, u_next, u_break, u_cont, u_drop, u_raise, u_aug, u_var, u_c, u_op, u_un, u_test, u_and, u_or, u_not, u_yes, u_andV, u_orV, u_notV, u_ifE, u_chain, u_nil, u_cons, u_tup, u_lst, u_own, u_cb, u_call, u_callS, u_name, u_etup, u_enil, u_econs, u_sub, u_app, u_slT, u_slL, u_noPart, u_part, u_revL, ex_some, w_I0, w_I, w_uI, w_int, w_bl, w_isi, w_someb, w_eqI, w_neI, w_eqS, w_neS, w_lenT, w_lenL, w_lenS, w_tupL, w_tupT, w_ixT, w_ixL, w_ixS, w_catT, w_catL, w_all, w_any, w_min2, w_divmod, w_listS, w_listL, w_listT, w_isN, w_notN, w_tupE, w_intE, w_consE, w_hdE, w_cellS, w_set, at0, at1, at2, at3, i_tT, i_tI, i_tB, i_tS, i_nT, i_nI, i_nB, i_nS, i_iT, i_iI, i_iB, i_iS, i_bT, i_bI, i_bB, i_bS, i_sT, i_sI, i_sB, i_sS, v_itemsS, w_eqB, isNone, dstart, List.map, List.length, List.replicate, List.cons_append, List.nil_append, List.append_nil, List.getElem?_cons_zero, List.getElem?_cons_succ, List.set_cons_zero, List.set_cons_succ, ix40, ix42, ix43, true_implies, false_implies, and_true, true_and, Bool.not_true, Bool.not_false, decide_eq_true_eq, decide_eq_false_iff_not, List.length_map, Nat.reduceAdd, reduceCtorEq, v_ixH, v_items, v_itemsT, v_itemsL, v_len, v_tuple, v_list, v_listOwn, sset_same, sset_sset, Option.some.injEq, Cell.lst.injEq, Cell.frz.injEq, false_and, exists_false, or_false, false_or, exists_eq_left', ne_eq, not_false_eq_true, isTup, Bool.true_eq_false, Bool.false_eq_true])
local macro_rules | `(tactic| walk_at "wps") => `(tactic| try simp only [u_seq, u_isE, w_isE, u_kitER, u_kitET, u_excE, u_xf, w_xf1, u_slS, u_raise1, u_iEn, w_listStr, w_lenStr, w_catStr, w_ixStr, w_inStr, w_strE, w_strI, w_strS, u_rest, cut_to, cut_from1, Int.zero_add, u_revT, w_repT, u_tupG, u_try, u_gPlain, u_gThen, u_gNil, u_yield, u_gWhile, u_while, u_isX, u_kitR, u_kitT, u_excOk, w_zipE, u_goalX, u_lc, rngD_len, Int.toNat_natCast, u_for, u_iT, u_iL, u_iR1, u_iR2, u_iZ, u_iS, w_lstE, dwipe, u_asg, u_asgS, u_ret, u_retN, u_if, u_next, u_break, u_cont, u_drop, u_raise, u_aug, u_var, u_c, u_op, u_un, u_test, u_and, u_or, u_not, u_yes, u_andV, u_orV, u_notV, u_ifE, u_chain, u_nil, u_cons, u_tup, u_lst, u_own, u_cb, u_call, u_callS, u_name, u_etup, u_enil, u_econs, u_sub, u_app, u_slT, u_slL, u_noPart, u_part, u_revL, ex_some, w_I0, w_I, w_uI, w_int, w_bl, w_isi, w_someb, w_eqI, w_neI, w_eqS, w_neS, w_lenT, w_lenL, w_lenS, w_tupL, w_tupT, w_ixT, w_ixL, w_ixS, w_catT, w_catL, w_all, w_any, w_min2, w_divmod, w_listS, w_listL, w_listT, w_isN, w_notN, w_tupE, w_intE, w_consE, w_hdE, w_cellS, w_set, at0, at1, at2, at3, i_tT, i_tI, i_tB, i_tS, i_nT, i_nI, i_nB, i_nS, i_iT, i_iI, i_iB, i_iS, i_bT, i_bI, i_bB, i_bS, i_sT, i_sI, i_sB, i_sS, v_itemsS, w_eqB, isNone, dstart, List.map, List.length, List.replicate, List.cons_append, List.nil_append, List.append_nil, List.getElem?_cons_zero, List.getElem?_cons_succ, List.set_cons_zero, List.set_cons_succ, ix40, ix42, ix43, true_implies, false_implies, and_true, true_and, Bool.not_true, Bool.not_false, decide_eq_true_eq, decide_eq_false_iff_not, List.length_map, Nat.reduceAdd, reduceCtorEq, v_ixH, v_items, v_itemsT, v_itemsL, v_len, v_tuple, v_list, v_listOwn, sset_same, sset_sset, Option.some.injEq, Cell.lst.injEq, Cell.frz.injEq, false_and, exists_false, or_false, false_or, exists_eq_left', ne_eq, not_false_eq_true, isTup, Bool.true_eq_false, Bool.false_eq_true])
section
variable {P : Program} {w : World} {K : Fg} {mg : Str → Option Value} {base : Heap}
theorem okN_read (T : Txt P K mg) : ∀ n, FnOk P w K mg base (L2N.CX P w) (2 + n) T.f_read_part T.d_read_part ["text", "start", "depth"] (spOf K (c_read_part T.c_InvalidText n)) ∧ FnOk P w K mg base (L2N.CX P w) (2 + n) T.f_read_tuple T.d_read_tuple ["text", "start", "depth"] (spOf K (c_read_tuple T.c_InvalidText n))
  | 0 => ⟨fn_none fun _ _ _ _ ⟨_, _, _, _, _, _, _, _, z, _⟩ => by omega, fn_none fun _ _ _ _ ⟨_, _, _, _, _, _, _, _, z, _⟩ => by omega⟩
  | n + 1 => ⟨step_read_part T (Nat.le_add_right 2 n) n (okN_read T n).2, step_read_tuple T (Nat.le_add_right 2 n) n (okN_read T n).1⟩
theorem ok_read_part (T : Txt P K mg) : FnOk P w K mg base (L2N.CX P w) 70 T.f_read_part T.d_read_part ["text", "start", "depth"] (spOf K (c_read_part T.c_InvalidText 68)) := (okN_read T 68).1
def c_read_term (C : Addr) : Con := fun ds μ Φ Ψ => ∃ (t : Str), ds = [.str t] ∧ (TL.tl t).length ≤ 100000 ∧ (∀ x, Rd 1 (TL.tl t) x [] → Φ x μ) ∧ (∀ b, b ≤ (TL.tl t).length → BadT (TL.tl t) b → Ψ (.mk C (some (["position"], [.int b]))) μ)
theorem len_read_term {C ds μ Φ Ψ} (h : c_read_term C ds μ Φ Ψ) : ds.length = 1 := by obtain ⟨_, rfl, _⟩ := h; rfl
theorem ok_read_term (T : Txt P K mg) : FnOk P w K mg base (L2N.CX P w) 71 T.f_read_term T.d_read_term ["text"] (spOf K (c_read_term T.c_InvalidText)) := by
  refine def_okC T.F_read_term sc_read_term _ (fun ds μ Φ Ψ h => len_read_term h) (fun cdv A outer s H E B hW hr =>
    have tk : L2N.Takes (cxOf (L2N.CX P w) P w K mg base N_read_term "read_term" (defScope s_read_term) T.f_read_term cdv A outer s H E) (fun cls d _ H => E cls d H) := L2N.takes_of rfl rfl rfl rfl
    ⟨_, (pss_cons (ps_asg (pe_callS (ok_read_part T) hr rfl T.g_read_part T.F_read_part.kp T.b_read_part (fun σ => L2N.passAt tk σ) (pa_cons (pv 0) (pa_cons pe_int (pa_cons pe_int pa_nil)))) (pg_tup (n := 2) rfl (pgs_cons (pg_name (i := 1) sc_read_term.nd rfl (Or.inl rfl)) (pgs_cons (pg_name (i := 2) sc_read_term.nd rfl (Or.inl rfl)) pgs_nil))))
      (pss_cons (ps_if (pt_cmpR op_lt (pv 2) (pe_callB call_len_str (by rfl) T.z_len PySem.boot_len (pa_cons (pv 0) pa_nil)) (nomark _)) (pss_one (L2N.ps_raise rfl tk (pmk_sup T.ox_InvalidText T.ic_InvalidText T.ti_InvalidText T.no_InvalidText T.in_InvalidText (hr.mono (by decide)) T.bi_InvalidText passN rfl T.g_InvalidText (pa_cons (pv 2) pa_nil)))) pss_nil)
      (pss_one (ps_ret (pv 1))))),
      (sSeq (sAsg (sCallSW (W := fun cls d _ H => E cls d H) (by exact hW) (sCons sVar (sCons sInt (sCons sInt sNil)))) (sgTup (sgCons sName (sgCons sName sgNil))))
      (sSeq (sIfS (sTest (sOp roBl0 sVar (sCB rcLenStr (sCons sVar sNil)))) (sRaise1 (W := fun cls d _ H => E cls d H) (C := T.c_InvalidText) (fld := "position") (by exact hW) okdInt_ok sVar) sNext)
      (sRet sVar)))⟩) (fun ds μ Φ Ψ h => ?hv)
  case hv =>
    obtain ⟨t, rfl, hz, h1, h2⟩ := h
    walk_at "wps"
    refine ⟨t, 0, 1, rfl, hz, Nat.zero_le _, by decide, by decide, by decide, fun x b hb hr => ?_, fun b hb hr => ⟨_, Sub.refl, h2 b hb (.inl hr)⟩⟩
    walk_at "wps"
    rw [List.drop_zero] at hr
    refine ⟨hz, fun c => ⟨⟨b, rfl, log_small (by omega)⟩, _, Sub.refl, h2 b hb (.inr ⟨by omega, x, hr⟩)⟩, fun c => ret_same (h1 x ?_)⟩
    rw [List.drop_of_length_le (i := b) (by omega)] at hr
    exact hr

def c__law_start : Con := fun ds μ Φ _ => ∃ ns, ds = [.scr ns] ∧ ns.length ≤ 63 ∧ ∀ p c, μ p = none → StC ns c → Φ (.hd (.ref p)) (sset μ p (.lst c))
theorem len__law_start {ds μ Φ Ψ} (h : c__law_start ds μ Φ Ψ) : ds.length = 1 := by obtain ⟨i, rfl, _⟩ := h; rfl
theorem ok__law_start {cx : CXT} (T : Txt P K mg) : FnOk P w K mg base cx 1 T.f__law_start T.d__law_start ["_law_script"] (spOf K c__law_start) := by
  refine def_okC T.F__law_start sc__law_start _ (fun ds μ Φ Ψ h => len__law_start h) (fun cdv A outer s H E B hW hr =>
    ⟨_, (pss_cons (ps_set (i := 1) sc__law_start.nd rfl (Or.inl rfl) pe_int)
      (pss_cons (ps_for (passes_of rfl) rfl (pi_range1 rfl T.z_range (pa_cons (pe_callB call_len_seq (by rfl) T.z_len PySem.boot_len (pa_cons (pv 0) pa_nil)) pa_nil)) (pg_name (i := 2) sc__law_start.nd rfl (Or.inl rfl)) (pss_one (ps_set (i := 1) sc__law_start.nd rfl (Or.inl rfl) (pe_op op_mod (pe_op op_add (pe_op op_add (pe_op op_add (pe_op op_mulX (pv 1) pe_int) (pe_op op_mod (pe_callTy call_int1 (by rfl) T.z_int (by decide +kernel) (pa_cons (pe_ix ix_list (pv 0) (pv 2) (fun _ _ => rfl)) pa_nil)) pe_int)) (pv 2)) pe_int) pe_int))))
      (pss_one (ps_ret (pe_lst (pa_cons (pv 1) (pa_cons (pe_callTy call_list_of (by rfl) T.z_list (by decide +kernel) (pa_cons (pv 0) pa_nil)) (pa_cons pe_int (pa_cons pe_int pa_nil))))))))),
      (sSeq (sAsg sInt sName)
      (sSeq (sFor (siR1 (sCB rcLen (sCons sVar sNil))) (fun _ _ _ => sName) (fun _ _ _ => (sAsg (sOp roInt (sOp roInt0 (sOp roInt0 (sOp roInt0 (sOp roInt sVar sInt) (sOp roInt (sCB rcInt (sCons (sOp roIxL sVar sVar) sNil)) sInt)) sVar) sInt) sInt) sName)))
      (sRet (sOwn (sCons sVar (sCons (sCB rcList (sCons sVar sNil)) (sCons sInt (sCons sInt sNil))))))))⟩) (fun ds μ Φ Ψ h => ?hv)
  case hv =>
    obtain ⟨ns, rfl, hl, h⟩ := h
    have hM : ∀ a : Int, 0 ≤ a % 2147483647 ∧ a % 2147483647 < 2147483647 := fun a => ⟨Int.emod_nonneg _ (by omega), Int.emod_lt_of_pos _ (by omega)⟩
    walk_at "wps"
    refine ⟨by omega, by omega, fun i δ' μ' => μ' = μ ∧ ∃ seed x, 0 ≤ seed ∧ seed < 2147483647 ∧ δ' = [some (.scr ns), some (.int seed), x], ⟨rfl, 7, none, by omega, by omega, rfl⟩, ?_, ?_⟩
    · rintro i d δ' μ' hi ⟨rfl, seed, x, h1, h2, rfl⟩
      obtain ⟨hj, rfl⟩ := rngD_get hi
      walk_at "wps"
      refine ⟨mulx 31 17 (by omega) (by decide) (by decide), .int ns[i], ?_, ?_⟩
      · exact atI_nat (by rw [List.getElem?_map, List.getElem?_eq_getElem hj]; rfl)
      · walk_at "wps"
        exact ⟨by decide, by decide, _, _, (hM _).1, (hM _).2, rfl⟩ -- (hM _).1, (hM _).2, rfl⟩
    · rintro δ' μ' ⟨rfl, seed, x, h1, h2, rfl⟩
      walk_at "wps"
      exact ⟨by decide, fun p hp => ret_same (h p _ hp ⟨seed, 0, 0, rfl, h1, h2, by omega, by omega⟩)⟩

def c__law_pick : Con := fun ds μ Φ _ => ∃ st ns c n, ds = [.hd (.ref st), .int n] ∧ μ st = some (.lst c) ∧ StC ns c ∧ 0 < n ∧ n.natAbs.log2 < 9000 ∧ ∀ r c', 0 ≤ r → r < n → StC ns c' → Φ (.int r) (sset μ st (.lst c'))
theorem len__law_pick {ds μ Φ Ψ} (h : c__law_pick ds μ Φ Ψ) : ds.length = 2 := by obtain ⟨i, _, _, _, rfl, _⟩ := h; rfl
theorem pick_cell {ns : List Int} {idx : Int} {P : D → Prop} (h0 : 0 ≤ idx) (h1 : idx < ns.length) (k : ∀ z, P (.int z)) : ∃ d, atI (ns.map D.int) idx = some d ∧ P d := by
  obtain ⟨j, rfl⟩ : ∃ j : Nat, idx = (j : Int) := ⟨idx.toNat, by omega⟩
  have hj : j < ns.length := by omega
  exact ⟨.int ns[j], atI_nat (by rw [List.getElem?_map, List.getElem?_eq_getElem hj]; rfl), k _⟩
theorem pick_tail {μ : Sto} {st : Addr} {ns : List Int} {n seed idx rest cell : Int} {Φ : DK} (hn : 0 < n) (h1 : 0 ≤ seed) (h2 : seed < 2147483647) (h3 : 0 ≤ idx) (h4 : 0 ≤ rest)
    (h : ∀ r c', 0 ≤ r → r < n → StC ns c' → Φ (.int r) (sset μ st (.lst c'))) : ∃ m t : Int, m = (seed + cell % 2147483647 + 1) * 48271 % 2147483647 := ⟨_, 0, rfl⟩
theorem ok__law_pick {cx : CXT} (T : Txt P K mg) : FnOk P w K mg base cx 1 T.f__law_pick T.d__law_pick ["_law_state", "_law_limit"] (spOf K c__law_pick) := by
  refine def_okC T.F__law_pick sc__law_pick _ (fun ds μ Φ Ψ h => len__law_pick h) (fun cdv A outer s H E B hW hr =>
    ⟨_, (pss_cons (ps_if (pt_cmpR op_ge (pe_ix ix_list (pv 0) pe_int (fun _ _ => rfl)) (pv 1) (nomark _)) (pss_cons (ps_set (i := 4) sc__law_pick.nd rfl (Or.inl rfl) (pe_callTy call_int1 (by rfl) T.z_int (by decide +kernel) (pa_cons (pe_ix ix_list (pv 0) pe_int (fun _ _ => rfl)) pa_nil)))
      (pss_cons (ps_asg (pe_op op_fdivW (pv 4) (pv 1)) (pg_sub (pv 0) pe_int set_list))
      (pss_one (ps_ret (pe_op op_mod (pv 4) (pv 1)))))) pss_nil)
      (pss_cons (ps_set (i := 2) sc__law_pick.nd rfl (Or.inl rfl) pe_int)
      (pss_cons (ps_if (pt_cmpR op_lt (pe_ix ix_list (pv 0) pe_int (fun _ _ => rfl)) (pe_callB call_len_seq (by rfl) T.z_len PySem.boot_len (pa_cons (pe_ix ix_list (pv 0) pe_int (fun _ _ => rfl)) pa_nil)) (nomark _)) (pss_cons (ps_set (i := 2) sc__law_pick.nd rfl (Or.inl rfl) (pe_callTy call_int1 (by rfl) T.z_int (by decide +kernel) (pa_cons (pe_ix ix_list (pe_ix ix_list (pv 0) pe_int (fun _ _ => rfl)) (pe_ix ix_list (pv 0) pe_int (fun _ _ => rfl)) (fun _ _ => rfl)) pa_nil)))
      (pss_cons (ps_asg (pe_op op_add (pe_ix ix_list (pv 0) pe_int (fun _ _ => rfl)) pe_int) (pg_sub (pv 0) pe_int set_list))
      (pss_cons (ps_if (pt_cmpR op_lt (pv 2) pe_int (nomark _)) (pss_one (ps_set (i := 2) sc__law_pick.nd rfl (Or.inl rfl) (pe_op op_sub pe_int (pv 2)))) pss_nil)
      (pss_one (ps_if (pt_cmpR op_ge (pv 2) (pe_op op_pow pe_int pe_int) (nomark _)) (pss_cons (ps_asg (pe_op op_fdivW (pv 2) (pv 1)) (pg_sub (pv 0) pe_int set_list))
      (pss_one (ps_ret (pe_op op_mod (pv 2) (pv 1))))) pss_nil))))) pss_nil)
      (pss_cons (ps_set (i := 3) sc__law_pick.nd rfl (Or.inl rfl) (pe_op op_mod (pe_op op_mulX (pe_op op_add (pe_op op_add (pe_callTy call_int1 (by rfl) T.z_int (by decide +kernel) (pa_cons (pe_ix ix_list (pv 0) pe_int (fun _ _ => rfl)) pa_nil)) (pe_op op_mod (pv 2) pe_int)) pe_int) pe_int) pe_int))
      (pss_cons (ps_asg (pe_op op_mod (pe_op op_add (pe_op op_mulX (pv 3) pe_int) pe_int) pe_int) (pg_sub (pv 0) pe_int set_list))
      (pss_one (ps_ret (pe_op op_mod (pe_op op_fdivW (pe_callTy call_int1 (by rfl) T.z_int (by decide +kernel) (pa_cons (pe_ix ix_list (pv 0) pe_int (fun _ _ => rfl)) pa_nil)) pe_int) (pv 1))))))))),
      (sSeq (sIfS (sTest (sOp roBl0 (sOp roIxL sVar sInt) sVar)) (sSeq (sAsg (sCB rcInt (sCons (sOp roIxL sVar sInt) sNil)) sName)
      (sSeq (sAsgS (sOp roInt sVar sVar) sVar sInt)
      (sRet (sOp roInt sVar sVar)))) sNext)
      (sSeq (sAsg sInt sName)
      (sSeq (sIfS (sTest (sOp roBl0 (sOp roIxL sVar sInt) (sCB rcLen (sCons (sOp roIxL sVar sInt) sNil)))) (sSeq (sAsg (sCB rcInt (sCons (sOp roIxL (sOp roIxL sVar sInt) (sOp roIxL sVar sInt)) sNil)) sName)
      (sSeq (sAsgS (sOp roInt0 (sOp roIxL sVar sInt) sInt) sVar sInt)
      (sSeq (sIfS (sTest (sOp roBl0 sVar sInt)) (sAsg (sOp roInt0 sInt sVar) sName) sNext)
      (sIfS (sTest (sOp roBl0 sVar (sOp roInt sInt sInt))) (sSeq (sAsgS (sOp roInt sVar sVar) sVar sInt)
      (sRet (sOp roInt sVar sVar))) sNext)))) sNext)
      (sSeq (sAsg (sOp roInt (sOp roInt (sOp roInt0 (sOp roInt0 (sCB rcInt (sCons (sOp roIxL sVar sInt) sNil)) (sOp roInt sVar sInt)) sInt) sInt) sInt) sName)
      (sSeq (sAsgS (sOp roInt (sOp roInt0 (sOp roInt sVar sInt) sInt) sInt) sVar sInt)
      (sRet (sOp roInt (sOp roInt (sCB rcInt (sCons (sOp roIxL sVar sInt) sNil)) sInt) sVar)))))))⟩) (fun ds μ Φ Ψ h => ?hv)
  case hv =>
    obtain ⟨st, ns, c, n, rfl, hc, ⟨seed, idx, rest, rfl, h1, h2, h3, h4⟩, hn, hl, h⟩ := h
    have hmod : ∀ a : Int, 0 ≤ a % n ∧ a % n < n := fun a => ⟨Int.emod_nonneg _ (by omega), Int.emod_lt_of_pos _ hn⟩
    have hM : ∀ a : Int, 0 ≤ a % 2147483647 ∧ a % 2147483647 < 2147483647 := fun a => ⟨Int.emod_nonneg _ (by omega), Int.emod_lt_of_pos _ (by omega)⟩
    -- what stands at the end, whatever the cell is
    have tail : ∀ (μ' : Sto) (cell idx' : Int) (x4 : Option D), (∀ c', sset μ' st (.lst c') = sset μ st (.lst c')) → μ' st = some (.lst [.int seed, .lst (ns.map .int), .int idx', .int rest]) → 0 ≤ idx' → (dSeq
      (dAsg
        (dOp (oI (fun x j => 0 < j) fun i j => D.int (i % j))
          (dOp (oI CMulX fun i j => D.int (i * j))
            (dOp (oI0 fun i j => D.int (i + j))
              (dOp (oI0 fun i j => D.int (i + j)) (dCB cInt (dCons (dOp oIxL (dVar 0) (dC (D.int 0))) dNil))
                (dOp (oI (fun x j => 0 < j) fun i j => D.int (i % j)) (dVar 2) (dC (D.int 2147483647))))
              (dC (D.int 1)))
            (dC (D.int 48271)))
          (dC (D.int 2147483647)))
        (eName 3))
      (dSeq
        (dAsgS
          (dOp (oI (fun x j => 0 < j) fun i j => D.int (i % j))
            (dOp (oI0 fun i j => D.int (i + j)) (dOp (oI CMulX fun i j => D.int (i * j)) (dVar 3) (dC (D.int 69621)))
              (dC (D.int 12345)))
            (dC (D.int 2147483647)))
          (dVar 0) (dC (D.int 0)))
        (dRet
          (dOp (oI (fun x j => 0 < j) fun i j => D.int (i % j))
            (dOp (oI CDivW fun i j => D.int (i / j)) (dCB cInt (dCons (dOp oIxL (dVar 0) (dC (D.int 0))) dNil))
              (dC (D.int 7)))
            (dVar 1))))) (goalX Ψ) (goalE Φ) [some (.hd (.ref st)), some (.int n), some (.int cell), none, x4] μ' := by
      intro μ' cell idx' x4 hs hc' hi'
      have b1 := hM cell
      have b2 := hM ((seed + cell % 2147483647 + 1) * 48271)
      have b3 := hM ((seed + cell % 2147483647 + 1) * 48271 % 2147483647 * 69621 + 12345)
      clear hM hc
      walk_at "wps"
      simp only [hc']
      walk_at "wp"
      simp only [hc']
      walk_at "wp"
      refine ⟨by decide, mulx 33 17 (by omega) (by decide) (by decide), by decide, mulx 31 18 (by omega) (by decide) (by decide), by decide, wide_div (b := 3) (by decide) (by decide) (by decide) (by decide), hn, ?_⟩
      rw [hs]
      exact ret_same (h _ _ (hmod _).1 (hmod _).2 ⟨_, _, _, rfl, b3.1, b3.2, hi', h4⟩)
    refine q_seq fun nx hnx => ?_
    walk_at "wp"
    simp only [hc]
    walk_at "wp"
    refine ⟨fun c1 => ?_, fun c1 => ?_⟩
    · walk_at "wps"
      simp only [hc]
      walk_at "wp"
      simp only [hc]
      walk_at "wp"
      exact ⟨⟨hn, hl⟩, hn, ret_same (h _ _ (hmod _).1 (hmod _).2 ⟨_, _, _, rfl, h1, h2, h3, Int.ediv_nonneg h4 (by omega)⟩)⟩
    · subst hnx
      refine q_seq fun nx hnx => ?_
      walk_at "wp"
      subst hnx
      refine q_seq fun nx hnx => ?_
      walk_at "wp"
      simp only [hc]
      walk_at "wp"
      refine ⟨fun c2 => ?_, fun c2 => ?_⟩
      · refine q_seq fun nx2 hnx2 => ?_
        walk_at "wp"
        simp only [hc]
        walk_at "wp"
        refine pick_cell h3 c2 fun z => ?_
        walk_at "wp"
        subst hnx2
        refine q_seq fun nx2 hnx2 => ?_
        walk_at "wp"
        simp only [hc]
        walk_at "wp"
        simp only [hc]
        walk_at "wp"
        subst hnx2
        have hc2 : sset μ st (.lst [.int seed, .lst (ns.map .int), .int (idx + 1), .int rest]) st = some (.lst [.int seed, .lst (ns.map .int), .int (idx + 1), .int rest]) := sset_same
        have fin : ∀ z : Int, 0 ≤ z → dIfS (dTest (dOp (oI0 fun i j => D.bl (decide (j ≤ i))) (dVar 2) (dOp (oI CPow fun i j => D.int (i ^ j.toNat)) (dC (D.int 10)) (dC (D.int 18))))) (dSeq (dAsgS (dOp (oI CDivW fun i j => D.int (i / j)) (dVar 2) (dVar 1)) (dVar 0) (dC (D.int 3))) (dRet (dOp (oI (fun x j => 0 < j) fun i j => D.int (i % j)) (dVar 2) (dVar 1)))) dNext
            (goalX Ψ) ⟨nx, (goalE Φ).rt, (goalE Φ).bk, (goalE Φ).ct⟩ [some (.hd (.ref st)), some (.int n), some (.int z), none, none] (sset μ st (.lst [.int seed, .lst (ns.map .int), .int (idx + 1), .int rest])) := by
          intro z hz
          walk_at "wp"
          refine ⟨⟨by decide, by decide, by decide⟩, fun c3 => ?_, fun c3 => ?_⟩
          · walk_at "wps"
            exact ⟨⟨hn, hl⟩, hn, ret_same (h _ _ (hmod _).1 (hmod _).2 ⟨_, _, _, rfl, h1, h2, by omega, Int.ediv_nonneg hz (by omega)⟩)⟩
          · subst hnx
            exact tail _ z (idx + 1) none (fun c' => sset_sset) sset_same (by omega)
        refine q_seq fun nx2 hnx2 => ?_
        walk_at "wp"
        subst hnx2
        refine ⟨fun c3 => ?_, fun c3 => ?_⟩
        · exact fin _ (by omega)
        · exact fin _ (by omega)
      · subst hnx
        exact tail μ 11 idx none (fun _ => rfl) hc h3

end
end LW
set_option Elab.async false
set_option linter.all false
set_option maxRecDepth 100000
namespace LW
open PySem PySem.Spec L2 DW PyProof.Rows
local macro_rules | `(tactic| walk_at "wp") => `(tactic| try simp only [u_isE, w_isE, u_kitER, u_kitET, u_excE, u_xf, w_xf1, u_slS, u_raise1, u_iEn, w_listStr, w_lenStr, w_catStr, w_ixStr, w_inStr, w_strE, w_strI, w_strS, u_rest, cut_to, cut_from1, Int.zero_add, u_revT, w_repT, u_tupG, u_try, u_gPlain, u_gThen, u_gNil, u_yield, u_gWhile, u_while, u_isX, u_kitR, u_kitT, u_excOk, w_zipE, u_goalX, u_lc, rngD_len, Int.toNat_natCast, u_for, u_iT, u_iL, u_iR1, u_iR2, u_iZ, u_iS, w_lstE, dwipe, u_asg, u_asgS, u_ret, u_retN, u_if, u_next, u_break, u_cont, u_drop, u_raise, u_aug, u_var, u_c, u_op, u_un, u_test, u_and, u_or, u_not, u_yes, u_andV, u_orV, u_notV, u_ifE, u_chain, u_nil, u_cons, u_tup, u_lst, u_own, u_cb, u_call, u_callS, u_name, u_etup, u_enil, u_econs, u_sub, u_app, u_slT, u_slL, u_noPart, u_part, u_revL, ex_some, w_I0, w_I, w_uI, w_int, w_bl, w_isi, w_someb, w_eqI, w_neI, w_eqS, w_neS, w_lenT, w_lenL, w_lenS, w_tupL, w_tupT, w_ixT, w_ixL, w_ixS, w_catT, w_catL, w_all, w_any, w_min2, w_divmod, w_listS, w_listL, w_listT, w_isN, w_notN, w_tupE, w_intE, w_consE, w_hdE, w_cellS, w_set, at0, at1, at2, at3, i_tT, i_tI, i_tB, i_tS, i_nT, i_nI, i_nB, i_nS, i_iT, i_iI, i_iB, i_iS, i_bT, i_bI, i_bB, i_bS, i_sT, i_sI, i_sB, i_sS, v_itemsS, w_eqB, isNone, dstart, List.map, List.length, List.replicate, List.cons_append, List.nil_append, List.append_nil, List.getElem?_cons_zero, List.getElem?_cons_succ, List.set_cons_zero, List.set_cons_succ, ix40, ix42, ix43, true_implies, false_implies, and_true, true_and, Bool.not_true, Bool.not_false, decide_eq_true_eq, decide_eq_false_iff_not, List.length_map, Nat.reduceAdd, reduceCtorEq, v_ixH, v_items, v_itemsT, v_itemsL, v_len, v_tuple, v_list, v_listOwn, sset_same, sset_sset, Option.some.injEq, Cell.lst.injEq, Cell.frz.injEq, false_and, exists_false, or_false, false_or, exists_eq_left', ne_eq, not_false_eq_true, isTup, Bool.true_eq_false, Bool.false_eq_true])
local macro_rules | `(tactic| walk_at "wh") => `(tactic| try simp only [*, u_seq, u_isE, w_isE, u_kitER, u_kitET, u_excE, u_xf, w_xf1, u_slS, u_raise1, u_iEn, w_listStr, w_lenStr, w_catStr, w_ixStr, w_inStr, w_strE, w_strI, w_strS, u_rest, cut_to, cut_from1, Int.zero_add, u_revT, w_repT, u_tupG, u_try, u_gPlain, u_gThen, u_gNil, u_yield, u_gWhile, u_while, u_isX, u_kitR, u_kitT, u_excOk, w_zipE, u_goalX, u_lc, rngD_len, Int.toNat_natCast, u_for, u_iT, u_iL, u_iR1, u_iR2, u_iZ, u_iS, w_lstE, dwipe, u_asg, u_asgS, u_ret, u_retN, u_if, u_next, u_break, u_cont, u_drop, u_raise, u_aug, u_var, u_c, u_op, u_un, u_test, u_and, u_or, u_not, u_yes, u_andV, u_orV, u_notV, u_ifE, u_chain, u_nil, u_cons, u_tup, u_lst, u_own, u_cb, u_call, u_callS, u_name, u_etup, u_enil, u_econs, u_sub, u_app, u_slT, u_slL, u_noPart, u_part, u_revL, ex_some, w_I0, w_I, w_uI, w_int, w_bl, w_isi, w_someb, w_eqI, w_neI, w_eqS, w_neS, w_lenT, w_lenL, w_lenS, w_tupL, w_tupT, w_ixT, w_ixL, w_ixS, w_catT, w_catL, w_all, w_any, w_min2, w_divmod, w_listS, w_listL, w_listT, w_isN, w_notN, w_tupE, w_intE, w_consE, w_hdE, w_cellS, w_set, at0, at1, at2, at3, i_tT, i_tI, i_tB, i_tS, i_nT, i_nI, i_nB, i_nS, i_iT, i_iI, i_iB, i_iS, i_bT, i_bI, i_bB, i_bS, i_sT, i_sI, i_sB, i_sS, v_itemsS, w_eqB, isNone, dstart, List.map, List.length, List.replicate, List.cons_append, List.nil_append, List.append_nil, List.getElem?_cons_zero, List.getElem?_cons_succ, List.set_cons_zero, List.set_cons_succ, ix40, ix42, ix43, true_implies, false_implies, and_true, true_and, Bool.not_true, Bool.not_false, decide_eq_true_eq, decide_eq_false_iff_not, List.length_map, Nat.reduceAdd, reduceCtorEq, v_ixH, v_items, v_itemsT, v_itemsL, v_len, v_tuple, v_list, v_listOwn, sset_same, sset_sset, Option.some.injEq, Cell.lst.injEq, Cell.frz.injEq, false_and, exists_false, or_false, false_or, exists_eq_left', ne_eq, not_false_eq_true, isTup, Bool.true_eq_false, Bool.false_eq_true])
local macro_rules | `(tactic| walk_at "wps") => `(tactic| try simp only [u_seq, u_isE, w_isE, u_kitER, u_kitET, u_excE, u_xf, w_xf1, u_slS, u_raise1, u_iEn, w_listStr, w_lenStr, w_catStr, w_ixStr, w_inStr, w_strE, w_strI, w_strS, u_rest, cut_to, cut_from1, Int.zero_add, u_revT, w_repT, u_tupG, u_try, u_gPlain, u_gThen, u_gNil, u_yield, u_gWhile, u_while, u_isX, u_kitR, u_kitT, u_excOk, w_zipE, u_goalX, u_lc, rngD_len, Int.toNat_natCast, u_for, u_iT, u_iL, u_iR1, u_iR2, u_iZ, u_iS, w_lstE, dwipe, u_asg, u_asgS, u_ret, u_retN, u_if, u_next, u_break, u_cont, u_drop, u_raise, u_aug, u_var, u_c, u_op, u_un, u_test, u_and, u_or, u_not, u_yes, u_andV, u_orV, u_notV, u_ifE, u_chain, u_nil, u_cons, u_tup, u_lst, u_own, u_cb, u_call, u_callS, u_name, u_etup, u_enil, u_econs, u_sub, u_app, u_slT, u_slL, u_noPart, u_part, u_revL, ex_some, w_I0, w_I, w_uI, w_int, w_bl, w_isi, w_someb, w_eqI, w_neI, w_eqS, w_neS, w_lenT, w_lenL, w_lenS, w_tupL, w_tupT, w_ixT, w_ixL, w_ixS, w_catT, w_catL, w_all, w_any, w_min2, w_divmod, w_listS, w_listL, w_listT, w_isN, w_notN, w_tupE, w_intE, w_consE, w_hdE, w_cellS, w_set, at0, at1, at2, at3, i_tT, i_tI, i_tB, i_tS, i_nT, i_nI, i_nB, i_nS, i_iT, i_iI, i_iB, i_iS, i_bT, i_bI, i_bB, i_bS, i_sT, i_sI, i_sB, i_sS, v_itemsS, w_eqB, isNone, dstart, List.map, List.length, List.replicate, List.cons_append, List.nil_append, List.append_nil, List.getElem?_cons_zero, List.getElem?_cons_succ, List.set_cons_zero, List.set_cons_succ, ix40, ix42, ix43, true_implies, false_implies, and_true, true_and, Bool.not_true, Bool.not_false, decide_eq_true_eq, decide_eq_false_iff_not, List.length_map, Nat.reduceAdd, reduceCtorEq, v_ixH, v_items, v_itemsT, v_itemsL, v_len, v_tuple, v_list, v_listOwn, sset_same, sset_sset, Option.some.injEq, Cell.lst.injEq, Cell.frz.injEq, false_and, exists_false, or_false, false_or, exists_eq_left', ne_eq, not_false_eq_true, isTup, Bool.true_eq_false, Bool.false_eq_true])
section
variable {P : Program} {w : World} {K : Fg} {mg : Str → Option Value} {base : Heap}
theorem pick_at {μ : Sto} {st : Addr} {ns : List Int} {c : List D} {n : Int} {Φ : DK} {Ψ : XD → Sto → Prop} (hc : μ st = some (.lst c)) (hs : StC ns c) (hn : 0 < n) (hb : n < 2 ^ 100) (h : ∀ r c', 0 ≤ r → r < n → StC ns c' → Φ (.int r) (sset μ st (.lst c'))) : c__law_pick [.hd (.ref st), .int n] μ Φ Ψ :=
  ⟨st, ns, c, n, rfl, hc, hs, hn, Nat.lt_of_lt_of_le (PySem.Flt.log2_lt_of (n := n.natAbs) (by decide : 0 < 100) (by omega)) (by decide), h⟩
def c__law_atom : Con := fun ds μ Φ _ => ∃ (st : Addr) (ns : List Int) (c : List D), ds = [.hd (.ref st)] ∧ μ st = some (.lst c) ∧ StC ns c ∧ ∀ d c', Tm 0 d → (txt d).length ≤ 12 → StC ns c' → Φ d (sset μ st (.lst c'))
theorem len__law_atom {ds μ Φ Ψ} (h : c__law_atom ds μ Φ Ψ) : ds.length = 1 := by obtain ⟨_, _, _, rfl, _⟩ := h; rfl
theorem ok__law_atom (T : Txt P K mg) : FnOk P w K mg base (L2N.CX P w) 2 T.f__law_atom T.d__law_atom ["_law_state"] (spOf K c__law_atom) := by
  refine def_okC T.F__law_atom sc__law_atom _ (fun ds μ Φ Ψ h => len__law_atom h) (fun cdv A outer s H E B hW hr =>
    have tk : L2N.Takes (cxOf (L2N.CX P w) P w K mg base N__law_atom "_law_atom" (defScope s__law_atom) T.f__law_atom cdv A outer s H E) (fun cls d _ H => E cls d H) := L2N.takes_of rfl rfl rfl rfl
    ⟨_, (pss_cons (ps_if (pt_cmpR op_eq (pe_call (ok__law_pick T) hr rfl T.g__law_pick T.F__law_pick.kp T.b__law_pick .nil passN (pa_cons (pv 0) (pa_cons pe_int pa_nil))) pe_int (nomark _)) (pss_cons (ps_set (i := 1) sc__law_atom.nd rfl (Or.inr rfl) pe_str)
      (pss_cons (ps_set (i := 2) sc__law_atom.nd rfl (Or.inl rfl) (pe_op op_add pe_int (pe_call (ok__law_pick T) hr rfl T.g__law_pick T.F__law_pick.kp T.b__law_pick .nil passN (pa_cons (pv 0) (pa_cons pe_int pa_nil)))))
      (pss_one (ps_ret (pe_bm PySem.F.plainAttrs_str PySem.F.slot_str_join PySem.F.type_str_join mt_join pe_str (pa_cons (pe_lc (own := [("_law_k", 3)]) rfl sc__law_atom.nd (pi_range1 rfl T.z_range (pa_cons (pv 2) pa_nil)) (blkOk_by (N := N__law_atom) (sc := defScope s__law_atom) (by decide +kernel)) (fun _ _ _ _ _ => (pg_name (i := 3) sc__law_atom.nd rfl (Or.inl rfl))) (fun _ _ _ _ _ => pts_nil) (fun _ _ _ _ _ => (pe_ix ix_str (pv 1) (pe_call (ok__law_pick T) hr rfl T.g__law_pick T.F__law_pick.kp T.b__law_pick .nil passN (pa_cons (pv 0) (pa_cons pe_int pa_nil))) (fun _ _ => rfl)))) pa_nil)))))) pss_nil)
      (pss_one (ps_ret (pe_call (ok__law_pick T) hr rfl T.g__law_pick T.F__law_pick.kp T.b__law_pick .nil passN (pa_cons (pv 0) (pa_cons (pe_ix ix_list (pe_lst (pa_cons pe_int (pa_cons pe_int (pa_cons pe_int (pa_cons (pe_op op_pow pe_int pe_int) pa_nil))))) (pe_call (ok__law_pick T) hr rfl T.g__law_pick T.F__law_pick.kp T.b__law_pick .nil passN (pa_cons (pv 0) (pa_cons pe_int pa_nil))) (fun _ _ => rfl)) pa_nil)))))),
      (sSeq (sIfS (sTest (sOp roEq (sCall (sCons sVar (sCons sInt sNil))) sInt)) (sSeq (sAsg sStr sName)
      (sSeq (sAsg (sOp roInt0 sInt (sCall (sCons sVar (sCons sInt sNil)))) sName)
      (sRet (sJoin sStr (sLc (siR1 sVar) (gwName List.mem_cons_self) (fun _ _ _ => sName) (fun _ _ _ => sYes) (fun _ _ _ => (sOp roIxS sVar (sCall (sCons sVar (sCons sInt sNil)))))))))) sNext)
      (sRet (sCall (sCons sVar (sCons (sOp roIxL (sLst (sCons sInt (sCons sInt (sCons sInt (sCons (sOp roInt sInt sInt) sNil))))) (sCall (sCons sVar (sCons sInt sNil)))) sNil)))))⟩) (fun ds μ Φ Ψ h => ?hv)
  case hv =>
    obtain ⟨st, ns, c, rfl, hc, hs, h⟩ := h
    walk_at "wps"
    refine pick_at hc hs (by decide) (by decide) fun r c1 r0 r1 s1 => ?_
    walk_at "wps"
    refine ⟨fun c0 => ?_, fun c0 => ?_⟩
    · refine pick_at sset_same s1 (by decide) (by decide) fun r2 c2 r20 r21 s2 => ?_
      rw [sset_sset]
      walk_at "wps"
      simp only [dJoin]
      walk_at "wps"
      refine ⟨by omega, by omega, lcG_drawN (StC ns) (fun i acc => ∃ ls : List Nat, acc = ls.map (fun c => .str (S [c])) ∧ ∀ c ∈ ls, isLet c = true) (by rw [rngD_len]; omega) sset_same s2 ⟨[], rfl, by simp⟩ (fun i d μ2 X acc c3 hi hm hs3 hI hl hx => ?_) ?_⟩
      · obtain ⟨hj, rfl⟩ := rngD_get hi
        obtain ⟨ls, rfl, hls⟩ := hI
        walk_at "wps"
        refine pick_at hm hs3 (by decide) (by decide) fun r4 c4 r40 r41 s4 => ?_
        walk_at "wps"
        obtain ⟨x, hx1, hx2⟩ := let_at r40 r41
        refine ⟨let_len, x, hx1, hx _ _ s4 ⟨ls ++ [x], by rw [List.map_append]; rfl, fun y hy => ?_⟩⟩
        rcases List.mem_append.1 hy with z | z
        · exact hls y z
        · rw [List.mem_singleton.1 z]; exact hx2
      · rintro acc c3 ⟨ls, rfl, hls⟩ hl s3
        rw [List.length_map, rngD_len] at hl
        refine ⟨ls.map fun c => S [c], by rw [List.map_map]; rfl, ?_, ?_⟩
        · have e1 : (List.map (fun x => x.length) (List.map (fun c => S [c]) ls)).sum = ls.length := by
            clear hls hl
            induction ls with
            | nil => rfl
            | cons x l ih => rw [List.map_cons, List.map_cons, List.sum_cons, ih]; show 1 + _ = _; simp; omega
          have e2 : (Str.ofString "").length = 0 := by decide +kernel
          rw [e1, e2, Nat.mul_zero]; omega
        · rw [join_letters, sset_sset]
          have hl1 : ls.length ≤ 12 := by omega
          exact ret_same (h _ c3 (.word (by rw [tl_S]; omega) (by rw [tl_S]; exact hl1) (by rw [tl_S]; exact hls)) (by rw [txt, tl_S]; exact hl1) s3)
    · refine ⟨⟨by decide, by decide, by decide⟩, by decide, pick_at sset_same s1 (by decide) (by decide) fun r2 c2 r20 r21 s2 => ?_⟩
      rw [sset_sset]
      walk_at "wps"
      have fin : ∀ n : Int, 0 < n → n ≤ 1000000000 → c__law_pick [.hd (.ref st), .int n] (sset μ st (.lst c2)) (fun d μ' => ∃ μ2, Sub μ2 μ' ∧ Φ d μ2) fun _ _ => False := fun n n0 n1 => by
        refine pick_at sset_same s2 n0 (by omega) fun r3 c3 r30 r31 s3 => ret_same ?_
        rw [sset_sset]
        exact h _ c3 (.num r30 (by omega)) (by rw [txt]; have := num_len r30 (show r3 < 1000000000 by omega); omega) s3
      have : r2 = 0 ∨ r2 = 1 ∨ r2 = 2 ∨ r2 = 3 := by omega
      rcases this with rfl | rfl | rfl | rfl
      · exact ⟨_, atI_nat (j := 0) rfl, fin 2 (by decide) (by decide)⟩
      · exact ⟨_, atI_nat (j := 1) rfl, fin 10 (by decide) (by decide)⟩
      · exact ⟨_, atI_nat (j := 2) rfl, fin 1000 (by decide) (by decide)⟩
      · exact ⟨_, atI_nat (j := 3) rfl, fin _ (by decide) (by decide)⟩

/-- how long a text of so many levels can be -/
def c__law_term : Nat → Con := fun n ds μ Φ _ => ∃ (st : Addr) (ns : List Int) (c : List D) (i : Nat), ds = [.hd (.ref st), .int i] ∧ i < n ∧ i ≤ 4 ∧ μ st = some (.lst c) ∧ StC ns c ∧ ∀ d c', Tm i d → (txt d).length ≤ 12 * 4 ^ i → StC ns c' → Φ d (sset μ st (.lst c'))
theorem len__law_term {n ds μ Φ Ψ} (h : c__law_term n ds μ Φ Ψ) : ds.length = 2 := by obtain ⟨_, _, _, _, rfl, _⟩ := h; rfl
theorem step__law_term (T : Txt P K mg) {k : Nat} (hk : 3 ≤ k) (n : Nat) (ih__law_term : FnOk P w K mg base (L2N.CX P w) k T.f__law_term T.d__law_term ["_law_state", "_law_levels"] (spOf K (c__law_term n))) : FnOk P w K mg base (L2N.CX P w) (k + 1) T.f__law_term T.d__law_term ["_law_state", "_law_levels"] (spOf K (c__law_term (n + 1))) := by
  refine def_okC T.F__law_term sc__law_term _ (fun ds μ Φ Ψ h => len__law_term h) (fun cdv A outer s H E B hW hr =>
    have tk : L2N.Takes (cxOf (L2N.CX P w) P w K mg base N__law_term "_law_term" (defScope s__law_term) T.f__law_term cdv A outer s H E) (fun cls d _ H => E cls d H) := L2N.takes_of rfl rfl rfl rfl
    ⟨_, (pss_cons (ps_if (PW.pt (pw_or (pt_cmpR op_eq (pv 1) pe_int (nomark _)) (pw_or1 (pt_cmpR op_eq (pe_call (ok__law_pick T) (hr.mono (by omega)) rfl T.g__law_pick T.F__law_pick.kp T.b__law_pick .nil passN (pa_cons (pv 0) (pa_cons pe_int pa_nil))) pe_int (nomark _))))) (pss_one (ps_ret (pe_call (ok__law_atom T) (hr.mono (by omega)) rfl T.g__law_atom T.F__law_atom.kp T.b__law_atom .nil passN (pa_cons (pv 0) pa_nil)))) pss_nil)
      (pss_one (ps_ret (pe_callTy call_tuple_of (by rfl) T.z_tuple (by decide +kernel) (pa_cons (pe_lc (own := [("_law_k", 2)]) rfl sc__law_term.nd (pi_range1 rfl T.z_range (pa_cons (pe_call (ok__law_pick T) (hr.mono (by omega)) rfl T.g__law_pick T.F__law_pick.kp T.b__law_pick .nil passN (pa_cons (pv 0) (pa_cons pe_int pa_nil))) pa_nil)) (blkOk_by (N := N__law_term) (sc := defScope s__law_term) (by decide +kernel)) (fun _ _ _ _ _ => (pg_name (i := 2) sc__law_term.nd rfl (Or.inl rfl))) (fun _ _ _ _ _ => pts_nil) (fun _ _ _ _ _ => (pe_call ih__law_term hr rfl T.g__law_term T.F__law_term.kp T.b__law_term .nil passN (pa_cons (pv 0) (pa_cons (pe_op op_sub (pv 1) pe_int) pa_nil))))) pa_nil))))),
      (sSeq (sIfS (sOr (sTest (sOp roEq sVar sInt)) (sTest (sOp roEq (sCall (sCons sVar (sCons sInt sNil))) sInt))) (sRet (sCall (sCons sVar sNil))) sNext)
      (sRet (sCB rcTuple (sCons (sLc (siR1 (sCall (sCons sVar (sCons sInt sNil)))) (gwName List.mem_cons_self) (fun _ _ _ => sName) (fun _ _ _ => sYes) (fun _ _ _ => (sCall (sCons sVar (sCons (sOp roInt0 sVar sInt) sNil))))) sNil))))⟩) (fun ds μ Φ Ψ h => ?hv)
  case hv =>
    obtain ⟨st, ns, c, i, rfl, hi, hi4, hc, hs, h⟩ := h
    have atom : ∀ (μ1 : Sto) (c1 : List D), μ1 st = some (.lst c1) → (∀ c', sset μ1 st (.lst c') = sset μ st (.lst c')) → StC ns c1 → c__law_atom [.hd (.ref st)] μ1 (fun d μ' => ∃ μ2, Sub μ2 μ' ∧ Φ d μ2) fun _ _ => False := fun μ1 c1 e es s1 => by
      refine ⟨st, ns, c1, rfl, e, s1, fun d c' hd hz s => ret_same ?_⟩
      rw [es]
      have : 12 ≤ 12 * 4 ^ i := Nat.le_mul_of_pos_right _ (Nat.pos_of_ne_zero (by simp))
      exact h d c' (hd.mono (Nat.zero_le _)) (by omega) s
    walk_at "wps"
    refine ⟨fun c0 => atom μ c hc (fun _ => rfl) hs, fun c0 => ?_⟩
    have rest : ∃ j, i = j + 1 := ⟨i - 1, by omega⟩
    obtain ⟨j, rfl⟩ := rest
    refine pick_at hc hs (by decide) (by decide) fun r c1 r0 r1 s1 => ?_
    walk_at "wps"
    refine ⟨fun c2 => atom _ c1 sset_same (fun _ => sset_sset) s1, fun c2 => ?_⟩
    refine pick_at sset_same s1 (by decide) (by decide) fun r2 c2 r20 r21 s2 => ?_
    rw [sset_sset]
    walk_at "wps"
    refine ⟨by omega, by omega, lcG_drawN (StC ns) (fun i acc => (∀ x ∈ acc, Tm j x) ∧ ∀ x ∈ acc, (txt x).length ≤ 12 * 4 ^ j) (by rw [rngD_len]; omega) sset_same s2 ⟨by simp, by simp⟩ (fun i d μ2 X acc c3 hi2 hm hs3 hI hl hx => ?_) ?_⟩
    · walk_at "wps"
      refine ⟨st, ns, c3, j, by rw [show (((j + 1 : Nat) : Int) - 1) = (j : Int) by omega], by omega, by omega, hm, hs3, fun d c' hd hz s4 => hx _ _ s4 ⟨fun y hy => ?_, fun y hy => ?_⟩⟩
      · rcases List.mem_append.1 hy with z | z
        · exact hI.1 y z
        · rw [List.mem_singleton.1 z]; exact hd
      · rcases List.mem_append.1 hy with z | z
        · exact hI.2 y z
        · rw [List.mem_singleton.1 z]; exact hz
    · rintro acc c3 ⟨hI1, hI2⟩ hl s3
      rw [rngD_len] at hl
      rw [sset_sset]
      walk_at "wps"
      refine ret_same (h _ c3 (.tup hI1) ?_ s3)
      have h1 := txts_le hI2
      have h3 : acc.length ≤ 3 := by omega
      have h4 : acc.length * (12 * 4 ^ j) ≤ 3 * (12 * 4 ^ j) := Nat.mul_le_mul_right _ h3
      have h5 : 12 * 4 ^ (j + 1) = 4 * (12 * 4 ^ j) := by rw [Nat.pow_succ]; omega
      have h6 : 12 ≤ 12 * 4 ^ j := Nat.le_mul_of_pos_right _ (Nat.pos_of_ne_zero (by simp))
      rw [txt]
      simp only [List.length_cons, List.length_append, List.length_nil]
      omega

theorem okN__law_term (T : Txt P K mg) : ∀ n, FnOk P w K mg base (L2N.CX P w) (3 + n) T.f__law_term T.d__law_term ["_law_state", "_law_levels"] (spOf K (c__law_term n))
  | 0 => fn_none fun _ _ _ _ ⟨_, _, _, _, _, z, _⟩ => absurd z (Nat.not_lt_zero _)
  | n + 1 => step__law_term T (Nat.le_add_right 3 n) n (okN__law_term T n)
theorem ok__law_term (T : Txt P K mg) : FnOk P w K mg base (L2N.CX P w) 40 T.f__law_term T.d__law_term ["_law_state", "_law_levels"] (spOf K (c__law_term 37)) := okN__law_term T 37
def c__law_text : Nat → Con := fun n ds μ Φ _ => ∃ k d, k < n ∧ ds = [d] ∧ Tm k d ∧ (txt d).length ≤ 90000 ∧ Φ (.str (S (txt d))) μ
theorem len__law_text {n ds μ Φ Ψ} (h : c__law_text n ds μ Φ Ψ) : ds.length = 1 := by obtain ⟨_, _, _, rfl, _⟩ := h; rfl
theorem step__law_text (T : Txt P K mg) {k : Nat} (hk : 0 ≤ k) (n : Nat) (ih__law_text : FnOk P w K mg base (L2N.CX P w) k T.f__law_text T.d__law_text ["_law_term_here"] (spOf K (c__law_text n))) : FnOk P w K mg base (L2N.CX P w) (k + 1) T.f__law_text T.d__law_text ["_law_term_here"] (spOf K (c__law_text (n + 1))) := by
  refine def_okC T.F__law_text sc__law_text _ (fun ds μ Φ Ψ h => len__law_text h) (fun cdv A outer s H E B hW hr =>
    have tk : L2N.Takes (cxOf (L2N.CX P w) P w K mg base N__law_text "_law_text" (defScope s__law_text) T.f__law_text cdv A outer s H E) (fun cls d _ H => E cls d H) := L2N.takes_of rfl rfl rfl rfl
    ⟨_, (pss_cons (ps_if (pt_val (pe_callB call_isi (by rfl) T.z_isinstance (by decide +kernel) (pa_cons (pv 0) (pa_cons (pe_bltn (v := .ty "tuple") rfl T.z_tuple (by decide +kernel) rfl) pa_nil)))) (pss_one (ps_ret (pe_op op_add_str (pe_op op_add_str pe_str (pe_bm PySem.F.plainAttrs_str PySem.F.slot_str_join PySem.F.type_str_join mt_join pe_str (pa_cons (pe_lc (own := [("_law_item", 1)]) rfl sc__law_text.nd (pi_tup (pv 0)) (blkOk_by (N := N__law_text) (sc := defScope s__law_text) (by decide +kernel)) (fun _ _ _ _ _ => (pg_name (i := 1) sc__law_text.nd rfl (Or.inl rfl))) (fun _ _ _ _ _ => pts_nil) (fun _ _ _ _ _ => (pe_call ih__law_text hr rfl T.g__law_text T.F__law_text.kp T.b__law_text .nil passN (pa_cons (pv 1) pa_nil)))) pa_nil))) pe_str))) pss_nil)
      (pss_one (ps_ret (pe_callTy call_strA (by rfl) T.z_str (by decide +kernel) (pa_cons (pv 0) pa_nil))))),
      (sSeq (sIfS (sB (sCB (rcIsi (T := "tuple")) (sCons sVar (sCons sHd sNil)))) (sRet (sOp roCatS (sOp roCatS sStr (sJoin sStr (sLc (siT sVar) (gwName List.mem_cons_self) (fun _ _ _ => sName) (fun _ _ _ => sYes) (fun _ _ _ => (sCall (sCons sVar sNil)))))) sStr)) sNext)
      (sRet (sCB rcStr (sCons sVar sNil))))⟩) (fun ds μ Φ Ψ h => ?hv)
  case hv =>
    obtain ⟨k, d, hk, rfl, hd, hz, h⟩ := h
    cases hd with
    | @word _ s h0 h1 h2 => walk_at "wps"; rw [txt, S_tl] at h; exact ret_same h
    | @num _ i h0 h1 =>
      walk_at "wps"
      refine ⟨Nat.lt_of_lt_of_le (PySem.Flt.log2_lt_of (n := i.natAbs) (by decide : 0 < 100) (by omega)) (by decide), ret_same ?_⟩
      have e := TL.tl_num i.toNat
      rw [Int.toNat_of_nonneg h0] at e
      rw [txt, ← e, S_tl] at h
      exact h
    | @tup k' l hx =>
      rw [txt] at h hz
      have hb : (txts l).length ≤ 90000 := by simp at hz; omega
      have hsz : l.length ≤ (txts l).length := items_len hx
      have hsum := join_size hx
      walk_at "wps"
      simp only [dJoin]
      walk_at "wps"
      refine lcG_mapN (fun i => .str (S (txt (l.getD i .non)))) (by omega) (fun i d μ2 X hi hsub hx2 => ?_) ?_
      · walk_at "wps"
        have e : l.getD i .non = d := by rw [List.getD_eq_getElem?_getD, hi]; rfl
        rw [e] at hx2
        exact ⟨_, _, by omega, rfl, hx d (List.mem_of_getElem? hi), Nat.le_trans (item_le (List.mem_of_getElem? hi)) hb, hx2⟩
      · rw [range_map (f := fun x => D.str (S (txt x)))]
        refine ⟨l.map fun x => S (txt x), by rw [List.map_map]; rfl, ?_, ?_⟩
        · have e1 : (List.map (fun x => x.length) (List.map (fun x => S (txt x)) l)).sum = (List.map (fun x => (txt x).length) l).sum := by
            rw [List.map_map]
            congr 1
          have e2 : (Str.ofString " ").length = 1 := by decide +kernel
          rw [e1, e2, List.length_map]
          omega
        · rw [join_txts]
          walk_at "wps"
          have o1 : TL.tl (Str.ofString "(") = [40] := by decide +kernel
          have o2 : TL.tl (Str.ofString ")") = [41] := by decide +kernel
          have e : Str.ofString "(" ++ S (txts l) ++ Str.ofString ")" = S (40 :: (txts l ++ [41])) := by
            rw [← S_tl (_ ++ _ ++ _), TL.tl_append, TL.tl_append, tl_S, o1, o2]; rfl
          rw [e, TL.tl_append, tl_S, o1, o2]
          exact ⟨by simp; omega, by simp; omega, ret_same h⟩

end
end LW
set_option Elab.async false
set_option linter.all false
set_option maxRecDepth 100000
namespace LW
open PySem PySem.Spec L2 DW PyProof.Rows
local macro_rules | `(tactic| walk_at "wp") => `(tactic| try simp only [u_isE, w_isE, u_kitER, u_kitET, u_excE, u_xf, w_xf1, u_slS, u_raise1, u_iEn, w_listStr, w_lenStr, w_catStr, w_ixStr, w_inStr, w_strE, w_strI, w_strS, u_rest, cut_to, cut_from1, Int.zero_add, u_revT, w_repT, u_tupG, u_try, u_gPlain, u_gThen, u_gNil, u_yield, u_gWhile, u_while, u_isX, u_kitR, u_kitT, u_excOk, w_zipE, u_goalX, u_lc, rngD_len, Int.toNat_natCast, u_for, u_iT, u_iL, u_iR1, u_iR2, u_iZ, u_iS, w_lstE, dwipe, u_asg, u_asgS, u_ret, u_retN, u_if, u_next, u_break, u_cont, u_drop, u_raise, u_aug, u_var, u_c, u_op, u_un, u_test, u_and, u_or, u_not, u_yes, u_andV, u_orV, u_notV, u_ifE, u_chain, u_nil, u_cons, u_tup, u_lst, u_own, u_cb, u_call, u_callS, u_name, u_etup, u_enil, u_econs, u_sub, u_app, u_slT, u_slL, u_noPart, u_part, u_revL, ex_some, w_I0, w_I, w_uI, w_int, w_bl, w_isi, w_someb, w_eqI, w_neI, w_eqS, w_neS, w_lenT, w_lenL, w_lenS, w_tupL, w_tupT, w_ixT, w_ixL, w_ixS, w_catT, w_catL, w_all, w_any, w_min2, w_divmod, w_listS, w_listL, w_listT, w_isN, w_notN, w_tupE, w_intE, w_consE, w_hdE, w_cellS, w_set, at0, at1, at2, at3, i_tT, i_tI, i_tB, i_tS, i_nT, i_nI, i_nB, i_nS, i_iT, i_iI, i_iB, i_iS, i_bT, i_bI, i_bB, i_bS, i_sT, i_sI, i_sB, i_sS, v_itemsS, w_eqB, isNone, dstart, List.map, List.length, List.replicate, List.cons_append, List.nil_append, List.append_nil, List.getElem?_cons_zero, List.getElem?_cons_succ, List.set_cons_zero, List.set_cons_succ, ix40, ix42, ix43, true_implies, false_implies, and_true, true_and, Bool.not_true, Bool.not_false, decide_eq_true_eq, decide_eq_false_iff_not, List.length_map, Nat.reduceAdd, reduceCtorEq, v_ixH, v_items, v_itemsT, v_itemsL, v_len, v_tuple, v_list, v_listOwn, sset_same, sset_sset, Option.some.injEq, Cell.lst.injEq, Cell.frz.injEq, false_and, exists_false, or_false, false_or, exists_eq_left', ne_eq, not_false_eq_true, isTup, Bool.true_eq_false, Bool.false_eq_true])
local macro_rules | `(tactic| walk_at "wh") => `(tactic| try simp only [*, u_seq, u_isE, w_isE, u_kitER, u_kitET, u_excE, u_xf, w_xf1, u_slS, u_raise1, u_iEn, w_listStr, w_lenStr, w_catStr, w_ixStr, w_inStr, w_strE, w_strI, w_strS, u_rest, cut_to, cut_from1, Int.zero_add, u_revT, w_repT, u_tupG, u_try, u_gPlain, u_gThen, u_gNil, u_yield, u_gWhile, u_while, u_isX, u_kitR, u_kitT, u_excOk, w_zipE, u_goalX, u_lc, rngD_len, Int.toNat_natCast, u_for, u_iT, u_iL, u_iR1, u_iR2, u_iZ, u_iS, w_lstE, dwipe, u_asg, u_asgS, u_ret, u_retN, u_if, u_next, u_break, u_cont, u_drop, u_raise, u_aug, u_var, u_c, u_op, u_un, u_test, u_and, u_or, u_not, u_yes, u_andV, u_orV, u_notV, u_ifE, u_chain, u_nil, u_cons, u_tup, u_lst, u_own, u_cb, u_call, u_callS, u_name, u_etup, u_enil, u_econs, u_sub, u_app, u_slT, u_slL, u_noPart, u_part, u_revL, ex_some, w_I0, w_I, w_uI, w_int, w_bl, w_isi, w_someb, w_eqI, w_neI, w_eqS, w_neS, w_lenT, w_lenL, w_lenS, w_tupL, w_tupT, w_ixT, w_ixL, w_ixS, w_catT, w_catL, w_all, w_any, w_min2, w_divmod, w_listS, w_listL, w_listT, w_isN, w_notN, w_tupE, w_intE, w_consE, w_hdE, w_cellS, w_set, at0, at1, at2, at3, i_tT, i_tI, i_tB, i_tS, i_nT, i_nI, i_nB, i_nS, i_iT, i_iI, i_iB, i_iS, i_bT, i_bI, i_bB, i_bS, i_sT, i_sI, i_sB, i_sS, v_itemsS, w_eqB, isNone, dstart, List.map, List.length, List.replicate, List.cons_append, List.nil_append, List.append_nil, List.getElem?_cons_zero, List.getElem?_cons_succ, List.set_cons_zero, List.set_cons_succ, ix40, ix42, ix43, true_implies, false_implies, and_true, true_and, Bool.not_true, Bool.not_false, decide_eq_true_eq, decide_eq_false_iff_not, List.length_map, Nat.reduceAdd, reduceCtorEq, v_ixH, v_items, v_itemsT, v_itemsL, v_len, v_tuple, v_list, v_listOwn, sset_same, sset_sset, Option.some.injEq, Cell.lst.injEq, Cell.frz.injEq, false_and, exists_false, or_false, false_or, exists_eq_left', ne_eq, not_false_eq_true, isTup, Bool.true_eq_false, Bool.false_eq_true])
local macro_rules | `(tactic| walk_at "wps") => `(tactic| try simp only [u_seq, u_isE, w_isE, u_kitER, u_kitET, u_excE, u_xf, w_xf1, u_slS, u_raise1, u_iEn, w_listStr, w_lenStr, w_catStr, w_ixStr, w_inStr, w_strE, w_strI, w_strS, u_rest, cut_to, cut_from1, Int.zero_add, u_revT, w_repT, u_tupG, u_try, u_gPlain, u_gThen, u_gNil, u_yield, u_gWhile, u_while, u_isX, u_kitR, u_kitT, u_excOk, w_zipE, u_goalX, u_lc, rngD_len, Int.toNat_natCast, u_for, u_iT, u_iL, u_iR1, u_iR2, u_iZ, u_iS, w_lstE, dwipe, u_asg, u_asgS, u_ret, u_retN, u_if, u_next, u_break, u_cont, u_drop, u_raise, u_aug, u_var, u_c, u_op, u_un, u_test, u_and, u_or, u_not, u_yes, u_andV, u_orV, u_notV, u_ifE, u_chain, u_nil, u_cons, u_tup, u_lst, u_own, u_cb, u_call, u_callS, u_name, u_etup, u_enil, u_econs, u_sub, u_app, u_slT, u_slL, u_noPart, u_part, u_revL, ex_some, w_I0, w_I, w_uI, w_int, w_bl, w_isi, w_someb, w_eqI, w_neI, w_eqS, w_neS, w_lenT, w_lenL, w_lenS, w_tupL, w_tupT, w_ixT, w_ixL, w_ixS, w_catT, w_catL, w_all, w_any, w_min2, w_divmod, w_listS, w_listL, w_listT, w_isN, w_notN, w_tupE, w_intE, w_consE, w_hdE, w_cellS, w_set, at0, at1, at2, at3, i_tT, i_tI, i_tB, i_tS, i_nT, i_nI, i_nB, i_nS, i_iT, i_iI, i_iB, i_iS, i_bT, i_bI, i_bB, i_bS, i_sT, i_sI, i_sB, i_sS, v_itemsS, w_eqB, isNone, dstart, List.map, List.length, List.replicate, List.cons_append, List.nil_append, List.append_nil, List.getElem?_cons_zero, List.getElem?_cons_succ, List.set_cons_zero, List.set_cons_succ, ix40, ix42, ix43, true_implies, false_implies, and_true, true_and, Bool.not_true, Bool.not_false, decide_eq_true_eq, decide_eq_false_iff_not, List.length_map, Nat.reduceAdd, reduceCtorEq, v_ixH, v_items, v_itemsT, v_itemsL, v_len, v_tuple, v_list, v_listOwn, sset_same, sset_sset, Option.some.injEq, Cell.lst.injEq, Cell.frz.injEq, false_and, exists_false, or_false, false_or, exists_eq_left', ne_eq, not_false_eq_true, isTup, Bool.true_eq_false, Bool.false_eq_true])
section
variable {P : Program} {w : World} {K : Fg} {mg : Str → Option Value} {base : Heap}
theorem okN__law_text (T : Txt P K mg) : ∀ n, FnOk P w K mg base (L2N.CX P w) n T.f__law_text T.d__law_text ["_law_term_here"] (spOf K (c__law_text n))
  | 0 => fn_none fun _ _ _ _ ⟨_, _, h, _⟩ => absurd h (Nat.not_lt_zero _)
  | n + 1 => step__law_text T (Nat.zero_le _) n (okN__law_text T n)
theorem ok__law_text (T : Txt P K mg) : FnOk P w K mg base (L2N.CX P w) 40 T.f__law_text T.d__law_text ["_law_term_here"] (spOf K (c__law_text 40)) := okN__law_text T 40
def msD (s : MS) : D := .lst [.str (kName s.k), .int s.m, .int s.d]
def msO : Option MS → D
  | none => .non
  | some s => msD s
def c__law_next : Con := fun ds μ Φ _ => ∃ (s : MS) (c : Nat), ds = [.str (kName s.k), .int s.m, .int s.d, .str ⟨#[c]⟩] ∧ (s.k = .opn → 0 < s.d) ∧ Φ (msO (nx s c)) μ
theorem len__law_next {ds μ Φ Ψ} (h : c__law_next ds μ Φ Ψ) : ds.length = 4 := by obtain ⟨_, _, rfl, _⟩ := h; rfl
theorem ok__law_next {cx : CXT} (T : Txt P K mg) : FnOk P w K mg base cx 1 T.f__law_next T.d__law_next ["_law_kind", "_law_many", "_law_depth", "_law_sign"] (spOf K c__law_next) := by
  refine def_okC T.F__law_next sc__law_next _ (fun ds μ Φ Ψ h => len__law_next h) (fun cdv A outer s H E B hW hr =>
    ⟨_, (pss_cons (ps_set (i := 4) sc__law_next.nd rfl (Or.inl rfl) pe_str)
      (pss_cons (ps_if (PW.pt (pw_or (pt_cmpR op_eq (pv 0) pe_str (nomark _)) (pw_or1 (pt_cmpR op_eq (pv 0) pe_str (nomark _))))) (pss_cons (ps_if (pt_cmpR op_in_sign (pv 3) (pv 4) (by with_unfolding_all rfl)) (pss_one (ps_ret (pe_lst (pa_cons pe_str (pa_cons pe_int (pa_cons (pv 2) pa_nil)))))) pss_nil)
      (pss_cons (ps_if (pt_cmpR op_eq (pv 3) pe_str (nomark _)) (pss_one (ps_ret (pe_lst (pa_cons pe_str (pa_cons pe_int (pa_cons (pv 2) pa_nil)))))) pss_nil)
      (pss_cons (ps_if (pt_cmpR op_in_sign (pv 3) pe_str (by with_unfolding_all rfl)) (pss_one (ps_ret (pe_lst (pa_cons pe_str (pa_cons pe_int (pa_cons (pv 2) pa_nil)))))) pss_nil)
      (pss_cons (ps_if (PW.pt (pw_and (pt_cmpR op_eq (pv 3) pe_str (nomark _)) (pw_and1 (pt_cmpR op_lt (pv 2) pe_int (nomark _))))) (pss_one (ps_ret (pe_lst (pa_cons pe_str (pa_cons pe_int (pa_cons (pe_op op_add (pv 2) pe_int) pa_nil)))))) pss_nil)
      (pss_cons (ps_if (PW.pt (pw_and (pt_cmpR op_eq (pv 3) pe_str (nomark _)) (pw_and1 (pt_cmpR op_eq (pv 0) pe_str (nomark _))))) (pss_one (ps_ret (pe_lst (pa_cons pe_str (pa_cons pe_int (pa_cons (pe_op op_sub (pv 2) pe_int) pa_nil)))))) pss_nil)
      (pss_one (ps_ret pe_non))))))) pss_nil)
      (pss_cons (ps_if (PW.pt (pw_and (pt_cmpR op_eq (pv 0) pe_str (nomark _)) (pw_and (pt_cmpR op_in_sign (pv 3) (pv 4) (by with_unfolding_all rfl)) (pw_and1 (pt_cmpR op_lt (pv 1) pe_int (nomark _)))))) (pss_one (ps_ret (pe_lst (pa_cons pe_str (pa_cons (pe_op op_add (pv 1) pe_int) (pa_cons (pv 2) pa_nil)))))) pss_nil)
      (pss_cons (ps_if (PW.pt (pw_and (pt_cmpR op_eq (pv 0) pe_str (nomark _)) (pw_and (pt_cmpR op_in_sign (pv 3) pe_str (by with_unfolding_all rfl)) (pw_and1 (pt_cmpR op_lt (pv 1) pe_int (nomark _)))))) (pss_one (ps_ret (pe_lst (pa_cons pe_str (pa_cons (pe_op op_add (pv 1) pe_int) (pa_cons (pv 2) pa_nil)))))) pss_nil)
      (pss_cons (ps_if (PW.pt (pw_and (pt_cmpR op_gt (pv 2) pe_int (nomark _)) (pw_and1 (pt_cmpR op_eq (pv 3) pe_str (nomark _))))) (pss_one (ps_ret (pe_lst (pa_cons pe_str (pa_cons pe_int (pa_cons (pv 2) pa_nil)))))) pss_nil)
      (pss_cons (ps_if (PW.pt (pw_and (pt_cmpR op_gt (pv 2) pe_int (nomark _)) (pw_and1 (pt_cmpR op_eq (pv 3) pe_str (nomark _))))) (pss_one (ps_ret (pe_lst (pa_cons pe_str (pa_cons pe_int (pa_cons (pe_op op_sub (pv 2) pe_int) pa_nil)))))) pss_nil)
      (pss_one (ps_ret pe_non)))))))),
      (sSeq (sAsg sStr sName)
      (sSeq (sIfS (sOr (sTest (sOp roEq sVar sStr)) (sTest (sOp roEq sVar sStr))) (sSeq (sIfS (sTest (sOp roInS sVar sVar)) (sRet (sLst (sCons sStr (sCons sInt (sCons sVar sNil))))) sNext)
      (sSeq (sIfS (sTest (sOp roEq sVar sStr)) (sRet (sLst (sCons sStr (sCons sInt (sCons sVar sNil))))) sNext)
      (sSeq (sIfS (sTest (sOp roInS sVar sStr)) (sRet (sLst (sCons sStr (sCons sInt (sCons sVar sNil))))) sNext)
      (sSeq (sIfS (sAnd (sTest (sOp roEq sVar sStr)) (sTest (sOp roBl0 sVar sInt))) (sRet (sLst (sCons sStr (sCons sInt (sCons (sOp roInt0 sVar sInt) sNil))))) sNext)
      (sSeq (sIfS (sAnd (sTest (sOp roEq sVar sStr)) (sTest (sOp roEq sVar sStr))) (sRet (sLst (sCons sStr (sCons sInt (sCons (sOp roInt0 sVar sInt) sNil))))) sNext)
      (sRet sNon)))))) sNext)
      (sSeq (sIfS (sAnd (sTest (sOp roEq sVar sStr)) (sAnd (sTest (sOp roInS sVar sVar)) (sTest (sOp roBl0 sVar sInt)))) (sRet (sLst (sCons sStr (sCons (sOp roInt0 sVar sInt) (sCons sVar sNil))))) sNext)
      (sSeq (sIfS (sAnd (sTest (sOp roEq sVar sStr)) (sAnd (sTest (sOp roInS sVar sStr)) (sTest (sOp roBl0 sVar sInt)))) (sRet (sLst (sCons sStr (sCons (sOp roInt0 sVar sInt) (sCons sVar sNil))))) sNext)
      (sSeq (sIfS (sAnd (sTest (sOp roBl0 sVar sInt)) (sTest (sOp roEq sVar sStr))) (sRet (sLst (sCons sStr (sCons sInt (sCons sVar sNil))))) sNext)
      (sSeq (sIfS (sAnd (sTest (sOp roBl0 sVar sInt)) (sTest (sOp roEq sVar sStr))) (sRet (sLst (sCons sStr (sCons sInt (sCons (sOp roInt0 sVar sInt) sNil))))) sNext)
      (sRet sNon)))))))⟩) (fun ds μ Φ Ψ h => ?hv)
  case hv =>
    obtain ⟨⟨k, m, d⟩, c, rfl, ho, h⟩ := h
    have e0 : ((0 : Int) < (d : Int)) = (0 < d) := propext (by omega)
    have e1 : ((d : Int) < 30) = (d < 30) := propext (by omega)
    have e2 : ((m : Int) < 12) = (m < 12) := propext (by omega)
    have e3 : ((m : Int) < 9) = (m < 9) := propext (by omega)
    have e4 : ∀ n : Nat, ((n : Int) + 1) = ((n + 1 : Nat) : Int) := fun n => by omega
    have e5 : 0 < d → ((d : Int) - 1) = ((d - 1 : Nat) : Int) := fun n => by omega
    walk_at "wps"
    simp only [kn_item, kn_open, kn_word, kn_num, in_let1, in_dig1, in_dig2, sg_eq "0" o_zero, sg_eq "(" o_open, sg_eq ")" o_close, sg_eq " " o_space, e0, e1, e2, e3]
    dsimp only at ho h ⊢
    cases k <;> simp only [reduceCtorEq, not_false_eq_true, not_true_eq_false, false_implies, true_implies, and_true, true_and, or_true, true_or, or_false] at ho ⊢
    all_goals (repeat' (first | apply And.intro | intro _))
    all_goals first | decide | (refine ret_same ?_; (try rw [e4]); (try rw [e5 (by omega)]); simp_all [nx, sepN, msO, msD, kName])

def c__law_fault : Con := fun ds μ Φ _ => ∃ t : Str, ds = [.str t] ∧ (TL.tl t).length ≤ 100000 ∧ Φ (.int (faultL (TL.tl t))) μ
theorem len__law_fault {ds μ Φ Ψ} (h : c__law_fault ds μ Φ Ψ) : ds.length = 1 := by obtain ⟨_, rfl, _⟩ := h; rfl
theorem ok__law_fault (T : Txt P K mg) : FnOk P w K mg base (L2N.CX P w) 2 T.f__law_fault T.d__law_fault ["_law_text_here"] (spOf K c__law_fault) := by
  refine def_okC T.F__law_fault sc__law_fault _ (fun ds μ Φ Ψ h => len__law_fault h) (fun cdv A outer s H E B hW hr =>
    have tk : L2N.Takes (cxOf (L2N.CX P w) P w K mg base N__law_fault "_law_fault" (defScope s__law_fault) T.f__law_fault cdv A outer s H E) (fun cls d _ H => E cls d H) := L2N.takes_of rfl rfl rfl rfl
    ⟨_, (pss_cons (ps_set (i := 1) sc__law_fault.nd rfl (Or.inl rfl) (pe_lst (pa_cons pe_str (pa_cons pe_int (pa_cons pe_int pa_nil)))))
      (pss_cons (ps_for (passes_of rfl) rfl (pi_range1 rfl T.z_range (pa_cons (pe_callB call_len_str (by rfl) T.z_len PySem.boot_len (pa_cons (pv 0) pa_nil)) pa_nil)) (pg_name (i := 2) sc__law_fault.nd rfl (Or.inl rfl)) (pss_cons (ps_set (i := 1) sc__law_fault.nd rfl (Or.inl rfl) (pe_call (ok__law_next T) hr rfl T.g__law_next T.F__law_next.kp T.b__law_next .nil passN (pa_cons (pe_ix ix_list (pv 1) pe_int (fun _ _ => rfl)) (pa_cons (pe_ix ix_list (pv 1) pe_int (fun _ _ => rfl)) (pa_cons (pe_ix ix_list (pv 1) pe_int (fun _ _ => rfl)) (pa_cons (pe_ix ix_str (pv 0) (pv 2) (fun _ _ => rfl)) pa_nil))))))
      (pss_one (ps_if (pt_cmpR op_isN (pv 1) pe_non (nomark _)) (pss_one (ps_ret (pv 2))) pss_nil))))
      (pss_cons (ps_if (PW.pt (pw_and (pt_cmpR op_eq (pe_ix ix_list (pv 1) pe_int (fun _ _ => rfl)) pe_int (nomark _)) (pw_and1 (pt_cmpR op_notIn_seq (pe_ix ix_list (pv 1) pe_int (fun _ _ => rfl)) (pe_lst (pa_cons pe_str (pa_cons pe_str pa_nil))) (by with_unfolding_all rfl))))) (pss_one (ps_ret (pe_un un_neg pe_int))) pss_nil)
      (pss_one (ps_ret (pe_callB call_len_str (by rfl) T.z_len PySem.boot_len (pa_cons (pv 0) pa_nil))))))),
      (sSeq (sAsg (sLst (sCons sStr (sCons sInt (sCons sInt sNil)))) sName)
      (sSeq (sFor (siR1 (sCB rcLenStr (sCons sVar sNil))) (fun _ _ _ => sName) (fun _ _ _ => (sSeq (sAsg (sCall (sCons (sOp roIxL sVar sInt) (sCons (sOp roIxL sVar sInt) (sCons (sOp roIxL sVar sInt) (sCons (sOp roIxS sVar sVar) sNil))))) sName)
      (sIfS (sTest (sOp roIsN sVar sNon)) (sRet sVar) sNext))))
      (sSeq (sIfS (sAnd (sTest (sOp roEq (sOp roIxL sVar sInt) sInt)) (sTest (sOp (roIn (neg := true)) (sOp roIxL sVar sInt) (sLst (sCons sStr (sCons sStr sNil)))))) (sRet (sUn ruInt sInt)) sNext)
      (sRet (sCB rcLenStr (sCons sVar sNil))))))⟩) (fun ds μ Φ Ψ h => ?hv)
  case hv =>
    obtain ⟨t, rfl, hz, h⟩ := h
    walk_at "wps"
    refine ⟨by decide, hz, by omega, by omega, fun i δ' μ' => μ' = μ ∧ ∃ (s : MS) (x : Option D), (s.k = .opn → 0 < s.d) ∧ run ⟨.item, 0, 0⟩ (TL.tl t) = run s ((TL.tl t).drop i) ∧ δ' = [some (.str t), some (msD s), x], ⟨rfl, ⟨.item, 0, 0⟩, none, nofun, rfl, rfl⟩, ?_, ?_⟩
    · rintro i d δ' μ' hi ⟨rfl, s, x, ho, hr, rfl⟩
      obtain ⟨hj, rfl⟩ := rngD_get hi
      simp only [msD]
      walk_at "wps"
      refine ⟨hz, (TL.tl t)[i], atI_nat (List.getElem?_eq_getElem hj), s, (TL.tl t)[i], rfl, ho, ?_⟩
      have hd : (TL.tl t).drop i = (TL.tl t)[i] :: (TL.tl t).drop (i + 1) := List.drop_eq_getElem_cons hj
      rw [hd, run] at hr
      cases e : nx s (TL.tl t)[i] with
      | none =>
        simp only [msO]
        walk_at "wps"
        rw [e] at hr
        refine ret_same ?_
        have e2 : faultL (TL.tl t) = i := by
          rw [faultL, hr, ← hd]
          show ((TL.tl t).length : Int) - ((TL.tl t).drop i).length = i
          rw [List.length_drop]; omega
        rw [e2] at h; exact h
      | some s' =>
        rw [e] at hr
        simp only [msO, msD]
        walk_at "wps"
        exact ⟨s', _, nx_opn e, hr, rfl⟩
    · rintro δ' μ' ⟨rfl, s, x, ho, hr, rfl⟩
      simp only [msD]
      walk_at "wps"
      rw [List.drop_of_length_le (Nat.le_refl _), run] at hr
      have e1 : faultL (TL.tl t) = if s.d = 0 ∧ ¬(s.k = .item ∨ s.k = .opn) then -1 else ((TL.tl t).length : Int) := by rw [faultL, hr]; rfl
      rw [e1] at h
      refine ⟨fun c => ⟨by decide, _, .lst _, rfl, rfl, ?_⟩, fun c => ⟨hz, ret_same ?_⟩⟩
      · have e2 : inD (.str (kName s.k)) [.str (Str.ofString "item"), .str (Str.ofString "open")] = decide (s.k = .item ∨ s.k = .opn) := by
          generalize s.k = k
          cases k <;> decide +kernel
        rw [if_pos rfl, e2]
        have c0 : s.d = 0 := by omega
        by_cases q : s.k = .item ∨ s.k = .opn
        · rw [if_neg (by simp [q])] at h
          rw [decide_eq_true q]
          walk_at "wps"
          exact ⟨hz, ret_same h⟩
        · rw [if_pos ⟨c0, q⟩] at h
          rw [decide_eq_false q]
          walk_at "wps"
          exact ret_same h
      · rw [if_neg (by omega)] at h
        exact h

end
end LW
set_option Elab.async false
set_option linter.all false
set_option maxRecDepth 100000
namespace LW
open PySem PySem.Spec L2 DW PyProof.Rows
local macro_rules | `(tactic| walk_at "wp") => `(tactic| try simp only [u_isE, w_isE, u_kitER, u_kitET, u_excE, u_xf, w_xf1, u_slS, u_raise1, u_iEn, w_listStr, w_lenStr, w_catStr, w_ixStr, w_inStr, w_strE, w_strI, w_strS, u_rest, cut_to, cut_from1, Int.zero_add, u_revT, w_repT, u_tupG, u_try, u_gPlain, u_gThen, u_gNil, u_yield, u_gWhile, u_while, u_isX, u_kitR, u_kitT, u_excOk, w_zipE, u_goalX, u_lc, rngD_len, Int.toNat_natCast, u_for, u_iT, u_iL, u_iR1, u_iR2, u_iZ, u_iS, w_lstE, dwipe, u_asg, u_asgS, u_ret, u_retN, u_if, u_next, u_break, u_cont, u_drop, u_raise, u_aug, u_var, u_c, u_op, u_un, u_test, u_and, u_or, u_not, u_yes, u_andV, u_orV, u_notV, u_ifE, u_chain, u_nil, u_cons, u_tup, u_lst, u_own, u_cb, u_call, u_callS, u_name, u_etup, u_enil, u_econs, u_sub, u_app, u_slT, u_slL, u_noPart, u_part, u_revL, ex_some, w_I0, w_I, w_uI, w_int, w_bl, w_isi, w_someb, w_eqI, w_neI, w_eqS, w_neS, w_lenT, w_lenL, w_lenS, w_tupL, w_tupT, w_ixT, w_ixL, w_ixS, w_catT, w_catL, w_all, w_any, w_min2, w_divmod, w_listS, w_listL, w_listT, w_isN, w_notN, w_tupE, w_intE, w_consE, w_hdE, w_cellS, w_set, at0, at1, at2, at3, i_tT, i_tI, i_tB, i_tS, i_nT, i_nI, i_nB, i_nS, i_iT, i_iI, i_iB, i_iS, i_bT, i_bI, i_bB, i_bS, i_sT, i_sI, i_sB, i_sS, v_itemsS, w_eqB, isNone, dstart, List.map, List.length, List.replicate, List.cons_append, List.nil_append, List.append_nil, List.getElem?_cons_zero, List.getElem?_cons_succ, List.set_cons_zero, List.set_cons_succ, ix40, ix42, ix43, true_implies, false_implies, and_true, true_and, Bool.not_true, Bool.not_false, decide_eq_true_eq, decide_eq_false_iff_not, List.length_map, Nat.reduceAdd, reduceCtorEq, v_ixH, v_items, v_itemsT, v_itemsL, v_len, v_tuple, v_list, v_listOwn, sset_same, sset_sset, Option.some.injEq, Cell.lst.injEq, Cell.frz.injEq, false_and, exists_false, or_false, false_or, exists_eq_left', ne_eq, not_false_eq_true, isTup, Bool.true_eq_false, Bool.false_eq_true])
local macro_rules | `(tactic| walk_at "wh") => `(tactic| try simp only [*, u_seq, u_isE, w_isE, u_kitER, u_kitET, u_excE, u_xf, w_xf1, u_slS, u_raise1, u_iEn, w_listStr, w_lenStr, w_catStr, w_ixStr, w_inStr, w_strE, w_strI, w_strS, u_rest, cut_to, cut_from1, Int.zero_add, u_revT, w_repT, u_tupG, u_try, u_gPlain, u_gThen, u_gNil, u_yield, u_gWhile, u_while, u_isX, u_kitR, u_kitT, u_excOk, w_zipE, u_goalX, u_lc, rngD_len, Int.toNat_natCast, u_for, u_iT, u_iL, u_iR1, u_iR2, u_iZ, u_iS, w_lstE, dwipe, u_asg, u_asgS, u_ret, u_retN, u_if, u_next, u_break, u_cont, u_drop, u_raise, u_aug, u_var, u_c, u_op, u_un, u_test, u_and, u_or, u_not, u_yes, u_andV, u_orV, u_notV, u_ifE, u_chain, u_nil, u_cons, u_tup, u_lst, u_own, u_cb, u_call, u_callS, u_name, u_etup, u_enil, u_econs, u_sub, u_app, u_slT, u_slL, u_noPart, u_part, u_revL, ex_some, w_I0, w_I, w_uI, w_int, w_bl, w_isi, w_someb, w_eqI, w_neI, w_eqS, w_neS, w_lenT, w_lenL, w_lenS, w_tupL, w_tupT, w_ixT, w_ixL, w_ixS, w_catT, w_catL, w_all, w_any, w_min2, w_divmod, w_listS, w_listL, w_listT, w_isN, w_notN, w_tupE, w_intE, w_consE, w_hdE, w_cellS, w_set, at0, at1, at2, at3, i_tT, i_tI, i_tB, i_tS, i_nT, i_nI, i_nB, i_nS, i_iT, i_iI, i_iB, i_iS, i_bT, i_bI, i_bB, i_bS, i_sT, i_sI, i_sB, i_sS, v_itemsS, w_eqB, isNone, dstart, List.map, List.length, List.replicate, List.cons_append, List.nil_append, List.append_nil, List.getElem?_cons_zero, List.getElem?_cons_succ, List.set_cons_zero, List.set_cons_succ, ix40, ix42, ix43, true_implies, false_implies, and_true, true_and, Bool.not_true, Bool.not_false, decide_eq_true_eq, decide_eq_false_iff_not, List.length_map, Nat.reduceAdd, reduceCtorEq, v_ixH, v_items, v_itemsT, v_itemsL, v_len, v_tuple, v_list, v_listOwn, sset_same, sset_sset, Option.some.injEq, Cell.lst.injEq, Cell.frz.injEq, false_and, exists_false, or_false, false_or, exists_eq_left', ne_eq, not_false_eq_true, isTup, Bool.true_eq_false, Bool.false_eq_true])
local macro_rules | `(tactic| walk_at "wps") => `(tactic| try simp only [u_seq, u_isE, w_isE, u_kitER, u_kitET, u_excE, u_xf, w_xf1, u_slS, u_raise1, u_iEn, w_listStr, w_lenStr, w_catStr, w_ixStr, w_inStr, w_strE, w_strI, w_strS, u_rest, cut_to, cut_from1, Int.zero_add, u_revT, w_repT, u_tupG, u_try, u_gPlain, u_gThen, u_gNil, u_yield, u_gWhile, u_while, u_isX, u_kitR, u_kitT, u_excOk, w_zipE, u_goalX, u_lc, rngD_len, Int.toNat_natCast, u_for, u_iT, u_iL, u_iR1, u_iR2, u_iZ, u_iS, w_lstE, dwipe, u_asg, u_asgS, u_ret, u_retN, u_if, u_next, u_break, u_cont, u_drop, u_raise, u_aug, u_var, u_c, u_op, u_un, u_test, u_and, u_or, u_not, u_yes, u_andV, u_orV, u_notV, u_ifE, u_chain, u_nil, u_cons, u_tup, u_lst, u_own, u_cb, u_call, u_callS, u_name, u_etup, u_enil, u_econs, u_sub, u_app, u_slT, u_slL, u_noPart, u_part, u_revL, ex_some, w_I0, w_I, w_uI, w_int, w_bl, w_isi, w_someb, w_eqI, w_neI, w_eqS, w_neS, w_lenT, w_lenL, w_lenS, w_tupL, w_tupT, w_ixT, w_ixL, w_ixS, w_catT, w_catL, w_all, w_any, w_min2, w_divmod, w_listS, w_listL, w_listT, w_isN, w_notN, w_tupE, w_intE, w_consE, w_hdE, w_cellS, w_set, at0, at1, at2, at3, i_tT, i_tI, i_tB, i_tS, i_nT, i_nI, i_nB, i_nS, i_iT, i_iI, i_iB, i_iS, i_bT, i_bI, i_bB, i_bS, i_sT, i_sI, i_sB, i_sS, v_itemsS, w_eqB, isNone, dstart, List.map, List.length, List.replicate, List.cons_append, List.nil_append, List.append_nil, List.getElem?_cons_zero, List.getElem?_cons_succ, List.set_cons_zero, List.set_cons_succ, ix40, ix42, ix43, true_implies, false_implies, and_true, true_and, Bool.not_true, Bool.not_false, decide_eq_true_eq, decide_eq_false_iff_not, List.length_map, Nat.reduceAdd, reduceCtorEq, v_ixH, v_items, v_itemsT, v_itemsL, v_len, v_tuple, v_list, v_listOwn, sset_same, sset_sset, Option.some.injEq, Cell.lst.injEq, Cell.frz.injEq, false_and, exists_false, or_false, false_or, exists_eq_left', ne_eq, not_false_eq_true, isTup, Bool.true_eq_false, Bool.false_eq_true])
section
variable {P : Program} {w : World} {K : Fg} {mg : Str → Option Value} {base : Heap}
def c__law_spoilt : Con := fun ds μ Φ _ => ∃ (st : Addr) (ns : List Int) (c : List D) (t : Str), ds = [.hd (.ref st), .str t] ∧ (TL.tl t).length ≤ 90000 ∧ μ st = some (.lst c) ∧ StC ns c ∧ ∀ l c', l.length ≤ (TL.tl t).length + 1 → StC ns c' → Φ (.str (S l)) (sset μ st (.lst c'))
theorem len__law_spoilt {ds μ Φ Ψ} (h : c__law_spoilt ds μ Φ Ψ) : ds.length = 2 := by obtain ⟨_, _, _, _, rfl, _⟩ := h; rfl
theorem ok__law_spoilt (T : Txt P K mg) : FnOk P w K mg base (L2N.CX P w) 2 T.f__law_spoilt T.d__law_spoilt ["_law_state", "_law_text_here"] (spOf K c__law_spoilt) := by
  refine def_okC T.F__law_spoilt sc__law_spoilt _ (fun ds μ Φ Ψ h => len__law_spoilt h) (fun cdv A outer s H E B hW hr =>
    have tk : L2N.Takes (cxOf (L2N.CX P w) P w K mg base N__law_spoilt "_law_spoilt" (defScope s__law_spoilt) T.f__law_spoilt cdv A outer s H E) (fun cls d _ H => E cls d H) := L2N.takes_of rfl rfl rfl rfl
    ⟨_, (pss_cons (ps_set (i := 2) sc__law_spoilt.nd rfl (Or.inl rfl) pe_str)
      (pss_cons (ps_set (i := 3) sc__law_spoilt.nd rfl (Or.inl rfl) (pe_call (ok__law_pick T) hr rfl T.g__law_pick T.F__law_pick.kp T.b__law_pick .nil passN (pa_cons (pv 0) (pa_cons (pe_op op_add (pe_callB call_len_str (by rfl) T.z_len PySem.boot_len (pa_cons (pv 1) pa_nil)) pe_int) pa_nil))))
      (pss_cons (ps_set (i := 4) sc__law_spoilt.nd rfl (Or.inl rfl) (pe_call (ok__law_pick T) hr rfl T.g__law_pick T.F__law_pick.kp T.b__law_pick .nil passN (pa_cons (pv 0) (pa_cons pe_int pa_nil))))
      (pss_cons (ps_set (i := 5) sc__law_spoilt.nd rfl (Or.inl rfl) (pe_ix ix_str (pv 2) (pe_call (ok__law_pick T) hr rfl T.g__law_pick T.F__law_pick.kp T.b__law_pick .nil passN (pa_cons (pv 0) (pa_cons pe_int pa_nil))) (fun _ _ => rfl)))
      (pss_cons (ps_if (pt_cmpR op_eq (pv 4) pe_int (nomark _)) (pss_one (ps_ret (pe_op op_add_str (pe_slice sl_str (pv 1) po_none (po_some (pv 3))) (pe_slice sl_str (pv 1) (po_some (pe_op op_add (pv 3) pe_int)) po_none)))) pss_nil)
      (pss_cons (ps_if (pt_cmpR op_eq (pv 4) pe_int (nomark _)) (pss_one (ps_ret (pe_op op_add_str (pe_op op_add_str (pe_slice sl_str (pv 1) po_none (po_some (pv 3))) (pv 5)) (pe_slice sl_str (pv 1) (po_some (pv 3)) po_none)))) pss_nil)
      (pss_cons (ps_if (pt_cmpR op_eq (pv 4) pe_int (nomark _)) (pss_one (ps_ret (pe_op op_add_str (pe_op op_add_str (pe_slice sl_str (pv 1) po_none (po_some (pv 3))) (pv 5)) (pe_slice sl_str (pv 1) (po_some (pe_op op_add (pv 3) pe_int)) po_none)))) pss_nil)
      (pss_one (ps_ret (pe_op op_add_str (pv 1) (pv 5))))))))))),
      (sSeq (sAsg sStr sName)
      (sSeq (sAsg (sCall (sCons sVar (sCons (sOp roInt0 (sCB rcLenStr (sCons sVar sNil)) sInt) sNil))) sName)
      (sSeq (sAsg (sCall (sCons sVar (sCons sInt sNil))) sName)
      (sSeq (sAsg (sOp roIxS sVar (sCall (sCons sVar (sCons sInt sNil)))) sName)
      (sSeq (sIfS (sTest (sOp roEq sVar sInt)) (sRet (sOp roCatS (sSlS sVar sNoPart (sPart sVar)) (sSlS sVar (sPart (sOp roInt0 sVar sInt)) sNoPart))) sNext)
      (sSeq (sIfS (sTest (sOp roEq sVar sInt)) (sRet (sOp roCatS (sOp roCatS (sSlS sVar sNoPart (sPart sVar)) sVar) (sSlS sVar (sPart sVar) sNoPart))) sNext)
      (sSeq (sIfS (sTest (sOp roEq sVar sInt)) (sRet (sOp roCatS (sOp roCatS (sSlS sVar sNoPart (sPart sVar)) sVar) (sSlS sVar (sPart (sOp roInt0 sVar sInt)) sNoPart))) sNext)
      (sRet (sOp roCatS sVar sVar)))))))))⟩) (fun ds μ Φ Ψ h => ?hv)
  case hv =>
    obtain ⟨st, ns, c, t, rfl, hz, hc, hs, h⟩ := h
    walk_at "wps"
    refine ⟨by omega, pick_at hc hs (by omega) (by omega) fun r c1 r0 r1 s1 => ?_⟩
    walk_at "wps"
    refine pick_at sset_same s1 (by decide) (by decide) fun r2 c2 r20 r21 s2 => ?_
    rw [sset_sset]
    walk_at "wps"
    refine pick_at sset_same s2 (by decide) (by decide) fun r3 c3 r30 r31 s3 => ?_
    rw [sset_sset]
    walk_at "wps"
    obtain ⟨x, hx⟩ := at_sign r30 r31
    refine ⟨sign_len, x, hx, ?_⟩
    obtain ⟨a, rfl⟩ : ∃ a : Nat, r = (a : Int) := ⟨r.toNat, by omega⟩
    have ha : a ≤ (TL.tl t).length := by omega
    have hz2 : t.length ≤ 90000 := hz
    have hxs : (⟨#[x]⟩ : Str) = S [x] := rfl
    simp only [cutS_to, cutS_from1, cutS_from, hxs, S_app, t_app, tl_S]
    refine ⟨fun _ => ⟨by omega, by omega, ?_, ret_same (h _ c3 ?_ s3)⟩, fun _ => ⟨fun _ => ⟨by omega, ?_, by omega, ?_, ret_same (h _ c3 ?_ s3)⟩, fun _ => ⟨fun _ => ⟨by omega, ?_, by omega, ?_, ret_same (h _ c3 ?_ s3)⟩, fun _ => ⟨by omega, ret_same (h _ c3 ?_ s3)⟩⟩⟩⟩
    all_goals (simp only [List.length_append, List.length_take, List.length_drop, List.length_cons, List.length_nil]; omega)

def c__law_first_deep : Nat → Con := fun n ds μ Φ _ => ∃ (k : Nat) (d : D) (p : List Int), k < n ∧ ds = [d, .tup (p.map .int)] ∧ Tm k d ∧ plainD d = true ∧ p.length ≤ 30 ∧ Φ (pthD ((fdp (30 - p.length) d).map (p ++ ·))) μ
theorem len__law_first_deep {n ds μ Φ Ψ} (h : c__law_first_deep n ds μ Φ Ψ) : ds.length = 2 := by obtain ⟨_, _, _, _, rfl, _⟩ := h; rfl
theorem step__law_first_deep (T : Txt P K mg) {k : Nat} (hk : 0 ≤ k) (n : Nat) (ih__law_first_deep : FnOk P w K mg base (L2N.CX P w) k T.f__law_first_deep T.d__law_first_deep ["_law_term_here", "_law_path"] (spOf K (c__law_first_deep n))) : FnOk P w K mg base (L2N.CX P w) (k + 1) T.f__law_first_deep T.d__law_first_deep ["_law_term_here", "_law_path"] (spOf K (c__law_first_deep (n + 1))) := by
  refine def_okC T.F__law_first_deep sc__law_first_deep _ (fun ds μ Φ Ψ h => len__law_first_deep h) (fun cdv A outer s H E B hW hr =>
    have tk : L2N.Takes (cxOf (L2N.CX P w) P w K mg base N__law_first_deep "_law_first_deep" (defScope s__law_first_deep) T.f__law_first_deep cdv A outer s H E) (fun cls d _ H => E cls d H) := L2N.takes_of rfl rfl rfl rfl
    ⟨_, (pss_cons (ps_if (pt_not (pt_val (pe_callB call_isi (by rfl) T.z_isinstance (by decide +kernel) (pa_cons (pv 0) (pa_cons (pe_bltn (v := .ty "tuple") rfl T.z_tuple (by decide +kernel) rfl) pa_nil))))) (pss_one (ps_ret pe_non)) pss_nil)
      (pss_cons (ps_if (pt_cmpR op_ge (pe_callB call_len_seq (by rfl) T.z_len PySem.boot_len (pa_cons (pv 1) pa_nil)) pe_int (nomark _)) (pss_one (ps_ret (pv 1))) pss_nil)
      (pss_cons (ps_for (passes_of rfl) rfl (pi_range1 rfl T.z_range (pa_cons (pe_callB call_len_seq (by rfl) T.z_len PySem.boot_len (pa_cons (pv 0) pa_nil)) pa_nil)) (pg_name (i := 2) sc__law_first_deep.nd rfl (Or.inl rfl)) (pss_cons (ps_set (i := 3) sc__law_first_deep.nd rfl (Or.inl rfl) (pe_call ih__law_first_deep hr rfl T.g__law_first_deep T.F__law_first_deep.kp T.b__law_first_deep .nil passN (pa_cons (pe_ix ix_tup (pv 0) (pv 2) (fun _ _ => rfl)) (pa_cons (pe_op op_catA (pv 1) (pe_tup (pa_cons (pv 2) pa_nil))) pa_nil))))
      (pss_one (ps_if (pt_cmpR op_notN (pv 3) pe_non (nomark _)) (pss_one (ps_ret (pv 3))) pss_nil))))
      (pss_one (ps_ret pe_non))))),
      (sSeq (sIfS (sNot (sB (sCB (rcIsi (T := "tuple")) (sCons sVar (sCons sHd sNil))))) (sRet sNon) sNext)
      (sSeq (sIfS (sTest (sOp roBl0 (sCB rcLen (sCons sVar sNil)) sInt)) (sRet sVar) sNext)
      (sSeq (sFor (siR1 (sCB rcLen (sCons sVar sNil))) (fun _ _ _ => sName) (fun _ _ _ => (sSeq (sAsg (sCall (sCons (sOp roIxT sVar sVar) (sCons (sOp roCatT sVar (sTup (sCons sVar sNil))) sNil))) sName)
      (sIfS (sTest (sOp roNotN sVar sNon)) (sRet sVar) sNext))))
      (sRet sNon))))⟩) (fun ds μ Φ Ψ h => ?hv)
  case hv =>
    obtain ⟨k, d, p, hk, rfl, hd, hpl, hp, h⟩ := h
    cases hd with
    | @word _ s h0 h1 h2 =>
      walk_at "wps"
      have : fdp (30 - p.length) (.str s) = none := by cases 30 - p.length <;> simp [fdp]
      rw [this] at h
      exact ret_same h
    | @num _ i h0 h1 =>
      walk_at "wps"
      have : fdp (30 - p.length) (.int i) = none := by cases 30 - p.length <;> simp [fdp]
      rw [this] at h
      exact ret_same h
    | @tup k' l hx =>
      simp [plainD] at hpl
      walk_at "wps"
      refine ⟨fun c1 => ?_, fun c1 => ⟨by omega, by omega, ?_⟩⟩
      · have h30 : 30 - p.length = 0 := by omega
        rw [h30, fdp] at h
        simp only [Option.map, List.append_nil, pthD] at h
        exact ret_same h
      obtain ⟨j, hj⟩ : ∃ j, 30 - p.length = j + 1 := ⟨29 - p.length, by omega⟩
      rw [hj, fdp] at h
      refine ⟨fun i δ' μ' => μ' = μ ∧ (∀ m y, m < i → l[m]? = some y → fdp j y = none) ∧ ∃ x2 x3, δ' = [some (.tup l), some (.tup (p.map .int)), x2, x3], ⟨rfl, fun m y hm => absurd hm (Nat.not_lt_zero _), none, none, rfl⟩, ?_, ?_⟩
      · rintro i d δ' μ' hi ⟨rfl, hpre, x2, x3, rfl⟩
        obtain ⟨hil, rfl⟩ := rngD_get hi
        walk_at "wps"
        refine ⟨l[i], atI_nat (List.getElem?_eq_getElem hil), ?_⟩
        walk_at "wps"
        refine ⟨by omega, by omega, k', l[i], p ++ [(i : Int)], by omega, by rw [List.map_append]; rfl, hx _ (List.getElem_mem hil), plain_get hpl.1 (List.getElem?_eq_getElem hil), by rw [List.length_append]; simp; omega, ?_⟩
        have hj2 : 30 - (p ++ [(i : Int)]).length = j := by rw [List.length_append]; simp; omega
        rw [hj2]
        cases hq : fdp j l[i] with
        | none =>
          simp only [Option.map, pthD]
          walk_at "wps"
          exact ⟨fun m y hm hy => by
            by_cases c : m = i
            · subst c; rw [List.getElem?_eq_getElem hil] at hy; cases hy; exact hq
            · exact hpre m y (by omega) hy, _, _, rfl⟩
        | some q =>
          rw [fdpl_at hpre (List.getElem?_eq_getElem hil) hq] at h
          simp only [Option.map, pthD] at h ⊢
          walk_at "wps"
          refine ret_same ?_
          rw [Int.zero_add] at h
          rw [List.append_assoc]
          exact h
      · rintro δ' μ' ⟨rfl, hpre, x2, x3, rfl⟩
        rw [fdpl_none (fun x hx => ?_)] at h
        · exact ret_same h
        · obtain ⟨m, hm⟩ := List.getElem?_of_mem hx
          have := (List.getElem?_eq_some_iff.mp hm).1
          exact hpre m x (by omega) hm

theorem okN__law_first_deep (T : Txt P K mg) : ∀ n, FnOk P w K mg base (L2N.CX P w) n T.f__law_first_deep T.d__law_first_deep ["_law_term_here", "_law_path"] (spOf K (c__law_first_deep n))
  | 0 => fn_none fun _ _ _ _ ⟨_, _, _, z, _⟩ => absurd z (Nat.not_lt_zero _)
  | n + 1 => step__law_first_deep T (Nat.zero_le _) n (okN__law_first_deep T n)
theorem ok__law_first_deep (T : Txt P K mg) : FnOk P w K mg base (L2N.CX P w) 40 T.f__law_first_deep T.d__law_first_deep ["_law_term_here", "_law_path"] (spOf K (c__law_first_deep 40)) := okN__law_first_deep T 40
/-- what may be handed to it -/
def c__law_same : Nat → Con
  | 0 => fun _ _ _ _ => False
  | n + 1 => fun ds μ Φ _ => ∃ a d, ds = [a, d] ∧ plainD a = true ∧ plainD d = true ∧ depD d ≤ n + 1 ∧ Φ (.bl (sameD a d)) μ
theorem len__law_same {n ds μ Φ Ψ} (h : c__law_same n ds μ Φ Ψ) : ds.length = 2 := by
  cases n with
  | zero => exact h.elim
  | succ n => obtain ⟨i, _, rfl, _⟩ := h; rfl
theorem same_at {n a d μ Φ Ψ} (pa : plainD a = true) (pd : plainD d = true) (hd : depD d ≤ n) (h : Φ (.bl (sameD a d)) μ) : c__law_same n [a, d] μ Φ Ψ := by
  cases n with
  | zero => have := depD_pos d; omega
  | succ n => exact ⟨a, d, rfl, pa, pd, hd, h⟩
theorem step__law_same (T : Txt P K mg) {k : Nat} (hk : 0 ≤ k) (n : Nat) (ih__law_same : FnOk P w K mg base (L2N.CX P w) k T.f__law_same T.d__law_same ["_law_actual", "_law_term_here"] (spOf K (c__law_same n))) : FnOk P w K mg base (L2N.CX P w) (k + 1) T.f__law_same T.d__law_same ["_law_actual", "_law_term_here"] (spOf K (c__law_same (n + 1))) := by
  refine def_okC T.F__law_same sc__law_same _ (fun ds μ Φ Ψ h => len__law_same h) (fun cdv A outer s H E B hW hr =>
    have tk : L2N.Takes (cxOf (L2N.CX P w) P w K mg base N__law_same "_law_same" (defScope s__law_same) T.f__law_same cdv A outer s H E) (fun cls d _ H => E cls d H) := L2N.takes_of rfl rfl rfl rfl
    ⟨_, (pss_cons (ps_if (pt_val (pe_callB call_isi (by rfl) T.z_isinstance (by decide +kernel) (pa_cons (pv 1) (pa_cons (pe_bltn (v := .ty "tuple") rfl T.z_tuple (by decide +kernel) rfl) pa_nil)))) (pss_cons (ps_if (PW.pt (pw_or (pt_not (pt_val (pe_callB call_isi (by rfl) T.z_isinstance (by decide +kernel) (pa_cons (pv 0) (pa_cons (pe_bltn (v := .ty "tuple") rfl T.z_tuple (by decide +kernel) rfl) pa_nil))))) (pw_or1 (pt_cmpR op_ne (pe_callB call_len_seq (by rfl) T.z_len PySem.boot_len (pa_cons (pv 0) pa_nil)) (pe_callB call_len_seq (by rfl) T.z_len PySem.boot_len (pa_cons (pv 1) pa_nil)) (nomark _))))) (pss_one (ps_ret pe_bl)) pss_nil)
      (pss_one (ps_ret (pe_callB (cr_all rfl) (by rfl) T.z_all (by decide +kernel) (pa_cons (pe_lc (own := [("_law_k", 2)]) rfl sc__law_same.nd (pi_range1 rfl T.z_range (pa_cons (pe_callB call_len_seq (by rfl) T.z_len PySem.boot_len (pa_cons (pv 1) pa_nil)) pa_nil)) (blkOk_by (N := N__law_same) (sc := defScope s__law_same) (by decide +kernel)) (fun _ _ _ _ _ => (pg_name (i := 2) sc__law_same.nd rfl (Or.inl rfl))) (fun _ _ _ _ _ => pts_nil) (fun _ _ _ _ _ => (pe_call ih__law_same hr rfl T.g__law_same T.F__law_same.kp T.b__law_same .nil passN (pa_cons (pe_ix ix_tup (pv 0) (pv 2) (fun _ _ => rfl)) (pa_cons (pe_ix ix_tup (pv 1) (pv 2) (fun _ _ => rfl)) pa_nil))))) pa_nil))))) pss_nil)
      (pss_cons (ps_if (pt_val (pe_callB call_isi (by rfl) T.z_isinstance (by decide +kernel) (pa_cons (pv 1) (pa_cons (pe_bltn (v := .ty "str") rfl T.z_str (by decide +kernel) rfl) pa_nil)))) (pss_one (ps_ret (pe_and (pe_callB call_isi (by rfl) T.z_isinstance (by decide +kernel) (pa_cons (pv 0) (pa_cons (pe_bltn (v := .ty "str") rfl T.z_str (by decide +kernel) rfl) pa_nil))) (pe_one (pe_cmpR op_eq (pv 0) (pv 1) (nomark _)))))) pss_nil)
      (pss_one (ps_ret (pe_and (pe_callB call_isi (by rfl) T.z_isinstance (by decide +kernel) (pa_cons (pv 0) (pa_cons (pe_bltn (v := .ty "int") rfl T.z_int (by decide +kernel) rfl) pa_nil))) (pe_and (pe_not (pe_callB call_isi (by rfl) T.z_isinstance (by decide +kernel) (pa_cons (pv 0) (pa_cons (pe_bltn (v := .ty "bool") rfl T.z_bool (by decide +kernel) rfl) pa_nil)))) (pe_one (pe_cmpR op_eq (pv 0) (pv 1) (nomark _))))))))),
      (sSeq (sIfS (sB (sCB (rcIsi (T := "tuple")) (sCons sVar (sCons sHd sNil)))) (sSeq (sIfS (sOr (sNot (sB (sCB (rcIsi (T := "tuple")) (sCons sVar (sCons sHd sNil))))) (sTest (sOp roNe (sCB rcLen (sCons sVar sNil)) (sCB rcLen (sCons sVar sNil))))) (sRet sBl) sNext)
      (sRet (sCB rcAll (sCons (sLc (siR1 (sCB rcLen (sCons sVar sNil))) (gwName List.mem_cons_self) (fun _ _ _ => sName) (fun _ _ _ => sYes) (fun _ _ _ => (sCall (sCons (sOp roIxT sVar sVar) (sCons (sOp roIxT sVar sVar) sNil))))) sNil)))) sNext)
      (sSeq (sIfS (sB (sCB (rcIsi (T := "str")) (sCons sVar (sCons sHd sNil)))) (sRet (sAndV (sCB (rcIsi (T := "str")) (sCons sVar (sCons sHd sNil))) (sOp roEq sVar sVar))) sNext)
      (sRet (sAndV (sCB (rcIsi (T := "int")) (sCons sVar (sCons sHd sNil))) (sAndV (sNotV (sCB (rcIsi (T := "bool")) (sCons sVar (sCons sHd sNil)))) (sOp roEq sVar sVar))))))⟩) (fun ds μ Φ Ψ h => ?hv)
  case hv =>
    obtain ⟨a, d, rfl, pa, pd, hd, h⟩ := h
    cases d with
    | tup ds =>
      cases a with
      | tup es =>
        walk_at "wps"
        refine ⟨fun c => ?_, fun c => ?_⟩
        · have c : es.length ≠ ds.length := by intro z; rw [z] at c; simp at c
          rw [sameD, sameDs_len c] at h
          exact ret_same h
        · have c : es.length = ds.length := by simp at c; omega
          simp [plainD] at pa pd
          refine ⟨by omega, by omega, lcG_mapN (fun i => .bl (sameD (es.getD i .non) (ds.getD i .non))) (by rw [rngD_len]; omega) (fun i d μ2 X hi hsub hx => ?_) ?_⟩
          · obtain ⟨hj, rfl⟩ := rngD_get hi
            have h1 : es[i]? = some es[i] := List.getElem?_eq_getElem (by omega)
            have h2 : ds[i]? = some ds[i] := List.getElem?_eq_getElem (by omega)
            walk_at "wps"
            refine ⟨_, atI_n h1, ?_⟩
            walk_at "wps"
            refine ⟨_, atI_n h2, same_at (plain_get pa.1 h1) (plain_get pd.1 h2) (by have := dep_get h2; simp only [depD] at hd; omega) ?_⟩
            simpa [List.getD_eq_getElem?_getD, h1, h2] using hx
          · rw [rngD_len]
            refine w_allB (P := (List.range ds.length).map fun i => sameD (es.getD i .non) (ds.getD i .non)) (by rw [List.map_map]; rfl) (ret_same ?_)
            rw [sameDs_all c]
            exact h
      | int i => walk_at "wps"; exact ret_same h
      | str i => walk_at "wps"; exact ret_same h
      | _ => simp [plainD] at pa
    | str t =>
      cases a with
      | tup es => walk_at "wps"; exact ret_same h
      | int i => walk_at "wps"; exact ret_same h
      | str i => walk_at "wps"; exact ret_same h
      | _ => simp [plainD] at pa
    | int t =>
      cases a with
      | tup es => walk_at "wps"; exact ret_same h
      | int i => walk_at "wps"; exact ret_same h
      | str i => walk_at "wps"; exact ret_same h
      | _ => simp [plainD] at pa
    | _ => simp [plainD] at pd

end
end LW
set_option Elab.async false
set_option linter.all false
set_option maxRecDepth 100000
namespace LW
open PySem PySem.Spec L2 DW PyProof.Rows
local macro_rules | `(tactic| walk_at "wp") => `(tactic| try simp only [u_isE, w_isE, u_kitER, u_kitET, u_excE, u_xf, w_xf1, u_slS, u_raise1, u_iEn, w_listStr, w_lenStr, w_catStr, w_ixStr, w_inStr, w_strE, w_strI, w_strS, u_rest, cut_to, cut_from1, Int.zero_add, u_revT, w_repT, u_tupG, u_try, u_gPlain, u_gThen, u_gNil, u_yield, u_gWhile, u_while, u_isX, u_kitR, u_kitT, u_excOk, w_zipE, u_goalX, u_lc, rngD_len, Int.toNat_natCast, u_for, u_iT, u_iL, u_iR1, u_iR2, u_iZ, u_iS, w_lstE, dwipe, u_asg, u_asgS, u_ret, u_retN, u_if, u_next, u_break, u_cont, u_drop, u_raise, u_aug, u_var, u_c, u_op, u_un, u_test, u_and, u_or, u_not, u_yes, u_andV, u_orV, u_notV, u_ifE, u_chain, u_nil, u_cons, u_tup, u_lst, u_own, u_cb, u_call, u_callS, u_name, u_etup, u_enil, u_econs, u_sub, u_app, u_slT, u_slL, u_noPart, u_part, u_revL, ex_some, w_I0, w_I, w_uI, w_int, w_bl, w_isi, w_someb, w_eqI, w_neI, w_eqS, w_neS, w_lenT, w_lenL, w_lenS, w_tupL, w_tupT, w_ixT, w_ixL, w_ixS, w_catT, w_catL, w_all, w_any, w_min2, w_divmod, w_listS, w_listL, w_listT, w_isN, w_notN, w_tupE, w_intE, w_consE, w_hdE, w_cellS, w_set, at0, at1, at2, at3, i_tT, i_tI, i_tB, i_tS, i_nT, i_nI, i_nB, i_nS, i_iT, i_iI, i_iB, i_iS, i_bT, i_bI, i_bB, i_bS, i_sT, i_sI, i_sB, i_sS, v_itemsS, w_eqB, isNone, dstart, List.map, List.length, List.replicate, List.cons_append, List.nil_append, List.append_nil, List.getElem?_cons_zero, List.getElem?_cons_succ, List.set_cons_zero, List.set_cons_succ, ix40, ix42, ix43, true_implies, false_implies, and_true, true_and, Bool.not_true, Bool.not_false, decide_eq_true_eq, decide_eq_false_iff_not, List.length_map, Nat.reduceAdd, reduceCtorEq, v_ixH, v_items, v_itemsT, v_itemsL, v_len, v_tuple, v_list, v_listOwn, sset_same, sset_sset, Option.some.injEq, Cell.lst.injEq, Cell.frz.injEq, false_and, exists_false, or_false, false_or, exists_eq_left', ne_eq, not_false_eq_true, isTup, Bool.true_eq_false, Bool.false_eq_true])
local macro_rules | `(tactic| walk_at "wh") => `(tactic| try simp only [*, u_seq, u_isE, w_isE, u_kitER, u_kitET, u_excE, u_xf, w_xf1, u_slS, u_raise1, u_iEn, w_listStr, w_lenStr, w_catStr, w_ixStr, w_inStr, w_strE, w_strI, w_strS, u_rest, cut_to, cut_from1, Int.zero_add, u_revT, w_repT, u_tupG, u_try, u_gPlain, u_gThen, u_gNil, u_yield, u_gWhile, u_while, u_isX, u_kitR, u_kitT, u_excOk, w_zipE, u_goalX, u_lc, rngD_len, Int.toNat_natCast, u_for, u_iT, u_iL, u_iR1, u_iR2, u_iZ, u_iS, w_lstE, dwipe, u_asg, u_asgS, u_ret, u_retN, u_if, u_next, u_break, u_cont, u_drop, u_raise, u_aug, u_var, u_c, u_op, u_un, u_test, u_and, u_or, u_not, u_yes, u_andV, u_orV, u_notV, u_ifE, u_chain, u_nil, u_cons, u_tup, u_lst, u_own, u_cb, u_call, u_callS, u_name, u_etup, u_enil, u_econs, u_sub, u_app, u_slT, u_slL, u_noPart, u_part, u_revL, ex_some, w_I0, w_I, w_uI, w_int, w_bl, w_isi, w_someb, w_eqI, w_neI, w_eqS, w_neS, w_lenT, w_lenL, w_lenS, w_tupL, w_tupT, w_ixT, w_ixL, w_ixS, w_catT, w_catL, w_all, w_any, w_min2, w_divmod, w_listS, w_listL, w_listT, w_isN, w_notN, w_tupE, w_intE, w_consE, w_hdE, w_cellS, w_set, at0, at1, at2, at3, i_tT, i_tI, i_tB, i_tS, i_nT, i_nI, i_nB, i_nS, i_iT, i_iI, i_iB, i_iS, i_bT, i_bI, i_bB, i_bS, i_sT, i_sI, i_sB, i_sS, v_itemsS, w_eqB, isNone, dstart, List.map, List.length, List.replicate, List.cons_append, List.nil_append, List.append_nil, List.getElem?_cons_zero, List.getElem?_cons_succ, List.set_cons_zero, List.set_cons_succ, ix40, ix42, ix43, true_implies, false_implies, and_true, true_and, Bool.not_true, Bool.not_false, decide_eq_true_eq, decide_eq_false_iff_not, List.length_map, Nat.reduceAdd, reduceCtorEq, v_ixH, v_items, v_itemsT, v_itemsL, v_len, v_tuple, v_list, v_listOwn, sset_same, sset_sset, Option.some.injEq, Cell.lst.injEq, Cell.frz.injEq, false_and, exists_false, or_false, false_or, exists_eq_left', ne_eq, not_false_eq_true, isTup, Bool.true_eq_false, Bool.false_eq_true])
local macro_rules | `(tactic| walk_at "wps") => `(tactic| try simp only [u_seq, u_isE, w_isE, u_kitER, u_kitET, u_excE, u_xf, w_xf1, u_slS, u_raise1, u_iEn, w_listStr, w_lenStr, w_catStr, w_ixStr, w_inStr, w_strE, w_strI, w_strS, u_rest, cut_to, cut_from1, Int.zero_add, u_revT, w_repT, u_tupG, u_try, u_gPlain, u_gThen, u_gNil, u_yield, u_gWhile, u_while, u_isX, u_kitR, u_kitT, u_excOk, w_zipE, u_goalX, u_lc, rngD_len, Int.toNat_natCast, u_for, u_iT, u_iL, u_iR1, u_iR2, u_iZ, u_iS, w_lstE, dwipe, u_asg, u_asgS, u_ret, u_retN, u_if, u_next, u_break, u_cont, u_drop, u_raise, u_aug, u_var, u_c, u_op, u_un, u_test, u_and, u_or, u_not, u_yes, u_andV, u_orV, u_notV, u_ifE, u_chain, u_nil, u_cons, u_tup, u_lst, u_own, u_cb, u_call, u_callS, u_name, u_etup, u_enil, u_econs, u_sub, u_app, u_slT, u_slL, u_noPart, u_part, u_revL, ex_some, w_I0, w_I, w_uI, w_int, w_bl, w_isi, w_someb, w_eqI, w_neI, w_eqS, w_neS, w_lenT, w_lenL, w_lenS, w_tupL, w_tupT, w_ixT, w_ixL, w_ixS, w_catT, w_catL, w_all, w_any, w_min2, w_divmod, w_listS, w_listL, w_listT, w_isN, w_notN, w_tupE, w_intE, w_consE, w_hdE, w_cellS, w_set, at0, at1, at2, at3, i_tT, i_tI, i_tB, i_tS, i_nT, i_nI, i_nB, i_nS, i_iT, i_iI, i_iB, i_iS, i_bT, i_bI, i_bB, i_bS, i_sT, i_sI, i_sB, i_sS, v_itemsS, w_eqB, isNone, dstart, List.map, List.length, List.replicate, List.cons_append, List.nil_append, List.append_nil, List.getElem?_cons_zero, List.getElem?_cons_succ, List.set_cons_zero, List.set_cons_succ, ix40, ix42, ix43, true_implies, false_implies, and_true, true_and, Bool.not_true, Bool.not_false, decide_eq_true_eq, decide_eq_false_iff_not, List.length_map, Nat.reduceAdd, reduceCtorEq, v_ixH, v_items, v_itemsT, v_itemsL, v_len, v_tuple, v_list, v_listOwn, sset_same, sset_sset, Option.some.injEq, Cell.lst.injEq, Cell.frz.injEq, false_and, exists_false, or_false, false_or, exists_eq_left', ne_eq, not_false_eq_true, isTup, Bool.true_eq_false, Bool.false_eq_true])
section
variable {P : Program} {w : World} {K : Fg} {mg : Str → Option Value} {base : Heap}
theorem okN__law_same (T : Txt P K mg) : ∀ n, FnOk P w K mg base (L2N.CX P w) n T.f__law_same T.d__law_same ["_law_actual", "_law_term_here"] (spOf K (c__law_same n))
  | 0 => fn_false
  | n + 1 => step__law_same T (Nat.zero_le _) n (okN__law_same T n)
theorem ok__law_same (T : Txt P K mg) : FnOk P w K mg base (L2N.CX P w) 40 T.f__law_same T.d__law_same ["_law_actual", "_law_term_here"] (spOf K (c__law_same 40)) := okN__law_same T 40
def c__law_is_term : Nat → Con := fun n ds μ Φ _ => ∃ k d, k < n ∧ ds = [d] ∧ Tm k d ∧ plainD d = true ∧ Φ (.bl true) μ
theorem len__law_is_term {n ds μ Φ Ψ} (h : c__law_is_term n ds μ Φ Ψ) : ds.length = 1 := by obtain ⟨_, _, _, rfl, _⟩ := h; rfl
theorem step__law_is_term (T : Txt P K mg) {k : Nat} (hk : 0 ≤ k) (n : Nat) (ih__law_is_term : FnOk P w K mg base (L2N.CX P w) k T.f__law_is_term T.d__law_is_term ["_law_actual"] (spOf K (c__law_is_term n))) : FnOk P w K mg base (L2N.CX P w) (k + 1) T.f__law_is_term T.d__law_is_term ["_law_actual"] (spOf K (c__law_is_term (n + 1))) := by
  refine def_okC T.F__law_is_term sc__law_is_term _ (fun ds μ Φ Ψ h => len__law_is_term h) (fun cdv A outer s H E B hW hr =>
    have tk : L2N.Takes (cxOf (L2N.CX P w) P w K mg base N__law_is_term "_law_is_term" (defScope s__law_is_term) T.f__law_is_term cdv A outer s H E) (fun cls d _ H => E cls d H) := L2N.takes_of rfl rfl rfl rfl
    ⟨_, (pss_cons (ps_if (pt_val (pe_callB call_isi (by rfl) T.z_isinstance (by decide +kernel) (pa_cons (pv 0) (pa_cons (pe_bltn (v := .ty "tuple") rfl T.z_tuple (by decide +kernel) rfl) pa_nil)))) (pss_one (ps_ret (pe_callB (cr_all rfl) (by rfl) T.z_all (by decide +kernel) (pa_cons (pe_lc (own := [("_law_item", 1)]) rfl sc__law_is_term.nd (pi_tup (pv 0)) (blkOk_by (N := N__law_is_term) (sc := defScope s__law_is_term) (by decide +kernel)) (fun _ _ _ _ _ => (pg_name (i := 1) sc__law_is_term.nd rfl (Or.inl rfl))) (fun _ _ _ _ _ => pts_nil) (fun _ _ _ _ _ => (pe_call ih__law_is_term hr rfl T.g__law_is_term T.F__law_is_term.kp T.b__law_is_term .nil passN (pa_cons (pv 1) pa_nil)))) pa_nil)))) pss_nil)
      (pss_cons (ps_if (pt_val (pe_callB call_isi (by rfl) T.z_isinstance (by decide +kernel) (pa_cons (pv 0) (pa_cons (pe_bltn (v := .ty "str") rfl T.z_str (by decide +kernel) rfl) pa_nil)))) (pss_one (ps_ret (pe_cmpR op_in_seq (pe_slice sl_str (pv 0) po_none (po_some pe_int)) (pe_callTy (call_list_strA rfl) (by rfl) T.z_list (by decide +kernel) (pa_cons pe_str pa_nil)) (by with_unfolding_all rfl)))) pss_nil)
      (pss_one (ps_ret (pe_and (pe_callB call_isi (by rfl) T.z_isinstance (by decide +kernel) (pa_cons (pv 0) (pa_cons (pe_bltn (v := .ty "int") rfl T.z_int (by decide +kernel) rfl) pa_nil))) (pe_one (pe_not (pe_callB call_isi (by rfl) T.z_isinstance (by decide +kernel) (pa_cons (pv 0) (pa_cons (pe_bltn (v := .ty "bool") rfl T.z_bool (by decide +kernel) rfl) pa_nil)))))))))),
      (sSeq (sIfS (sB (sCB (rcIsi (T := "tuple")) (sCons sVar (sCons sHd sNil)))) (sRet (sCB rcAll (sCons (sLc (siT sVar) (gwName List.mem_cons_self) (fun _ _ _ => sName) (fun _ _ _ => sYes) (fun _ _ _ => (sCall (sCons sVar sNil)))) sNil))) sNext)
      (sSeq (sIfS (sB (sCB (rcIsi (T := "str")) (sCons sVar (sCons sHd sNil)))) (sRet (sOp (roIn (neg := false)) (sSlS sVar sNoPart (sPart sInt)) (sCB rcListStr (sCons sStr sNil)))) sNext)
      (sRet (sAndV (sCB (rcIsi (T := "int")) (sCons sVar (sCons sHd sNil))) (sNotV (sCB (rcIsi (T := "bool")) (sCons sVar (sCons sHd sNil))))))))⟩) (fun ds μ Φ Ψ h => ?hv)
  case hv =>
    obtain ⟨k, d, hk, rfl, hd, hp, h⟩ := h
    cases hd with
    | @word _ s h0 h1 h2 =>
      walk_at "wps"
      have h12 : s.length ≤ 12 := h1
      refine ⟨by omega, let_len, _, .lst _, rfl, by simp [flatD], ret_same ?_⟩
      obtain ⟨c, l, e⟩ : ∃ c l, TL.tl s = c :: l := by
        cases q : TL.tl s with
        | nil => rw [q] at h0; simp at h0
        | cons c l => exact ⟨c, l, rfl⟩
      have e1 : cutS s none (some 1) = S [c] := by rw [show (1 : Int) = ((1 : Nat) : Int) from rfl, cutS_to, e]; rfl
      have hc := h2 c (by rw [e]; simp)
      have e2 : inD (.str (S [c])) (List.map (fun c => D.str { cps := #[c] }) (TL.tl (Str.ofString "abcdefghijklmnopqrstuvwxyz"))) = true := by
        unfold inD
        rw [List.any_eq_true]
        refine ⟨.str ⟨#[c]⟩, List.mem_map.2 ⟨c, ?_, rfl⟩, ?_⟩
        · rw [in_let1]; exact hc
        · exact decide_eq_true rfl
      rw [e1, e2]
      exact h
    | @num _ i h0 h1 => walk_at "wps"; exact ret_same h
    | @tup k' l hx =>
      simp [plainD] at hp
      walk_at "wps"
      refine lcG_mapN (fun _ => .bl true) (by omega) (fun i d μ2 X hi hsub hx2 => ?_) ?_
      · walk_at "wps"
        exact ⟨k', d, by omega, rfl, hx d (List.mem_of_getElem? hi), plain_get hp.1 hi, hx2⟩
      · refine w_allB (P := List.replicate l.length true) (by rw [List.map_replicate, List.map_const', List.length_range]) (ret_same ?_)
        rw [show (List.replicate l.length true).all id = true from by simp]
        exact h

theorem okN__law_is_term (T : Txt P K mg) : ∀ n, FnOk P w K mg base (L2N.CX P w) n T.f__law_is_term T.d__law_is_term ["_law_actual"] (spOf K (c__law_is_term n))
  | 0 => fn_none fun _ _ _ _ ⟨_, _, h, _⟩ => absurd h (Nat.not_lt_zero _)
  | n + 1 => step__law_is_term T (Nat.zero_le _) n (okN__law_is_term T n)
theorem ok__law_is_term (T : Txt P K mg) : FnOk P w K mg base (L2N.CX P w) 40 T.f__law_is_term T.d__law_is_term ["_law_actual"] (spOf K (c__law_is_term 40)) := okN__law_is_term T 40
def c__law_read : Con := fun ds μ Φ _ => ∃ (t : Str), ds = [.str t] ∧ (TL.tl t).length ≤ 100000 ∧ (∀ x, Rd 1 (TL.tl t) x [] → Φ (.tup [.str (Str.ofString "read"), x]) μ) ∧ (∀ b : Nat, b ≤ (TL.tl t).length → BadT (TL.tl t) b → Φ (.tup [.str (Str.ofString "refused"), .int b]) μ)
theorem len__law_read {ds μ Φ Ψ} (h : c__law_read ds μ Φ Ψ) : ds.length = 1 := by obtain ⟨_, rfl, _⟩ := h; rfl
theorem ok__law_read (T : Txt P K mg) : FnOk P w K mg base (L2N.CX P w) 72 T.f__law_read T.d__law_read ["_law_text_here"] (spOf K c__law_read) := by
  refine def_okC T.F__law_read sc__law_read _ (fun ds μ Φ Ψ h => len__law_read h) (fun cdv A outer s H E B hW hr =>
    have tk : L2N.Takes (cxOf (L2N.CX P w) P w K mg base N__law_read "_law_read" (defScope s__law_read) T.f__law_read cdv A outer s H E) (fun cls d _ H => E cls d H) := L2N.takes_of rfl rfl rfl rfl
    ⟨_, (pss_one (L2N.ps_try_as (i := 1) rfl rfl sc__law_read.nd rfl rfl ⟨rfl, by decide, .inl T.g_InvalidText⟩ tk (fun W pn xe tk pown => (pss_one (ps_ret (pe_tup (pa_cons pe_str (pa_cons (pe_callS (ok_read_term T) hr rfl T.g_read_term T.F_read_term.kp T.b_read_term (fun σ => L2N.passAt tk σ) (pa_cons (pv 0) pa_nil)) pa_nil))))))
      (fun a oe cls d pn hz hf => (pss_cons (ps_if (PW.pt (pw_or (pt_val (pe_callB (call_isH hz hf) (by rfl) T.z_isinstance (by decide +kernel) (pa_cons (pv 1) (pa_cons (pe_glob (v := .ref T.c_InvalidTerm) rfl T.g_InvalidTerm rfl) pa_nil)))) (pw_or1 (pt_not (pt_val (pe_callB (call_isH hz hf) (by rfl) T.z_isinstance (by decide +kernel) (pa_cons (pv 1) (pa_cons (pe_glob (v := .ref T.c_ChoosersError) rfl T.g_ChoosersError rfl) pa_nil)))))))) (pss_one (ps_ret (pe_tup (pa_cons pe_str (pa_cons (pe_un un_neg pe_int) pa_nil))))) pss_nil)
      (pss_one (ps_ret (pe_tup (pa_cons pe_str (pa_cons (pe_xf T.xf_InvalidText T.no_InvalidText hz.zc hf (pv 1)) pa_nil))))))))),
      (sTryAs (c := .ref T.c_InvalidText) (i := 1) hW (fun W B hW => (sRet (sTup (sCons sStr (sCons (sCallSW (W := W) (by exact hW) (sCons sVar sNil)) sNil)))))
      (fun a cls dd x B hW rx => (sSeq (sIfS (sOr (sB (sIsE rx (sCons sVar (sCons sHd sNil)))) (sNot (sB (sIsE rx (sCons sVar (sCons sHd sNil)))))) (sRet (sTup (sCons sStr (sCons (sUn ruInt sInt) sNil)))) sNext)
      (sRet (sTup (sCons sStr (sCons (sXf (C := T.c_InvalidText) rx sVar) sNil)))))))⟩) (fun ds μ Φ Ψ h => ?hv)
  case hv =>
    obtain ⟨t, rfl, hz, h1, h2⟩ := h
    walk_at "wps"
    refine ⟨t, rfl, hz, fun x hr => ⟨by decide, ret_same (h1 x hr)⟩, fun b hb hbad => ⟨true, T.m_InvalidText_InvalidText, fun _ a ha => ?_, fun z => nomatch z⟩⟩
    walk_at "wps"
    refine ⟨false, T.i_InvalidText_InvalidTerm, T.ec_InvalidText, ?_⟩
    walk_at "wps"
    refine ⟨true, T.i_InvalidText_ChoosersError, T.ec_InvalidText, ?_⟩
    walk_at "wps"
    exact ⟨by decide, ret_same (h2 b hb hbad)⟩

def c__law_deep_path : Con := fun ds μ Φ _ => ∃ k d, k < 38 ∧ ds = [d] ∧ Tm k d ∧ (txt d).length ≤ 90000 ∧ (fdp 30 d = none → Φ .non μ) ∧ (∀ p, fdp 30 d = some p → Φ (.tup (p.map .int)) μ)
theorem len__law_deep_path {ds μ Φ Ψ} (h : c__law_deep_path ds μ Φ Ψ) : ds.length = 1 := by obtain ⟨_, _, _, rfl, _⟩ := h; rfl
theorem ok__law_deep_path (T : Txt P K mg) : FnOk P w K mg base (L2N.CX P w) 72 T.f__law_deep_path T.d__law_deep_path ["_law_term_here"] (spOf K c__law_deep_path) := by
  refine def_okC T.F__law_deep_path sc__law_deep_path _ (fun ds μ Φ Ψ h => len__law_deep_path h) (fun cdv A outer s H E B hW hr =>
    have tk : L2N.Takes (cxOf (L2N.CX P w) P w K mg base N__law_deep_path "_law_deep_path" (defScope s__law_deep_path) T.f__law_deep_path cdv A outer s H E) (fun cls d _ H => E cls d H) := L2N.takes_of rfl rfl rfl rfl
    ⟨_, (pss_cons (L2N.ps_try_as (i := 1) rfl rfl sc__law_deep_path.nd rfl rfl ⟨rfl, by decide, .inl T.g_ChoosersError⟩ tk (fun W pn xe tk pown => (pss_one (ps_expr (pe_callS (ok_write_term T) (hr.mono (by decide)) rfl T.g_write_term T.F_write_term.kp T.b_write_term (fun σ => L2N.passAt tk σ) (pa_cons (pv 0) pa_nil)))))
      (fun a oe cls d pn hz hf => (pss_one (ps_if (PW.pt (pw_and (pt_val (pe_callB (call_isH hz hf) (by rfl) T.z_isinstance (by decide +kernel) (pa_cons (pv 1) (pa_cons (pe_glob (v := .ref T.c_InvalidTerm) rfl T.g_InvalidTerm rfl) pa_nil)))) (pw_and1 (pt_val (pe_callB (call_isH hz hf) (by rfl) T.z_isinstance (by decide +kernel) (pa_cons (pv 1) (pa_cons (pe_bltn (v := .ty "ValueError") rfl T.z_ValueError (by decide +kernel) rfl) pa_nil))))))) (pss_one (ps_ret (pe_xf T.xf_InvalidTerm T.no_InvalidTerm hz.zc hf (pv 1)))) pss_nil))))
      (pss_one (ps_ret pe_non))),
      (sSeq (sTryAs (c := .ref T.c_ChoosersError) (i := 1) hW (fun W B hW => (sDrop (sCallSW (W := W) (by exact hW) (sCons sVar sNil))))
      (fun a cls dd x B hW rx => (sIfS (sAnd (sB (sIsE rx (sCons sVar (sCons sHd sNil)))) (sB (sIsE rx (sCons sVar (sCons sHd sNil))))) (sRet (sXf (C := T.c_InvalidTerm) rx sVar)) sNext)))
      (sRet sNon))⟩) (fun ds μ Φ Ψ h => ?hv)
  case hv =>
    obtain ⟨k, d, hk, rfl, hd, hz, h1, h2⟩ := h
    walk_at "wps"
    refine ⟨k, d, hk, rfl, hd, hz, fun q => ret_same (h1 q), fun p hp => ⟨true, T.m_InvalidTerm_ChoosersError, fun _ a ha => ?_, fun z => nomatch z⟩⟩
    walk_at "wps"
    refine ⟨true, T.i_InvalidTerm_InvalidTerm, T.ec_InvalidTerm, ?_⟩
    walk_at "wps"
    refine ⟨true, T.i_InvalidTerm_ValueError, T.ec_InvalidTerm, ?_⟩
    walk_at "wps"
    exact ret_same (h2 p hp)

end
end LW
set_option Elab.async false
set_option linter.all false
set_option maxRecDepth 100000
namespace LW
open PySem PySem.Spec L2 DW PyProof.Rows
local macro_rules | `(tactic| walk_at "wp") => `(tactic| try simp only [u_isE, w_isE, u_kitER, u_kitET, u_excE, u_xf, w_xf1, u_slS, u_raise1, u_iEn, w_listStr, w_lenStr, w_catStr, w_ixStr, w_inStr, w_strE, w_strI, w_strS, u_rest, cut_to, cut_from1, Int.zero_add, u_revT, w_repT, u_tupG, u_try, u_gPlain, u_gThen, u_gNil, u_yield, u_gWhile, u_while, u_isX, u_kitR, u_kitT, u_excOk, w_zipE, u_goalX, u_lc, rngD_len, Int.toNat_natCast, u_for, u_iT, u_iL, u_iR1, u_iR2, u_iZ, u_iS, w_lstE, dwipe, u_asg, u_asgS, u_ret, u_retN, u_if, u_next, u_break, u_cont, u_drop, u_raise, u_aug, u_var, u_c, u_op, u_un, u_test, u_and, u_or, u_not, u_yes, u_andV, u_orV, u_notV, u_ifE, u_chain, u_nil, u_cons, u_tup, u_lst, u_own, u_cb, u_call, u_callS, u_name, u_etup, u_enil, u_econs, u_sub, u_app, u_slT, u_slL, u_noPart, u_part, u_revL, ex_some, w_I0, w_I, w_uI, w_int, w_bl, w_isi, w_someb, w_eqI, w_neI, w_eqS, w_neS, w_lenT, w_lenL, w_lenS, w_tupL, w_tupT, w_ixT, w_ixL, w_ixS, w_catT, w_catL, w_all, w_any, w_min2, w_divmod, w_listS, w_listL, w_listT, w_isN, w_notN, w_tupE, w_intE, w_consE, w_hdE, w_cellS, w_set, at0, at1, at2, at3, i_tT, i_tI, i_tB, i_tS, i_nT, i_nI, i_nB, i_nS, i_iT, i_iI, i_iB, i_iS, i_bT, i_bI, i_bB, i_bS, i_sT, i_sI, i_sB, i_sS, v_itemsS, w_eqB, isNone, dstart, List.map, List.length, List.replicate, List.cons_append, List.nil_append, List.append_nil, List.getElem?_cons_zero, List.getElem?_cons_succ, List.set_cons_zero, List.set_cons_succ, ix40, ix42, ix43, true_implies, false_implies, and_true, true_and, Bool.not_true, Bool.not_false, decide_eq_true_eq, decide_eq_false_iff_not, List.length_map, Nat.reduceAdd, reduceCtorEq, v_ixH, v_items, v_itemsT, v_itemsL, v_len, v_tuple, v_list, v_listOwn, sset_same, sset_sset, Option.some.injEq, Cell.lst.injEq, Cell.frz.injEq, false_and, exists_false, or_false, false_or, exists_eq_left', ne_eq, not_false_eq_true, isTup, Bool.true_eq_false, Bool.false_eq_true])
local macro_rules | `(tactic| walk_at "wh") => `(tactic| try simp only [*, u_seq, u_isE, w_isE, u_kitER, u_kitET, u_excE, u_xf, w_xf1, u_slS, u_raise1, u_iEn, w_listStr, w_lenStr, w_catStr, w_ixStr, w_inStr, w_strE, w_strI, w_strS, u_rest, cut_to, cut_from1, Int.zero_add, u_revT, w_repT, u_tupG, u_try, u_gPlain, u_gThen, u_gNil, u_yield, u_gWhile, u_while, u_isX, u_kitR, u_kitT, u_excOk, w_zipE, u_goalX, u_lc, rngD_len, Int.toNat_natCast, u_for, u_iT, u_iL, u_iR1, u_iR2, u_iZ, u_iS, w_lstE, dwipe, u_asg, u_asgS, u_ret, u_retN, u_if, u_next, u_break, u_cont, u_drop, u_raise, u_aug, u_var, u_c, u_op, u_un, u_test, u_and, u_or, u_not, u_yes, u_andV, u_orV, u_notV, u_ifE, u_chain, u_nil, u_cons, u_tup, u_lst, u_own, u_cb, u_call, u_callS, u_name, u_etup, u_enil, u_econs, u_sub, u_app, u_slT, u_slL, u_noPart, u_part, u_revL, ex_some, w_I0, w_I, w_uI, w_int, w_bl, w_isi, w_someb, w_eqI, w_neI, w_eqS, w_neS, w_lenT, w_lenL, w_lenS, w_tupL, w_tupT, w_ixT, w_ixL, w_ixS, w_catT, w_catL, w_all, w_any, w_min2, w_divmod, w_listS, w_listL, w_listT, w_isN, w_notN, w_tupE, w_intE, w_consE, w_hdE, w_cellS, w_set, at0, at1, at2, at3, i_tT, i_tI, i_tB, i_tS, i_nT, i_nI, i_nB, i_nS, i_iT, i_iI, i_iB, i_iS, i_bT, i_bI, i_bB, i_bS, i_sT, i_sI, i_sB, i_sS, v_itemsS, w_eqB, isNone, dstart, List.map, List.length, List.replicate, List.cons_append, List.nil_append, List.append_nil, List.getElem?_cons_zero, List.getElem?_cons_succ, List.set_cons_zero, List.set_cons_succ, ix40, ix42, ix43, true_implies, false_implies, and_true, true_and, Bool.not_true, Bool.not_false, decide_eq_true_eq, decide_eq_false_iff_not, List.length_map, Nat.reduceAdd, reduceCtorEq, v_ixH, v_items, v_itemsT, v_itemsL, v_len, v_tuple, v_list, v_listOwn, sset_same, sset_sset, Option.some.injEq, Cell.lst.injEq, Cell.frz.injEq, false_and, exists_false, or_false, false_or, exists_eq_left', ne_eq, not_false_eq_true, isTup, Bool.true_eq_false, Bool.false_eq_true])
local macro_rules | `(tactic| walk_at "wps") => `(tactic| try simp only [u_seq, u_isE, w_isE, u_kitER, u_kitET, u_excE, u_xf, w_xf1, u_slS, u_raise1, u_iEn, w_listStr, w_lenStr, w_catStr, w_ixStr, w_inStr, w_strE, w_strI, w_strS, u_rest, cut_to, cut_from1, Int.zero_add, u_revT, w_repT, u_tupG, u_try, u_gPlain, u_gThen, u_gNil, u_yield, u_gWhile, u_while, u_isX, u_kitR, u_kitT, u_excOk, w_zipE, u_goalX, u_lc, rngD_len, Int.toNat_natCast, u_for, u_iT, u_iL, u_iR1, u_iR2, u_iZ, u_iS, w_lstE, dwipe, u_asg, u_asgS, u_ret, u_retN, u_if, u_next, u_break, u_cont, u_drop, u_raise, u_aug, u_var, u_c, u_op, u_un, u_test, u_and, u_or, u_not, u_yes, u_andV, u_orV, u_notV, u_ifE, u_chain, u_nil, u_cons, u_tup, u_lst, u_own, u_cb, u_call, u_callS, u_name, u_etup, u_enil, u_econs, u_sub, u_app, u_slT, u_slL, u_noPart, u_part, u_revL, ex_some, w_I0, w_I, w_uI, w_int, w_bl, w_isi, w_someb, w_eqI, w_neI, w_eqS, w_neS, w_lenT, w_lenL, w_lenS, w_tupL, w_tupT, w_ixT, w_ixL, w_ixS, w_catT, w_catL, w_all, w_any, w_min2, w_divmod, w_listS, w_listL, w_listT, w_isN, w_notN, w_tupE, w_intE, w_consE, w_hdE, w_cellS, w_set, at0, at1, at2, at3, i_tT, i_tI, i_tB, i_tS, i_nT, i_nI, i_nB, i_nS, i_iT, i_iI, i_iB, i_iS, i_bT, i_bI, i_bB, i_bS, i_sT, i_sI, i_sB, i_sS, v_itemsS, w_eqB, isNone, dstart, List.map, List.length, List.replicate, List.cons_append, List.nil_append, List.append_nil, List.getElem?_cons_zero, List.getElem?_cons_succ, List.set_cons_zero, List.set_cons_succ, ix40, ix42, ix43, true_implies, false_implies, and_true, true_and, Bool.not_true, Bool.not_false, decide_eq_true_eq, decide_eq_false_iff_not, List.length_map, Nat.reduceAdd, reduceCtorEq, v_ixH, v_items, v_itemsT, v_itemsL, v_len, v_tuple, v_list, v_listOwn, sset_same, sset_sset, Option.some.injEq, Cell.lst.injEq, Cell.frz.injEq, false_and, exists_false, or_false, false_or, exists_eq_left', ne_eq, not_false_eq_true, isTup, Bool.true_eq_false, Bool.false_eq_true])
section
variable {P : Program} {w : World} {K : Fg} {mg : Str → Option Value} {base : Heap}
def c_law : Con := fun ds μ Φ _ => ∃ (ns : List Int), ds = [.scr ns] ∧ ns.length ≤ 63 ∧ Φ (.bl true) μ
theorem len_law {ds μ Φ Ψ} (h : c_law ds μ Φ Ψ) : ds.length = 1 := by obtain ⟨_, rfl, _⟩ := h; rfl
theorem ok_law (T : Txt P K mg) : FnOk P w K mg base (L2N.CX P w) 73 T.f_law T.d_law ["_law_script"] (spOf K c_law) := by
  refine def_okC T.F_law sc_law _ (fun ds μ Φ Ψ h => len_law h) (fun cdv A outer s H E B hW hr =>
    have tk : L2N.Takes (cxOf (L2N.CX P w) P w K mg base N_law "law" (defScope s_law) T.f_law cdv A outer s H E) (fun cls d _ H => E cls d H) := L2N.takes_of rfl rfl rfl rfl
    ⟨_, (pss_cons (ps_set (i := 1) sc_law.nd rfl (Or.inl rfl) (pe_call (ok__law_start T) (hr.mono (by decide)) rfl T.g__law_start T.F__law_start.kp T.b__law_start .nil passN (pa_cons (pv 0) pa_nil)))
      (pss_cons (ps_set (i := 2) sc_law.nd rfl (Or.inl rfl) (pe_call (ok__law_term T) (hr.mono (by decide)) rfl T.g__law_term T.F__law_term.kp T.b__law_term .nil passN (pa_cons (pv 1) (pa_cons pe_int pa_nil))))
      (pss_cons (ps_if (pt_cmpR op_eq (pe_call (ok__law_pick T) (hr.mono (by decide)) rfl T.g__law_pick T.F__law_pick.kp T.b__law_pick .nil passN (pa_cons (pv 1) (pa_cons pe_int pa_nil))) pe_int (nomark _)) (pss_one (ps_for (passes_of rfl) rfl (pi_range1 rfl T.z_range (pa_cons (pe_op op_add pe_int (pe_call (ok__law_pick T) (hr.mono (by decide)) rfl T.g__law_pick T.F__law_pick.kp T.b__law_pick .nil passN (pa_cons (pv 1) (pa_cons pe_int pa_nil)))) pa_nil)) (pg_name (i := 8) sc_law.nd rfl (Or.inl rfl)) (pss_one (ps_set (i := 2) sc_law.nd rfl (Or.inl rfl) (pe_tup (pa_cons (pv 2) pa_nil)))))) pss_nil)
      (pss_cons (ps_set (i := 3) sc_law.nd rfl (Or.inl rfl) (pe_call (ok__law_first_deep T) (hr.mono (by decide)) rfl T.g__law_first_deep T.F__law_first_deep.kp T.b__law_first_deep .nil passN (pa_cons (pv 2) (pa_cons (pe_tup pa_nil) pa_nil))))
      (pss_cons (ps_if (pt_cmpR op_notN (pv 3) pe_non (nomark _)) (pss_one (ps_ret (pe_call (ok__law_same T) (hr.mono (by decide)) rfl T.g__law_same T.F__law_same.kp T.b__law_same .nil passN (pa_cons (pe_call (ok__law_deep_path T) hr rfl T.g__law_deep_path T.F__law_deep_path.kp T.b__law_deep_path .nil passN (pa_cons (pv 2) pa_nil)) (pa_cons (pv 3) pa_nil))))) pss_nil)
      (pss_cons (ps_set (i := 4) sc_law.nd rfl (Or.inl rfl) (pe_call (ok__law_text T) (hr.mono (by decide)) rfl T.g__law_text T.F__law_text.kp T.b__law_text .nil passN (pa_cons (pv 2) pa_nil)))
      (pss_cons (ps_if (PW.pt (pw_or (pt_not (pt_val (pe_call (ok__law_same T) (hr.mono (by decide)) rfl T.g__law_same T.F__law_same.kp T.b__law_same .nil passN (pa_cons (pe_callS (ok_write_term T) (hr.mono (by decide)) rfl T.g_write_term T.F_write_term.kp T.b_write_term (fun σ => L2N.passAt tk σ) (pa_cons (pv 2) pa_nil)) (pa_cons (pv 4) pa_nil))))) (pw_or1 (pt_not (pt_val (pe_call (ok__law_same T) (hr.mono (by decide)) rfl T.g__law_same T.F__law_same.kp T.b__law_same .nil passN (pa_cons (pe_call (ok__law_read T) hr rfl T.g__law_read T.F__law_read.kp T.b__law_read .nil passN (pa_cons (pv 4) pa_nil)) (pa_cons (pe_tup (pa_cons pe_str (pa_cons (pv 2) pa_nil))) pa_nil)))))))) (pss_one (ps_ret pe_bl)) pss_nil)
      (pss_cons (ps_set (i := 5) sc_law.nd rfl (Or.inl rfl) (pe_call (ok__law_spoilt T) (hr.mono (by decide)) rfl T.g__law_spoilt T.F__law_spoilt.kp T.b__law_spoilt .nil passN (pa_cons (pv 1) (pa_cons (pv 4) pa_nil))))
      (pss_cons (ps_set (i := 6) sc_law.nd rfl (Or.inl rfl) (pe_call (ok__law_fault T) (hr.mono (by decide)) rfl T.g__law_fault T.F__law_fault.kp T.b__law_fault .nil passN (pa_cons (pv 5) pa_nil)))
      (pss_cons (ps_set (i := 7) sc_law.nd rfl (Or.inl rfl) (pe_call (ok__law_read T) hr rfl T.g__law_read T.F__law_read.kp T.b__law_read .nil passN (pa_cons (pv 5) pa_nil)))
      (pss_cons (ps_if (pt_cmpR op_ge (pv 6) pe_int (nomark _)) (pss_one (ps_ret (pe_call (ok__law_same T) (hr.mono (by decide)) rfl T.g__law_same T.F__law_same.kp T.b__law_same .nil passN (pa_cons (pv 7) (pa_cons (pe_tup (pa_cons pe_str (pa_cons (pv 6) pa_nil))) pa_nil))))) pss_nil)
      (pss_one (ps_ret (pe_and (pe_cmpR op_eq (pe_ix ix_tup (pv 7) pe_int (fun _ _ => rfl)) pe_str (nomark _)) (pe_and (pe_call (ok__law_is_term T) (hr.mono (by decide)) rfl T.g__law_is_term T.F__law_is_term.kp T.b__law_is_term .nil passN (pa_cons (pe_ix ix_tup (pv 7) pe_int (fun _ _ => rfl)) pa_nil)) (pe_one (pe_cmpR op_eq (pe_call (ok__law_text T) (hr.mono (by decide)) rfl T.g__law_text T.F__law_text.kp T.b__law_text .nil passN (pa_cons (pe_ix ix_tup (pv 7) pe_int (fun _ _ => rfl)) pa_nil)) (pv 5) (nomark _)))))))))))))))))),
      (sSeq (sAsg (sCall (sCons sVar sNil)) sName)
      (sSeq (sAsg (sCall (sCons sVar (sCons sInt sNil))) sName)
      (sSeq (sIfS (sTest (sOp roEq (sCall (sCons sVar (sCons sInt sNil))) sInt)) (sFor (siR1 (sOp roInt0 sInt (sCall (sCons sVar (sCons sInt sNil))))) (fun _ _ _ => sName) (fun _ _ _ => (sAsg (sTup (sCons sVar sNil)) sName))) sNext)
      (sSeq (sAsg (sCall (sCons sVar (sCons (sTup sNil) sNil))) sName)
      (sSeq (sIfS (sTest (sOp roNotN sVar sNon)) (sRet (sCall (sCons (sCall (sCons sVar sNil)) (sCons sVar sNil)))) sNext)
      (sSeq (sAsg (sCall (sCons sVar sNil)) sName)
      (sSeq (sIfS (sOr (sNot (sB (sCall (sCons (sCallSW (W := fun cls d _ H => E cls d H) (by exact hW) (sCons sVar sNil)) (sCons sVar sNil))))) (sNot (sB (sCall (sCons (sCall (sCons sVar sNil)) (sCons (sTup (sCons sStr (sCons sVar sNil))) sNil)))))) (sRet sBl) sNext)
      (sSeq (sAsg (sCall (sCons sVar (sCons sVar sNil))) sName)
      (sSeq (sAsg (sCall (sCons sVar sNil)) sName)
      (sSeq (sAsg (sCall (sCons sVar sNil)) sName)
      (sSeq (sIfS (sTest (sOp roBl0 sVar sInt)) (sRet (sCall (sCons sVar (sCons (sTup (sCons sStr (sCons sVar sNil))) sNil)))) sNext)
      (sRet (sAndV (sOp roEq (sOp roIxT sVar sInt) sStr) (sAndV (sCall (sCons (sOp roIxT sVar sInt) sNil)) (sOp roEq (sCall (sCons (sOp roIxT sVar sInt) sNil)) sVar)))))))))))))))⟩) (fun ds μ Φ Ψ h => ?hv)
  case hv =>
    obtain ⟨ns, rfl, hn, h⟩ := h
    refine q_seq fun nx hnx => ?_
    walk_at "wp"
    refine ⟨ns, rfl, hn, fun p c hp hs => ?_⟩
    have fin : ∀ c' : List D, ∃ μ2, Sub μ2 (sset μ p (.lst c')) ∧ Φ (.bl true) μ2 := fun c' => ⟨μ, Sub.set Sub.refl hp, h⟩
    subst hnx
    refine q_seq fun nx hnx => ?_
    walk_at "wp"
    refine ⟨p, ns, c, 4, rfl, by decide, by decide, sset_same, hs, fun d c1 hd hz s1 => ?_⟩
    rw [sset_sset]
    walk_at "wp"
    subst hnx
    refine q_seq fun nx hnx => ?_
    have rest : ∀ (k : Nat) (d : D) (c' : List D) (x8 : Option D), Tm k d → k ≤ 36 → (txt d).length ≤ 4000 → StC ns c' → nx [some (.scr ns), some (.hd (.ref p)), some d, none, none, none, none, none, x8] (sset μ p (.lst c')) := by
      intro k d c' x8 hd hk hz s1
      subst hnx
      have hpl := plain_tm hd (by omega)
      have hdp := dep_tm hd
      refine q_seq fun nx hnx => ?_
      walk_at "wp"
      refine ⟨by decide, k, d, [], by omega, rfl, hd, hpl, by decide, ?_⟩
      show _
      cases e : fdp (30 - List.length ([] : List Int)) d with
      | some q =>
        have e : fdp 30 d = some q := e
        subst hnx
        simp only [Option.map, pthD, List.nil_append]
        walk_at "wps"
        refine ⟨k, d, by omega, rfl, hd, by omega, fun z => absurd (e.symm.trans z) nofun, fun q' e' => ?_⟩
        rw [e] at e'
        cases e'
        have hql := fdp_len e
        walk_at "wps"
        refine same_at (plain_path (by omega)) (plain_path (by omega)) (by have := @dep_path q; omega) ?_
        rw [same_refl _ (plain_path (by omega))]
        exact fin c'
      | none =>
        have e : fdp 30 d = none := e
        have h30 := fdp_tm hd e
        subst hnx
        simp only [Option.map, pthD]
        walk_at "wps"
        refine ⟨k, d, by omega, rfl, hd, by omega, ?_⟩
        walk_at "wps"
        refine ⟨k, d, by omega, rfl, hd, by omega, fun _ => ?_, fun q z => absurd (e.symm.trans z) nofun⟩
        refine same_at rfl rfl (by simp [depD]) ?_
        rw [same_refl _ rfl]
        walk_at "wps"
        refine ⟨_, rfl, by rw [tl_S]; omega, fun x hr => ?_, fun b hb hbad => (back_bad h30 (by rw [tl_S] at hbad; exact hbad)).elim⟩
        rw [tl_S] at hr
        have ex := back_rd h30 hr
        subst ex
        have hp2 : plainD (.tup [.str (Str.ofString "read"), x]) = true := by simp [plainD, plainDs, hpl]
        walk_at "wps"
        refine ⟨by decide, same_at hp2 hp2 (by simp [depD, depDs]; omega) ?_⟩
        rw [same_refl _ hp2]
        walk_at "wps"
        refine ⟨p, ns, c', _, rfl, by rw [tl_S]; omega, sset_same, s1, fun l c2 hl s2 => ?_⟩
        rw [sset_sset]
        rw [tl_S] at hl
        walk_at "wps"
        refine ⟨_, rfl, by rw [tl_S]; omega, ?_⟩
        rw [tl_S]
        refine ⟨_, rfl, by rw [tl_S]; omega, fun y hy => ?_, fun b hb hbad => ?_⟩
        · rw [tl_S] at hy
          rw [fault_rd hy]
          have e1 := hy.txt
          rw [List.append_nil] at e1
          have ty := hy.tm (by decide)
          have hy2 : (txt y).length = l.length := by rw [← e1]
          walk_at "wps"
          refine ⟨fun z => absurd z (by decide), fun _ => ⟨?_, fun z => absurd trivial z⟩⟩
          refine ⟨30, y, by decide, rfl, ty, plain_tm ty (by omega), ?_⟩
          walk_at "wps"
          refine ⟨30, y, by decide, rfl, ty, by omega, ?_⟩
          rw [← e1]
          walk_at "wps"
          exact fin c2
        · rw [tl_S] at hb hbad
          rw [fault_bad hb hbad]
          walk_at "wps"
          have hp3 : plainD (.tup [.str (Str.ofString "refused"), .int b]) = true := rfl
          refine ⟨fun _ => ⟨by decide, same_at hp3 hp3 (by simp [depD, depDs]) ?_⟩, fun z => by omega⟩
          rw [same_refl _ hp3]
          exact fin c2
    walk_at "wp"
    refine pick_at sset_same s1 (by decide) (by decide) fun r c2 r0 r1 s2 => ?_
    rw [sset_sset]
    walk_at "wp"
    refine ⟨fun c0 => ?_, fun c0 => rest 4 d c2 none hd (by decide) (by omega) s2⟩
    refine pick_at sset_same s2 (by decide) (by decide) fun r3 c3 r30 r31 s3 => ?_
    rw [sset_sset]
    walk_at "wp"
    refine ⟨by omega, by omega, fun i δ' μ' => μ' = sset μ p (.lst c3) ∧ ∃ (d' : D) (x8 : Option D), δ' = [some (.scr ns), some (.hd (.ref p)), some d', none, none, none, none, none, x8] ∧ Tm (4 + i) d' ∧ (txt d').length ≤ 3072 + 2 * i, ⟨rfl, d, none, rfl, hd, hz⟩, ?_, ?_⟩
    · rintro i e δ' μ' hi ⟨rfl, d', x8, rfl, hd', hz'⟩
      walk_at "wps"
      refine ⟨by decide, _, _, rfl, .tup (k := 4 + i) fun y hy => ?_, ?_⟩
      · rw [List.mem_singleton.1 hy]; exact hd'
      · rw [txt, txts, txtr]; simp; omega
    · rintro δ' μ' ⟨rfl, d', x8, rfl, hd', hz'⟩
      exact rest _ d' c3 x8 hd' (by omega) (by omega) s3

end
end LW
set_option Elab.async false
set_option linter.all false
set_option maxRecDepth 100000
set_option maxHeartbeats 4000000
namespace LW
open PySem PySem.Spec L2 DW PyProof.Rows NdefX
theorem kit_refS {K : PySem.W.Frag} {R C : Addr} {b : Bool} (h0 : PySem.W.subIn K (.ref R) (.ref R) = some true) (h1 : PySem.W.isClsIn K C = true) (h2 : PySem.W.typeIn K (.ref C) = some (.type "type")) (h3 : PySem.W.subIn K (.ref R) (.ref C) = some b) : PySem.W.kitOne K (.ref R) (.ref C) = some b := by
  unfold PySem.W.kitOne
  by_cases e : R = C
  · subst e
    rw [h0] at h3
    rw [if_pos (by simp)]
    exact h3
  · rw [if_neg (by simp [e])]
    have h1' : (PySem.W.clsIn K C).isSome = true := h1
    show (if ((PySem.W.clsIn K C).isSome && PySem.W.typeIn K (.ref C) == some (.type "type")) = true then PySem.W.subIn K (.ref R) (.ref C) else none) = some b
    rw [if_pos (by rw [h1', h2] <;> rfl)]
    exact h3
theorem kit_tyS {K : PySem.W.Frag} {R : Addr} {T : String} {b : Bool} (h1 : PySem.W.kitMeta T = true) (h3 : PySem.W.subIn K (.ref R) (.type T) = some b) : PySem.W.kitOne K (.ref R) (.type T) = some b := by
  unfold PySem.W.kitOne
  rw [if_neg (by simp)]
  show (if PySem.W.kitMeta T = true then PySem.W.subIn K (.ref R) (.type T) else none) = some b
  rw [if_pos h1]
  exact h3
abbrev si_InvalidTerm : Stmt := (C8.clsBody (topS 3)).getD 0 (.Pass ⟨0, 0, 0, 0⟩)
theorem sci_InvalidTerm : NScope ["self", "path", "__class__"] ["self", "path"] ["__class__"] (defScope si_InvalidTerm) := nscope_by (by decide +kernel)
theorem okinit_InvalidTerm {CX : CXT} {P : Program} {w : World} {K : Fg} {mg : Str → Option Value} {base : Heap} {f C D cc cda : Addr} {file : Str} {kV doc pm ct oc : Value} {an od : Option Addr} {osl : Array (Option Value)}
    (lk : K.lookup f = some ⟨oc, od, .func (PySem.W.ksFn "__init__" "InvalidTerm.__init__" (defArgs si_InvalidTerm) (defBody si_InvalidTerm) (defScope si_InvalidTerm) .none kV doc pm an (.ref cda) ct cc), osl⟩)
    (hcd : PySem.W.codeIn K (.ref cda) "InvalidTerm.__init__" = true) (T : SupC K C D cc f cda file) (hfile : ((P.main.file : Str) == file) = true) (htop : (P.main.scope.names.lookup ("super" : Str)).isSome = false) (hms : mg "super" = none) :
    FnOk P w K mg base CX 1 f (PySem.W.ksFn "__init__" "InvalidTerm.__init__" (defArgs si_InvalidTerm) (defBody si_InvalidTerm) (defScope si_InvalidTerm) .none kV doc pm an (.ref cda) ct cc) ["self", "path"] (spInit K C "path" (okPath K)) :=
  sup_fn (k := 0) lk hcd sci_InvalidTerm T rfl rfl hfile htop hms rfl (by decide) fun X hP hw hK hN hsc hL hr => by
    obtain ⟨L, hL⟩ := hL
    have v0 : ∀ p, PE X (.Name "self" p) (tVar 0) := fun p => pv 0 (hN := by rw [hN]; rfl) (hv := .inl (by rw [hsc]; rfl))
    have v1 : ∀ p, PE X (.Name "path" p) (tVar 1) := fun p => pv 1 (hN := by rw [hN]; rfl) (hv := .inl (by rw [hsc]; rfl))
    subst hK
    exact ⟨msg_path hr (by decide) (by decide) (v1 _), by rw [hL]; rfl, by rw [hL]; rfl, by rw [hL]; rfl, by rw [hL]; rfl, ⟨_, by rw [hL]; rfl⟩, by rw [hL]; rfl, v0 _, v1 _⟩
abbrev si_InvalidText : Stmt := (C8.clsBody (topS 2)).getD 0 (.Pass ⟨0, 0, 0, 0⟩)
theorem sci_InvalidText : NScope ["self", "position", "__class__"] ["self", "position"] ["__class__"] (defScope si_InvalidText) := nscope_by (by decide +kernel)
theorem okinit_InvalidText {CX : CXT} {P : Program} {w : World} {K : Fg} {mg : Str → Option Value} {base : Heap} {f C D cc cda : Addr} {file : Str} {kV doc pm ct oc : Value} {an od : Option Addr} {osl : Array (Option Value)}
    (lk : K.lookup f = some ⟨oc, od, .func (PySem.W.ksFn "__init__" "InvalidText.__init__" (defArgs si_InvalidText) (defBody si_InvalidText) (defScope si_InvalidText) .none kV doc pm an (.ref cda) ct cc), osl⟩)
    (hcd : PySem.W.codeIn K (.ref cda) "InvalidText.__init__" = true) (T : SupC K C D cc f cda file) (hfile : ((P.main.file : Str) == file) = true) (htop : (P.main.scope.names.lookup ("super" : Str)).isSome = false) (hms : mg "super" = none) :
    FnOk P w K mg base CX 1 f (PySem.W.ksFn "__init__" "InvalidText.__init__" (defArgs si_InvalidText) (defBody si_InvalidText) (defScope si_InvalidText) .none kV doc pm an (.ref cda) ct cc) ["self", "position"] (spInit K C "position" okInt) :=
  sup_fn (k := 0) lk hcd sci_InvalidText T rfl rfl hfile htop hms rfl (by decide) fun X hP hw hK hN hsc hL hr => by
    obtain ⟨L, hL⟩ := hL
    have v0 : ∀ p, PE X (.Name "self" p) (tVar 0) := fun p => pv 0 (hN := by rw [hN]; rfl) (hv := .inl (by rw [hsc]; rfl))
    have v1 : ∀ p, PE X (.Name "position" p) (tVar 1) := fun p => pv 1 (hN := by rw [hN]; rfl) (hv := .inl (by rw [hsc]; rfl))
    
    exact ⟨msg_int (by decide) (v1 _), by rw [hL]; rfl, by rw [hL]; rfl, by rw [hL]; rfl, by rw [hL]; rfl, ⟨_, by rw [hL]; rfl⟩, by rw [hL]; rfl, v0 _, v1 _⟩
open PyProof.Rows in
theorem all_mk {P : Program} {w : World} {K : PySem.W.Frag} {h : Heap} {mg : Str → Option Value} {fa f0 f1 f2 f3 f4 f5 f6 f7 f8 f9 f10 f11 f12 f13 f14 f15 f16 f17 f18 f19 f20 f21 f22 f23 c_InvalidTerm c_InvalidText c_ChoosersError : Addr} (X : K.In h) (G : h.Ns mainGlobals mg) (hfa : mg "law" = some (.ref fa))
    {od0 an0 od1 an1 od2 an2 od3 an3 od4 an4 od5 an5 od6 an6 od7 an7 od8 an8 od9 an9 od10 an10 od11 an11 od12 an12 od13 an13 od14 an14 od15 an15 od16 an16 od17 an17 od18 an18 od19 an19 od20 an20 od21 an21 od22 an22 od23 an23 : Option Addr} {sl0 sl1 sl2 sl3 sl4 sl5 sl6 sl7 sl8 sl9 sl10 sl11 sl12 sl13 sl14 sl15 sl16 sl17 sl18 sl19 sl20 sl21 sl22 sl23 : Array (Option Value)} {oc0 kV0 dc0 pm0 cd0 ct0 oc1 kV1 dc1 pm1 cd1 ct1 oc2 kV2 dc2 pm2 cd2 ct2 oc3 kV3 dc3 pm3 cd3 ct3 oc4 kV4 dc4 pm4 cd4 ct4 oc5 kV5 dc5 pm5 cd5 ct5 oc6 kV6 dc6 pm6 cd6 ct6 oc7 kV7 dc7 pm7 cd7 ct7 oc8 kV8 dc8 pm8 cd8 ct8 oc9 kV9 dc9 pm9 cd9 ct9 oc10 kV10 dc10 pm10 cd10 ct10 oc11 kV11 dc11 pm11 cd11 ct11 oc12 kV12 dc12 pm12 cd12 ct12 oc13 kV13 dc13 pm13 cd13 ct13 oc14 kV14 dc14 pm14 cd14 ct14 oc15 kV15 dc15 pm15 cd15 ct15 oc16 kV16 dc16 pm16 cd16 ct16 oc17 kV17 dc17 pm17 cd17 ct17 oc18 kV18 dc18 pm18 cd18 ct18 oc19 kV19 dc19 pm19 cd19 ct19 oc20 kV20 dc20 pm20 cd20 ct20 oc21 kV21 dc21 pm21 cd21 ct21 oc22 kV22 dc22 pm22 cd22 ct22 oc23 kV23 dc23 pm23 cd23 ct23 : Value} {tk_LETTERS : Tok} {tk_DIGITS : Tok} {tk_LONGEST_WORD : Tok} {tk_LONGEST_NUMBER : Tok} {tk_NUMBERS_END : Tok} {tk_DEEPEST_TUPLE : Tok} {fi_InvalidTerm cda_InvalidTerm cc_InvalidTerm ns_InvalidTerm : Addr} {oci_InvalidTerm kVi_InvalidTerm dci_InvalidTerm pmi_InvalidTerm cti_InvalidTerm clc_InvalidTerm ccl_InvalidTerm : Value} {odi_InvalidTerm ani_InvalidTerm cld_InvalidTerm cdd_InvalidTerm dd_InvalidTerm : Option Addr} {sli_InvalidTerm csl_InvalidTerm ccs_InvalidTerm : Array (Option Value)} {vs_InvalidTerm : Array Value} {fl_InvalidTerm nm_InvalidTerm qn_InvalidTerm : Str} {tf_InvalidTerm : Tok} {bs_InvalidTerm bm_InvalidTerm sb2_InvalidTerm : List Value} {sn_InvalidTerm : List Str} {ab_InvalidTerm : Bool} {col_InvalidTerm : Option Bool} {k0_InvalidTerm k1_InvalidTerm k2_InvalidTerm k3_InvalidTerm k5_InvalidTerm : Option Value} {fi_InvalidText cda_InvalidText cc_InvalidText ns_InvalidText : Addr} {oci_InvalidText kVi_InvalidText dci_InvalidText pmi_InvalidText cti_InvalidText clc_InvalidText ccl_InvalidText : Value} {odi_InvalidText ani_InvalidText cld_InvalidText cdd_InvalidText dd_InvalidText : Option Addr} {sli_InvalidText csl_InvalidText ccs_InvalidText : Array (Option Value)} {vs_InvalidText : Array Value} {fl_InvalidText nm_InvalidText qn_InvalidText : Str} {tf_InvalidText : Tok} {bs_InvalidText bm_InvalidText sb2_InvalidText : List Value} {sn_InvalidText : List Str} {ab_InvalidText : Bool} {col_InvalidText : Option Bool} {k0_InvalidText k1_InvalidText k2_InvalidText k3_InvalidText k5_InvalidText : Option Value}
    (a0 : PySem.W.nsIn K mainGlobals "is_number" = some (some (.ref f0)))
    (l0 : K.lookup f0 = some ⟨oc0, od0, .func (PySem.W.fnOf "is_number" "is_number" (defArgs s_is_number) (defBody s_is_number) (defScope s_is_number) .none kV0 dc0 pm0 an0 cd0 ct0), sl0⟩)
    (c0 : PySem.W.codeIn K cd0 "is_number" = true)
    (k0 : PySem.W.keepIn K (.ref f0) = true)
    (a1 : PySem.W.nsIn K mainGlobals "is_below" = some (some (.ref f1)))
    (l1 : K.lookup f1 = some ⟨oc1, od1, .func (PySem.W.fnOf "is_below" "is_below" (defArgs s_is_below) (defBody s_is_below) (defScope s_is_below) .none kV1 dc1 pm1 an1 cd1 ct1), sl1⟩)
    (c1 : PySem.W.codeIn K cd1 "is_below" = true)
    (k1 : PySem.W.keepIn K (.ref f1) = true)
    (a2 : PySem.W.nsIn K mainGlobals "is_word" = some (some (.ref f2)))
    (l2 : K.lookup f2 = some ⟨oc2, od2, .func (PySem.W.fnOf "is_word" "is_word" (defArgs s_is_word) (defBody s_is_word) (defScope s_is_word) .none kV2 dc2 pm2 an2 cd2 ct2), sl2⟩)
    (c2 : PySem.W.codeIn K cd2 "is_word" = true)
    (k2 : PySem.W.keepIn K (.ref f2) = true)
    (a3 : PySem.W.nsIn K mainGlobals "wrong_part" = some (some (.ref f3)))
    (l3 : K.lookup f3 = some ⟨oc3, od3, .func (PySem.W.fnOf "wrong_part" "wrong_part" (defArgs s_wrong_part) (defBody s_wrong_part) (defScope s_wrong_part) .none kV3 dc3 pm3 an3 cd3 ct3), sl3⟩)
    (c3 : PySem.W.codeIn K cd3 "wrong_part" = true)
    (k3 : PySem.W.keepIn K (.ref f3) = true)
    (a4 : PySem.W.nsIn K mainGlobals "text_of" = some (some (.ref f4)))
    (l4 : K.lookup f4 = some ⟨oc4, od4, .func (PySem.W.fnOf "text_of" "text_of" (defArgs s_text_of) (defBody s_text_of) (defScope s_text_of) .none kV4 dc4 pm4 an4 cd4 ct4), sl4⟩)
    (c4 : PySem.W.codeIn K cd4 "text_of" = true)
    (k4 : PySem.W.keepIn K (.ref f4) = true)
    (a5 : PySem.W.nsIn K mainGlobals "write_term" = some (some (.ref f5)))
    (l5 : K.lookup f5 = some ⟨oc5, od5, .func (PySem.W.fnOf "write_term" "write_term" (defArgs s_write_term) (defBody s_write_term) (defScope s_write_term) .none kV5 dc5 pm5 an5 cd5 ct5), sl5⟩)
    (c5 : PySem.W.codeIn K cd5 "write_term" = true)
    (k5 : PySem.W.keepIn K (.ref f5) = true)
    (a6 : PySem.W.nsIn K mainGlobals "run_end" = some (some (.ref f6)))
    (l6 : K.lookup f6 = some ⟨oc6, od6, .func (PySem.W.fnOf "run_end" "run_end" (defArgs s_run_end) (defBody s_run_end) (defScope s_run_end) .none kV6 dc6 pm6 an6 cd6 ct6), sl6⟩)
    (c6 : PySem.W.codeIn K cd6 "run_end" = true)
    (k6 : PySem.W.keepIn K (.ref f6) = true)
    (a7 : PySem.W.nsIn K mainGlobals "read_part" = some (some (.ref f7)))
    (l7 : K.lookup f7 = some ⟨oc7, od7, .func (PySem.W.fnOf "read_part" "read_part" (defArgs s_read_part) (defBody s_read_part) (defScope s_read_part) .none kV7 dc7 pm7 an7 cd7 ct7), sl7⟩)
    (c7 : PySem.W.codeIn K cd7 "read_part" = true)
    (k7 : PySem.W.keepIn K (.ref f7) = true)
    (a8 : PySem.W.nsIn K mainGlobals "read_tuple" = some (some (.ref f8)))
    (l8 : K.lookup f8 = some ⟨oc8, od8, .func (PySem.W.fnOf "read_tuple" "read_tuple" (defArgs s_read_tuple) (defBody s_read_tuple) (defScope s_read_tuple) .none kV8 dc8 pm8 an8 cd8 ct8), sl8⟩)
    (c8 : PySem.W.codeIn K cd8 "read_tuple" = true)
    (k8 : PySem.W.keepIn K (.ref f8) = true)
    (a9 : PySem.W.nsIn K mainGlobals "read_term" = some (some (.ref f9)))
    (l9 : K.lookup f9 = some ⟨oc9, od9, .func (PySem.W.fnOf "read_term" "read_term" (defArgs s_read_term) (defBody s_read_term) (defScope s_read_term) .none kV9 dc9 pm9 an9 cd9 ct9), sl9⟩)
    (c9 : PySem.W.codeIn K cd9 "read_term" = true)
    (k9 : PySem.W.keepIn K (.ref f9) = true)
    (a10 : PySem.W.nsIn K mainGlobals "_law_start" = some (some (.ref f10)))
    (l10 : K.lookup f10 = some ⟨oc10, od10, .func (PySem.W.fnOf "_law_start" "_law_start" (defArgs s__law_start) (defBody s__law_start) (defScope s__law_start) .none kV10 dc10 pm10 an10 cd10 ct10), sl10⟩)
    (c10 : PySem.W.codeIn K cd10 "_law_start" = true)
    (k10 : PySem.W.keepIn K (.ref f10) = true)
    (a11 : PySem.W.nsIn K mainGlobals "_law_pick" = some (some (.ref f11)))
    (l11 : K.lookup f11 = some ⟨oc11, od11, .func (PySem.W.fnOf "_law_pick" "_law_pick" (defArgs s__law_pick) (defBody s__law_pick) (defScope s__law_pick) .none kV11 dc11 pm11 an11 cd11 ct11), sl11⟩)
    (c11 : PySem.W.codeIn K cd11 "_law_pick" = true)
    (k11 : PySem.W.keepIn K (.ref f11) = true)
    (a12 : PySem.W.nsIn K mainGlobals "_law_atom" = some (some (.ref f12)))
    (l12 : K.lookup f12 = some ⟨oc12, od12, .func (PySem.W.fnOf "_law_atom" "_law_atom" (defArgs s__law_atom) (defBody s__law_atom) (defScope s__law_atom) .none kV12 dc12 pm12 an12 cd12 ct12), sl12⟩)
    (c12 : PySem.W.codeIn K cd12 "_law_atom" = true)
    (k12 : PySem.W.keepIn K (.ref f12) = true)
    (a13 : PySem.W.nsIn K mainGlobals "_law_term" = some (some (.ref f13)))
    (l13 : K.lookup f13 = some ⟨oc13, od13, .func (PySem.W.fnOf "_law_term" "_law_term" (defArgs s__law_term) (defBody s__law_term) (defScope s__law_term) .none kV13 dc13 pm13 an13 cd13 ct13), sl13⟩)
    (c13 : PySem.W.codeIn K cd13 "_law_term" = true)
    (k13 : PySem.W.keepIn K (.ref f13) = true)
    (a14 : PySem.W.nsIn K mainGlobals "_law_text" = some (some (.ref f14)))
    (l14 : K.lookup f14 = some ⟨oc14, od14, .func (PySem.W.fnOf "_law_text" "_law_text" (defArgs s__law_text) (defBody s__law_text) (defScope s__law_text) .none kV14 dc14 pm14 an14 cd14 ct14), sl14⟩)
    (c14 : PySem.W.codeIn K cd14 "_law_text" = true)
    (k14 : PySem.W.keepIn K (.ref f14) = true)
    (a15 : PySem.W.nsIn K mainGlobals "_law_next" = some (some (.ref f15)))
    (l15 : K.lookup f15 = some ⟨oc15, od15, .func (PySem.W.fnOf "_law_next" "_law_next" (defArgs s__law_next) (defBody s__law_next) (defScope s__law_next) .none kV15 dc15 pm15 an15 cd15 ct15), sl15⟩)
    (c15 : PySem.W.codeIn K cd15 "_law_next" = true)
    (k15 : PySem.W.keepIn K (.ref f15) = true)
    (a16 : PySem.W.nsIn K mainGlobals "_law_fault" = some (some (.ref f16)))
    (l16 : K.lookup f16 = some ⟨oc16, od16, .func (PySem.W.fnOf "_law_fault" "_law_fault" (defArgs s__law_fault) (defBody s__law_fault) (defScope s__law_fault) .none kV16 dc16 pm16 an16 cd16 ct16), sl16⟩)
    (c16 : PySem.W.codeIn K cd16 "_law_fault" = true)
    (k16 : PySem.W.keepIn K (.ref f16) = true)
    (a17 : PySem.W.nsIn K mainGlobals "_law_spoilt" = some (some (.ref f17)))
    (l17 : K.lookup f17 = some ⟨oc17, od17, .func (PySem.W.fnOf "_law_spoilt" "_law_spoilt" (defArgs s__law_spoilt) (defBody s__law_spoilt) (defScope s__law_spoilt) .none kV17 dc17 pm17 an17 cd17 ct17), sl17⟩)
    (c17 : PySem.W.codeIn K cd17 "_law_spoilt" = true)
    (k17 : PySem.W.keepIn K (.ref f17) = true)
    (a18 : PySem.W.nsIn K mainGlobals "_law_first_deep" = some (some (.ref f18)))
    (l18 : K.lookup f18 = some ⟨oc18, od18, .func (PySem.W.fnOf "_law_first_deep" "_law_first_deep" (defArgs s__law_first_deep) (defBody s__law_first_deep) (defScope s__law_first_deep) .none kV18 dc18 pm18 an18 cd18 ct18), sl18⟩)
    (c18 : PySem.W.codeIn K cd18 "_law_first_deep" = true)
    (k18 : PySem.W.keepIn K (.ref f18) = true)
    (a19 : PySem.W.nsIn K mainGlobals "_law_same" = some (some (.ref f19)))
    (l19 : K.lookup f19 = some ⟨oc19, od19, .func (PySem.W.fnOf "_law_same" "_law_same" (defArgs s__law_same) (defBody s__law_same) (defScope s__law_same) .none kV19 dc19 pm19 an19 cd19 ct19), sl19⟩)
    (c19 : PySem.W.codeIn K cd19 "_law_same" = true)
    (k19 : PySem.W.keepIn K (.ref f19) = true)
    (a20 : PySem.W.nsIn K mainGlobals "_law_is_term" = some (some (.ref f20)))
    (l20 : K.lookup f20 = some ⟨oc20, od20, .func (PySem.W.fnOf "_law_is_term" "_law_is_term" (defArgs s__law_is_term) (defBody s__law_is_term) (defScope s__law_is_term) .none kV20 dc20 pm20 an20 cd20 ct20), sl20⟩)
    (c20 : PySem.W.codeIn K cd20 "_law_is_term" = true)
    (k20 : PySem.W.keepIn K (.ref f20) = true)
    (a21 : PySem.W.nsIn K mainGlobals "_law_read" = some (some (.ref f21)))
    (l21 : K.lookup f21 = some ⟨oc21, od21, .func (PySem.W.fnOf "_law_read" "_law_read" (defArgs s__law_read) (defBody s__law_read) (defScope s__law_read) .none kV21 dc21 pm21 an21 cd21 ct21), sl21⟩)
    (c21 : PySem.W.codeIn K cd21 "_law_read" = true)
    (k21 : PySem.W.keepIn K (.ref f21) = true)
    (a22 : PySem.W.nsIn K mainGlobals "_law_deep_path" = some (some (.ref f22)))
    (l22 : K.lookup f22 = some ⟨oc22, od22, .func (PySem.W.fnOf "_law_deep_path" "_law_deep_path" (defArgs s__law_deep_path) (defBody s__law_deep_path) (defScope s__law_deep_path) .none kV22 dc22 pm22 an22 cd22 ct22), sl22⟩)
    (c22 : PySem.W.codeIn K cd22 "_law_deep_path" = true)
    (k22 : PySem.W.keepIn K (.ref f22) = true)
    (a23 : PySem.W.nsIn K mainGlobals "law" = some (some (.ref f23)))
    (l23 : K.lookup f23 = some ⟨oc23, od23, .func (PySem.W.fnOf "law" "law" (defArgs s_law) (defBody s_law) (defScope s_law) .none kV23 dc23 pm23 an23 cd23 ct23), sl23⟩)
    (c23 : PySem.W.codeIn K cd23 "law" = true)
    (k23 : PySem.W.keepIn K (.ref f23) = true)
    (z_isinstance : PySem.W.nsIn K mainGlobals "isinstance" = some none)
    (z_int : PySem.W.nsIn K mainGlobals "int" = some none)
    (z_bool : PySem.W.nsIn K mainGlobals "bool" = some none)
    (z_all : PySem.W.nsIn K mainGlobals "all" = some none)
    (z_str : PySem.W.nsIn K mainGlobals "str" = some none)
    (z_len : PySem.W.nsIn K mainGlobals "len" = some none)
    (z_enumerate : PySem.W.nsIn K mainGlobals "enumerate" = some none)
    (z_tuple : PySem.W.nsIn K mainGlobals "tuple" = some none)
    (z_range : PySem.W.nsIn K mainGlobals "range" = some none)
    (z_list : PySem.W.nsIn K mainGlobals "list" = some none)
    (z_ValueError : PySem.W.nsIn K mainGlobals "ValueError" = some none)
    (gc_LETTERS : PySem.W.nsIn K mainGlobals "LETTERS" = some (some (.str "abcdefghijklmnopqrstuvwxyz" tk_LETTERS)))
    (gc_DIGITS : PySem.W.nsIn K mainGlobals "DIGITS" = some (some (.str "0123456789" tk_DIGITS)))
    (gc_LONGEST_WORD : PySem.W.nsIn K mainGlobals "LONGEST_WORD" = some (some (.int 12 tk_LONGEST_WORD)))
    (gc_LONGEST_NUMBER : PySem.W.nsIn K mainGlobals "LONGEST_NUMBER" = some (some (.int 9 tk_LONGEST_NUMBER)))
    (gc_NUMBERS_END : PySem.W.nsIn K mainGlobals "NUMBERS_END" = some (some (.int 1000000000 tk_NUMBERS_END)))
    (gc_DEEPEST_TUPLE : PySem.W.nsIn K mainGlobals "DEEPEST_TUPLE" = some (some (.int 30 tk_DEEPEST_TUPLE)))
    (g_InvalidTerm : PySem.W.nsIn K mainGlobals "InvalidTerm" = some (some (.ref c_InvalidTerm)))
    (g_InvalidText : PySem.W.nsIn K mainGlobals "InvalidText" = some (some (.ref c_InvalidText)))
    (g_ChoosersError : PySem.W.nsIn K mainGlobals "ChoosersError" = some (some (.ref c_ChoosersError)))
    (z_super : PySem.W.nsIn K mainGlobals "super" = some none)
    (opq_ : PySem.W.nsIn K cStatics "thirdparty.any" = some none)
    (kc_InvalidTerm : PySem.W.keepIn K (.ref c_InvalidTerm) = true)
    (e_InvalidTerm : PySem.W.subIn K (.ref c_InvalidTerm) (.type "BaseException") = some true)
    (t_InvalidTerm : PySem.W.typeIn K (.ref c_InvalidTerm) = some (.type "type"))
    (hg_InvalidTerm : PySem.W.findIn K (.ref c_InvalidTerm) "__getattribute__" = some (some (.builtin "BaseException.__getattribute__")))
    (hk_InvalidTerm : PySem.W.findIn K (.ref c_InvalidTerm) "__getattr__" = some none)
    (hd_InvalidTerm : PySem.W.hasDictIn K c_InvalidTerm = true)
    (ha_InvalidTerm : PySem.W.findIn K (.ref c_InvalidTerm) "__class__" = some (some (.builtin "object.__class__")))
    (hm_InvalidTerm : PySem.W.mroIn K c_InvalidTerm (.type "object") = some true)
    (s_InvalidTerm_InvalidTerm : PySem.W.subIn K (.ref c_InvalidTerm) (.ref c_InvalidTerm) = some true)
    (s_InvalidTerm_ChoosersError : PySem.W.subIn K (.ref c_InvalidTerm) (.ref c_ChoosersError) = some true)
    (s_InvalidTerm_ValueError : PySem.W.subIn K (.ref c_InvalidTerm) (.type "ValueError") = some true)
    (s_InvalidTerm_InvalidText : PySem.W.subIn K (.ref c_InvalidTerm) (.ref c_InvalidText) = some false)
    (kc_InvalidText : PySem.W.keepIn K (.ref c_InvalidText) = true)
    (e_InvalidText : PySem.W.subIn K (.ref c_InvalidText) (.type "BaseException") = some true)
    (t_InvalidText : PySem.W.typeIn K (.ref c_InvalidText) = some (.type "type"))
    (hg_InvalidText : PySem.W.findIn K (.ref c_InvalidText) "__getattribute__" = some (some (.builtin "BaseException.__getattribute__")))
    (hk_InvalidText : PySem.W.findIn K (.ref c_InvalidText) "__getattr__" = some none)
    (hd_InvalidText : PySem.W.hasDictIn K c_InvalidText = true)
    (ha_InvalidText : PySem.W.findIn K (.ref c_InvalidText) "__class__" = some (some (.builtin "object.__class__")))
    (hm_InvalidText : PySem.W.mroIn K c_InvalidText (.type "object") = some true)
    (s_InvalidText_InvalidText : PySem.W.subIn K (.ref c_InvalidText) (.ref c_InvalidText) = some true)
    (s_InvalidText_InvalidTerm : PySem.W.subIn K (.ref c_InvalidText) (.ref c_InvalidTerm) = some false)
    (s_InvalidText_ChoosersError : PySem.W.subIn K (.ref c_InvalidText) (.ref c_ChoosersError) = some true)
    (s_InvalidText_ValueError : PySem.W.subIn K (.ref c_InvalidText) (.type "ValueError") = some true)
    (ic_InvalidTerm : PySem.W.findIn K (.ref c_InvalidTerm) "__init__" = some (some (.ref fi_InvalidTerm)))
    (li_InvalidTerm : K.lookup fi_InvalidTerm = some ⟨oci_InvalidTerm, odi_InvalidTerm, .func (PySem.W.ksFn "__init__" "InvalidTerm.__init__" (defArgs si_InvalidTerm) (defBody si_InvalidTerm) (defScope si_InvalidTerm) .none kVi_InvalidTerm dci_InvalidTerm pmi_InvalidTerm ani_InvalidTerm (.ref cda_InvalidTerm) cti_InvalidTerm cc_InvalidTerm), sli_InvalidTerm⟩)
    (cdi_InvalidTerm : PySem.W.codeIn K (.ref cda_InvalidTerm) "InvalidTerm.__init__" = true)
    (ti_InvalidTerm : PySem.W.typeIn K (.ref fi_InvalidTerm) = some (.type "function"))
    (no_InvalidTerm : PySem.W.findIn K (.ref c_InvalidTerm) "path" = some none)
    (cell_InvalidTerm : K.lookup cc_InvalidTerm = some ⟨clc_InvalidTerm, cld_InvalidTerm, .cell (some (.ref c_InvalidTerm)), csl_InvalidTerm⟩)
    (own_InvalidTerm : PySem.W.isClsIn K c_InvalidTerm = true)
    (sb_InvalidTerm : PySem.W.mroIn K c_InvalidTerm (.ref c_InvalidTerm) = some true)
    (ve_InvalidTerm : PySem.W.subIn K (.ref c_InvalidTerm) (.type "ValueError") = some true)
    (sup_InvalidTerm : PySem.W.ks_superIn K c_InvalidTerm c_InvalidTerm "__init__" = some (some (.builtin "ValueError.__init__")))
    (code_InvalidTerm : K.lookup cda_InvalidTerm = some ⟨ccl_InvalidTerm, cdd_InvalidTerm, .fields vs_InvalidTerm, ccs_InvalidTerm⟩)
    (cfl_InvalidTerm : vs_InvalidTerm[2]? = some (.str fl_InvalidTerm tf_InvalidTerm))
    (hfl_InvalidTerm : ((P.main.file : Str) == fl_InvalidTerm) = true)
    (ob_InvalidTerm : K.lookup c_InvalidTerm = some (excClassObj nm_InvalidTerm qn_InvalidTerm c_InvalidTerm ns_InvalidTerm bs_InvalidTerm bm_InvalidTerm true sn_InvalidTerm sb2_InvalidTerm ab_InvalidTerm col_InvalidTerm dd_InvalidTerm k0_InvalidTerm k1_InvalidTerm k2_InvalidTerm k3_InvalidTerm k5_InvalidTerm "ValueError.__new__"))
    (rv_InvalidTerm : PySem.HandSPX.refsVE bm_InvalidTerm = true)
    (sa_InvalidTerm : PySem.W.findIn K (.ref c_InvalidTerm) "__setattr__" = some (some (.builtin "object.__setattr__")))
    (ic_InvalidText : PySem.W.findIn K (.ref c_InvalidText) "__init__" = some (some (.ref fi_InvalidText)))
    (li_InvalidText : K.lookup fi_InvalidText = some ⟨oci_InvalidText, odi_InvalidText, .func (PySem.W.ksFn "__init__" "InvalidText.__init__" (defArgs si_InvalidText) (defBody si_InvalidText) (defScope si_InvalidText) .none kVi_InvalidText dci_InvalidText pmi_InvalidText ani_InvalidText (.ref cda_InvalidText) cti_InvalidText cc_InvalidText), sli_InvalidText⟩)
    (cdi_InvalidText : PySem.W.codeIn K (.ref cda_InvalidText) "InvalidText.__init__" = true)
    (ti_InvalidText : PySem.W.typeIn K (.ref fi_InvalidText) = some (.type "function"))
    (no_InvalidText : PySem.W.findIn K (.ref c_InvalidText) "position" = some none)
    (cell_InvalidText : K.lookup cc_InvalidText = some ⟨clc_InvalidText, cld_InvalidText, .cell (some (.ref c_InvalidText)), csl_InvalidText⟩)
    (own_InvalidText : PySem.W.isClsIn K c_InvalidText = true)
    (sb_InvalidText : PySem.W.mroIn K c_InvalidText (.ref c_InvalidText) = some true)
    (ve_InvalidText : PySem.W.subIn K (.ref c_InvalidText) (.type "ValueError") = some true)
    (sup_InvalidText : PySem.W.ks_superIn K c_InvalidText c_InvalidText "__init__" = some (some (.builtin "ValueError.__init__")))
    (code_InvalidText : K.lookup cda_InvalidText = some ⟨ccl_InvalidText, cdd_InvalidText, .fields vs_InvalidText, ccs_InvalidText⟩)
    (cfl_InvalidText : vs_InvalidText[2]? = some (.str fl_InvalidText tf_InvalidText))
    (hfl_InvalidText : ((P.main.file : Str) == fl_InvalidText) = true)
    (ob_InvalidText : K.lookup c_InvalidText = some (excClassObj nm_InvalidText qn_InvalidText c_InvalidText ns_InvalidText bs_InvalidText bm_InvalidText true sn_InvalidText sb2_InvalidText ab_InvalidText col_InvalidText dd_InvalidText k0_InvalidText k1_InvalidText k2_InvalidText k3_InvalidText k5_InvalidText "ValueError.__new__"))
    (rv_InvalidText : PySem.HandSPX.refsVE bm_InvalidText = true)
    (sa_InvalidText : PySem.W.findIn K (.ref c_InvalidText) "__setattr__" = some (some (.builtin "object.__setattr__")))
    (htop_ : (P.main.scope.names.lookup ("super" : Str)).isSome = false)
    (q_InvalidTerm : PySem.W.isClsIn K c_InvalidTerm = true)
    (q_InvalidText : PySem.W.isClsIn K c_InvalidText = true)
    (q_ChoosersError : PySem.W.isClsIn K c_ChoosersError = true)
    (t_ChoosersError : PySem.W.typeIn K (.ref c_ChoosersError) = some (.type "type"))
    (e_ChoosersError : PySem.W.subIn K (.ref c_ChoosersError) (.type "BaseException") = some true)
    (hd_ChoosersError : PySem.W.hasDictIn K c_ChoosersError = true)
    (hn_ : PySem.W.specialIn K (.builtin "object.__class__") "__get__" = some (some (.builtin "getset_descriptor.__get__")))
    (ht_ : PySem.W.takesIn K (.builtin "object.__class__") = some true)
    : ∃ fd : FuncData, (∀ (s : Shared) (v : Value), BindsTo s fd ⟨[v], []⟩ [("_law_script", v)]) ∧ ∀ base : Heap, K.In base → base.Ns mainGlobals mg → FnOk P w K mg base (L2N.CX P w) 73 fa fd ["_law_script"] (spOf K c_law) := by
  have e := hfa.symm.trans (PySem.W.mg_of X G a23)
  cases e
  have F0 := fun_mk (st := s_is_number) l0 c0 k0
  have b0 := F0.binds (ps := ["value"]) fun _ _ _ _ _ _ us hl => match us, hl with | [_], _ => rfl
  have F1 := fun_mk (st := s_is_below) l1 c1 k1
  have b1 := F1.binds (ps := ["value", "limit"]) fun _ _ _ _ _ _ us hl => match us, hl with | [_, _], _ => rfl
  have F2 := fun_mk (st := s_is_word) l2 c2 k2
  have b2 := F2.binds (ps := ["value"]) fun _ _ _ _ _ _ us hl => match us, hl with | [_], _ => rfl
  have F3 := fun_mk (st := s_wrong_part) l3 c3 k3
  have b3 := F3.binds (ps := ["term", "depth"]) fun _ _ _ _ _ _ us hl => match us, hl with | [_, _], _ => rfl
  have F4 := fun_mk (st := s_text_of) l4 c4 k4
  have b4 := F4.binds (ps := ["term"]) fun _ _ _ _ _ _ us hl => match us, hl with | [_], _ => rfl
  have F5 := fun_mk (st := s_write_term) l5 c5 k5
  have b5 := F5.binds (ps := ["term"]) fun _ _ _ _ _ _ us hl => match us, hl with | [_], _ => rfl
  have F6 := fun_mk (st := s_run_end) l6 c6 k6
  have b6 := F6.binds (ps := ["text", "start", "signs", "most"]) fun _ _ _ _ _ _ us hl => match us, hl with | [_, _, _, _], _ => rfl
  have F7 := fun_mk (st := s_read_part) l7 c7 k7
  have b7 := F7.binds (ps := ["text", "start", "depth"]) fun _ _ _ _ _ _ us hl => match us, hl with | [_, _, _], _ => rfl
  have F8 := fun_mk (st := s_read_tuple) l8 c8 k8
  have b8 := F8.binds (ps := ["text", "start", "depth"]) fun _ _ _ _ _ _ us hl => match us, hl with | [_, _, _], _ => rfl
  have F9 := fun_mk (st := s_read_term) l9 c9 k9
  have b9 := F9.binds (ps := ["text"]) fun _ _ _ _ _ _ us hl => match us, hl with | [_], _ => rfl
  have F10 := fun_mk (st := s__law_start) l10 c10 k10
  have b10 := F10.binds (ps := ["_law_script"]) fun _ _ _ _ _ _ us hl => match us, hl with | [_], _ => rfl
  have F11 := fun_mk (st := s__law_pick) l11 c11 k11
  have b11 := F11.binds (ps := ["_law_state", "_law_limit"]) fun _ _ _ _ _ _ us hl => match us, hl with | [_, _], _ => rfl
  have F12 := fun_mk (st := s__law_atom) l12 c12 k12
  have b12 := F12.binds (ps := ["_law_state"]) fun _ _ _ _ _ _ us hl => match us, hl with | [_], _ => rfl
  have F13 := fun_mk (st := s__law_term) l13 c13 k13
  have b13 := F13.binds (ps := ["_law_state", "_law_levels"]) fun _ _ _ _ _ _ us hl => match us, hl with | [_, _], _ => rfl
  have F14 := fun_mk (st := s__law_text) l14 c14 k14
  have b14 := F14.binds (ps := ["_law_term_here"]) fun _ _ _ _ _ _ us hl => match us, hl with | [_], _ => rfl
  have F15 := fun_mk (st := s__law_next) l15 c15 k15
  have b15 := F15.binds (ps := ["_law_kind", "_law_many", "_law_depth", "_law_sign"]) fun _ _ _ _ _ _ us hl => match us, hl with | [_, _, _, _], _ => rfl
  have F16 := fun_mk (st := s__law_fault) l16 c16 k16
  have b16 := F16.binds (ps := ["_law_text_here"]) fun _ _ _ _ _ _ us hl => match us, hl with | [_], _ => rfl
  have F17 := fun_mk (st := s__law_spoilt) l17 c17 k17
  have b17 := F17.binds (ps := ["_law_state", "_law_text_here"]) fun _ _ _ _ _ _ us hl => match us, hl with | [_, _], _ => rfl
  have F18 := fun_mk (st := s__law_first_deep) l18 c18 k18
  have b18 := F18.binds (ps := ["_law_term_here", "_law_path"]) fun _ _ _ _ _ _ us hl => match us, hl with | [_, _], _ => rfl
  have F19 := fun_mk (st := s__law_same) l19 c19 k19
  have b19 := F19.binds (ps := ["_law_actual", "_law_term_here"]) fun _ _ _ _ _ _ us hl => match us, hl with | [_, _], _ => rfl
  have F20 := fun_mk (st := s__law_is_term) l20 c20 k20
  have b20 := F20.binds (ps := ["_law_actual"]) fun _ _ _ _ _ _ us hl => match us, hl with | [_], _ => rfl
  have F21 := fun_mk (st := s__law_read) l21 c21 k21
  have b21 := F21.binds (ps := ["_law_text_here"]) fun _ _ _ _ _ _ us hl => match us, hl with | [_], _ => rfl
  have F22 := fun_mk (st := s__law_deep_path) l22 c22 k22
  have b22 := F22.binds (ps := ["_law_term_here"]) fun _ _ _ _ _ _ us hl => match us, hl with | [_], _ => rfl
  have F23 := fun_mk (st := s_law) l23 c23 k23
  have b23 := F23.binds (ps := ["_law_script"]) fun _ _ _ _ _ _ us hl => match us, hl with | [_], _ => rfl
  have ox_InvalidTerm : OexC K c_InvalidTerm := ⟨⟨_, _, _, _, _, _, _, _, _, _, _, _, _, _, _, ob_InvalidTerm, rv_InvalidTerm⟩, sa_InvalidTerm, e_InvalidTerm, t_InvalidTerm, kc_InvalidTerm⟩
  have su_InvalidTerm : SupC K c_InvalidTerm c_InvalidTerm cc_InvalidTerm fi_InvalidTerm cda_InvalidTerm fl_InvalidTerm := ⟨ox_InvalidTerm, ⟨_, _, _, cell_InvalidTerm⟩, own_InvalidTerm, sb_InvalidTerm, ve_InvalidTerm, opq_, sup_InvalidTerm, ⟨_, _, _, _, _, code_InvalidTerm, cfl_InvalidTerm⟩⟩
  have ox_InvalidText : OexC K c_InvalidText := ⟨⟨_, _, _, _, _, _, _, _, _, _, _, _, _, _, _, ob_InvalidText, rv_InvalidText⟩, sa_InvalidText, e_InvalidText, t_InvalidText, kc_InvalidText⟩
  have su_InvalidText : SupC K c_InvalidText c_InvalidText cc_InvalidText fi_InvalidText cda_InvalidText fl_InvalidText := ⟨ox_InvalidText, ⟨_, _, _, cell_InvalidText⟩, own_InvalidText, sb_InvalidText, ve_InvalidText, opq_, sup_InvalidText, ⟨_, _, _, _, _, code_InvalidText, cfl_InvalidText⟩⟩
  exact ⟨_, fun s v => .of_eq rfl, fun base _ _ => ok_law (⟨f0, _, F0, PySem.W.mg_of X G a0, b0,
    f1, _, F1, PySem.W.mg_of X G a1, b1,
    f2, _, F2, PySem.W.mg_of X G a2, b2,
    f3, _, F3, PySem.W.mg_of X G a3, b3,
    f4, _, F4, PySem.W.mg_of X G a4, b4,
    f5, _, F5, PySem.W.mg_of X G a5, b5,
    f6, _, F6, PySem.W.mg_of X G a6, b6,
    f7, _, F7, PySem.W.mg_of X G a7, b7,
    f8, _, F8, PySem.W.mg_of X G a8, b8,
    f9, _, F9, PySem.W.mg_of X G a9, b9,
    f10, _, F10, PySem.W.mg_of X G a10, b10,
    f11, _, F11, PySem.W.mg_of X G a11, b11,
    f12, _, F12, PySem.W.mg_of X G a12, b12,
    f13, _, F13, PySem.W.mg_of X G a13, b13,
    f14, _, F14, PySem.W.mg_of X G a14, b14,
    f15, _, F15, PySem.W.mg_of X G a15, b15,
    f16, _, F16, PySem.W.mg_of X G a16, b16,
    f17, _, F17, PySem.W.mg_of X G a17, b17,
    f18, _, F18, PySem.W.mg_of X G a18, b18,
    f19, _, F19, PySem.W.mg_of X G a19, b19,
    f20, _, F20, PySem.W.mg_of X G a20, b20,
    f21, _, F21, PySem.W.mg_of X G a21, b21,
    f22, _, F22, PySem.W.mg_of X G a22, b22,
    fa, _, F23, PySem.W.mg_of X G a23, b23,
    PySem.W.mg_none_of X G z_isinstance,
    PySem.W.mg_none_of X G z_int,
    PySem.W.mg_none_of X G z_bool,
    PySem.W.mg_none_of X G z_all,
    PySem.W.mg_none_of X G z_str,
    PySem.W.mg_none_of X G z_len,
    PySem.W.mg_none_of X G z_enumerate,
    PySem.W.mg_none_of X G z_tuple,
    PySem.W.mg_none_of X G z_range,
    PySem.W.mg_none_of X G z_list,
    PySem.W.mg_none_of X G z_ValueError,
    ⟨_, PySem.W.mg_of X G gc_LETTERS⟩,
    ⟨_, PySem.W.mg_of X G gc_DIGITS⟩,
    ⟨_, PySem.W.mg_of X G gc_LONGEST_WORD⟩,
    ⟨_, PySem.W.mg_of X G gc_LONGEST_NUMBER⟩,
    ⟨_, PySem.W.mg_of X G gc_NUMBERS_END⟩,
    ⟨_, PySem.W.mg_of X G gc_DEEPEST_TUPLE⟩,
    c_InvalidTerm, PySem.W.mg_of X G g_InvalidTerm,
    c_InvalidText, PySem.W.mg_of X G g_InvalidText,
    c_ChoosersError, PySem.W.mg_of X G g_ChoosersError,
    fi_InvalidTerm, _, ox_InvalidTerm, ic_InvalidTerm, ti_InvalidTerm, no_InvalidTerm, ⟨hg_InvalidTerm, hk_InvalidTerm, e_InvalidTerm, hd_InvalidTerm⟩, ⟨hg_InvalidTerm, hk_InvalidTerm, e_InvalidTerm, hd_InvalidTerm, ha_InvalidTerm, hn_, ht_, hm_InvalidTerm⟩, okinit_InvalidTerm li_InvalidTerm cdi_InvalidTerm su_InvalidTerm hfl_InvalidTerm htop_ (PySem.W.mg_none_of X G z_super), Binds.all fun us hl => match us, hl with | [_, _], _ => rfl,
    kit_refS s_InvalidTerm_InvalidTerm q_InvalidTerm t_InvalidTerm s_InvalidTerm_InvalidTerm,
    kit_refS s_InvalidTerm_InvalidTerm q_ChoosersError t_ChoosersError s_InvalidTerm_ChoosersError,
    kit_tyS rfl s_InvalidTerm_ValueError,
    PySem.W.exm_ref e_InvalidText hd_InvalidText t_InvalidText s_InvalidTerm_InvalidText,
    PySem.W.exm_ref e_ChoosersError hd_ChoosersError t_ChoosersError s_InvalidTerm_ChoosersError,
    fi_InvalidText, _, ox_InvalidText, ic_InvalidText, ti_InvalidText, no_InvalidText, ⟨hg_InvalidText, hk_InvalidText, e_InvalidText, hd_InvalidText⟩, ⟨hg_InvalidText, hk_InvalidText, e_InvalidText, hd_InvalidText, ha_InvalidText, hn_, ht_, hm_InvalidText⟩, okinit_InvalidText li_InvalidText cdi_InvalidText su_InvalidText hfl_InvalidText htop_ (PySem.W.mg_none_of X G z_super), Binds.all fun us hl => match us, hl with | [_, _], _ => rfl,
    kit_refS s_InvalidText_InvalidText q_InvalidTerm t_InvalidTerm s_InvalidText_InvalidTerm,
    kit_refS s_InvalidText_InvalidText q_ChoosersError t_ChoosersError s_InvalidText_ChoosersError,
    kit_tyS rfl s_InvalidText_ValueError,
    PySem.W.exm_ref e_InvalidText hd_InvalidText t_InvalidText s_InvalidText_InvalidText,
    PySem.W.exm_ref e_ChoosersError hd_ChoosersError t_ChoosersError s_InvalidText_ChoosersError⟩ : Txt P K mg)⟩
theorem sp_law_of {K : Fg} {H : Hp} {a : Addr} {ns : List Int} (hl : ns.length ≤ 63) (hS : SqL K H a (ns.map V.int)) : spOf K c_law [.ref a] H (fun v _ => v = .bl true) fun _ _ _ => False :=
  ⟨fun _ => none, [.scr ns], fun d _ => d = .bl true, fun _ _ => False, (fun _ _ z => nomatch z), .scr (hS.elim (fun q => .inl ⟨q, .of rfl⟩) fun q => .inr q) .nil, ⟨ns, rfl, hl, rfl⟩, fun v H' d μ' _ _ r e => by subst e; exact Rep.bl_inv r, fun _ _ _ _ _ _ _ _ z => z⟩
open PyProof.Rows in
theorem walk {l : PySem.W.OpenLaw} {q : Program} {loose : List Str} {XP : (Str → Option Value) → Heap → Prop} {YP : World → Heap → Prop} {d : DefRec} {K : Params → PySem.W.Frag} (hn : l.most = some 63) (hdf : d.params.defaults = [])
    (hY : ∀ (w : World) (h : Heap), YP w h → (K w.params).In h)
    (F : ∀ (w : World) (mg : Str → Option Value) (fa : Addr) (h : Heap), (K w.params).In h → h.Ns mainGlobals mg → mg d.name = some (.ref fa) →
      ∃ fd : FuncData, (∀ (s : Shared) (u : Value), BindsTo s fd ⟨[u], []⟩ [("_law_script", u)]) ∧ ∀ base : Heap, (K w.params).In base → base.Ns mainGlobals mg → FnOk l.prog w (K w.params) mg base (L2N.CX l.prog w) 73 fa fd ["_law_script"] (spOf (K w.params) c_law)) :
    PySem.W.WalkO q loose XP YP l.row.toRowW d [] (fun f vs => PySem.call f vs) :=
  L2.walk_of (n := 63) (k := 73) (x := "_law_script") (CX := fun w => L2N.CX l.prog w) (sp := fun w => spOf (K w.params) c_law) hn (by decide) hdf ⟨rfl, by decide, by decide⟩ hY F (fun _ _ a ns hl _ hS => sp_law_of hl hS) fun _ _ _ _ _ h => by
    obtain ⟨_, _, _, _, _, _, _, _, _, _, _, _, z⟩ := h
    exact z
end LW
open PySem PySem.W PyProof.Rows in
set_option maxRecDepth 100000 in
set_option maxHeartbeats 0 in
theorem PySem.Challenge.cw_choosersrow_k00_term_texts_holds : PySem.Challenge.rw_choosersrow_k00_term_texts.Holds := by
  w_on; o_law; k_head; (case hw => w_witness2)
  k_fill
  refine LW.walk (l := PySem.Challenge.rw_choosersrow_k00_term_texts) rfl rfl (fun w h Y => PySem.W.kIn_of Y) ?F
  case F =>
    intro w mg fa h KX G hmg
    refine' LW.all_mk KX G hmg ?a0 ?l0 ?c0 ?k0 ?a1 ?l1 ?c1 ?k1 ?a2 ?l2 ?c2 ?k2 ?a3 ?l3 ?c3 ?k3 ?a4 ?l4 ?c4 ?k4 ?a5 ?l5 ?c5 ?k5 ?a6 ?l6 ?c6 ?k6 ?a7 ?l7 ?c7 ?k7 ?a8 ?l8 ?c8 ?k8 ?a9 ?l9 ?c9 ?k9 ?a10 ?l10 ?c10 ?k10 ?a11 ?l11 ?c11 ?k11 ?a12 ?l12 ?c12 ?k12 ?a13 ?l13 ?c13 ?k13 ?a14 ?l14 ?c14 ?k14 ?a15 ?l15 ?c15 ?k15 ?a16 ?l16 ?c16 ?k16 ?a17 ?l17 ?c17 ?k17 ?a18 ?l18 ?c18 ?k18 ?a19 ?l19 ?c19 ?k19 ?a20 ?l20 ?c20 ?k20 ?a21 ?l21 ?c21 ?k21 ?a22 ?l22 ?c22 ?k22 ?a23 ?l23 ?c23 ?k23 ?z_isinstance ?z_int ?z_bool ?z_all ?z_str ?z_len ?z_enumerate ?z_tuple ?z_range ?z_list ?z_ValueError ?gc_LETTERS ?gc_DIGITS ?gc_LONGEST_WORD ?gc_LONGEST_NUMBER ?gc_NUMBERS_END ?gc_DEEPEST_TUPLE ?g_InvalidTerm ?g_InvalidText ?g_ChoosersError ?z_super ?opq_ ?kc_InvalidTerm ?e_InvalidTerm ?t_InvalidTerm ?hg_InvalidTerm ?hk_InvalidTerm ?hd_InvalidTerm ?ha_InvalidTerm ?hm_InvalidTerm ?s_InvalidTerm_InvalidTerm ?s_InvalidTerm_ChoosersError ?s_InvalidTerm_ValueError ?s_InvalidTerm_InvalidText ?kc_InvalidText ?e_InvalidText ?t_InvalidText ?hg_InvalidText ?hk_InvalidText ?hd_InvalidText ?ha_InvalidText ?hm_InvalidText ?s_InvalidText_InvalidText ?s_InvalidText_InvalidTerm ?s_InvalidText_ChoosersError ?s_InvalidText_ValueError ?ic_InvalidTerm ?li_InvalidTerm ?cdi_InvalidTerm ?ti_InvalidTerm ?no_InvalidTerm ?cell_InvalidTerm ?own_InvalidTerm ?sb_InvalidTerm ?ve_InvalidTerm ?sup_InvalidTerm ?code_InvalidTerm ?cfl_InvalidTerm ?hfl_InvalidTerm ?ob_InvalidTerm ?rv_InvalidTerm ?sa_InvalidTerm ?ic_InvalidText ?li_InvalidText ?cdi_InvalidText ?ti_InvalidText ?no_InvalidText ?cell_InvalidText ?own_InvalidText ?sb_InvalidText ?ve_InvalidText ?sup_InvalidText ?code_InvalidText ?cfl_InvalidText ?hfl_InvalidText ?ob_InvalidText ?rv_InvalidText ?sa_InvalidText ?htop_ ?q_InvalidTerm ?q_InvalidText ?q_ChoosersError ?t_ChoosersError ?e_ChoosersError ?hd_ChoosersError ?hn_ ?ht_
    (case a0 => k_is)
    (case l0 => k_is)
    (case c0 => k_is)
    (case k0 => k_is)
    (case a1 => k_is)
    (case l1 => k_is)
    (case c1 => k_is)
    (case k1 => k_is)
    (case a2 => k_is)
    (case l2 => k_is)
    (case c2 => k_is)
    (case k2 => k_is)
    (case a3 => k_is)
    (case l3 => k_is)
    (case c3 => k_is)
    (case k3 => k_is)
    (case a4 => k_is)
    (case l4 => k_is)
    (case c4 => k_is)
    (case k4 => k_is)
    (case a5 => k_is)
    (case l5 => k_is)
    (case c5 => k_is)
    (case k5 => k_is)
    (case a6 => k_is)
    (case l6 => k_is)
    (case c6 => k_is)
    (case k6 => k_is)
    (case a7 => k_is)
    (case l7 => k_is)
    (case c7 => k_is)
    (case k7 => k_is)
    (case a8 => k_is)
    (case l8 => k_is)
    (case c8 => k_is)
    (case k8 => k_is)
    (case a9 => k_is)
    (case l9 => k_is)
    (case c9 => k_is)
    (case k9 => k_is)
    (case a10 => k_is)
    (case l10 => k_is)
    (case c10 => k_is)
    (case k10 => k_is)
    (case a11 => k_is)
    (case l11 => k_is)
    (case c11 => k_is)
    (case k11 => k_is)
    (case a12 => k_is)
    (case l12 => k_is)
    (case c12 => k_is)
    (case k12 => k_is)
    (case a13 => k_is)
    (case l13 => k_is)
    (case c13 => k_is)
    (case k13 => k_is)
    (case a14 => k_is)
    (case l14 => k_is)
    (case c14 => k_is)
    (case k14 => k_is)
    (case a15 => k_is)
    (case l15 => k_is)
    (case c15 => k_is)
    (case k15 => k_is)
    (case a16 => k_is)
    (case l16 => k_is)
    (case c16 => k_is)
    (case k16 => k_is)
    (case a17 => k_is)
    (case l17 => k_is)
    (case c17 => k_is)
    (case k17 => k_is)
    (case a18 => k_is)
    (case l18 => k_is)
    (case c18 => k_is)
    (case k18 => k_is)
    (case a19 => k_is)
    (case l19 => k_is)
    (case c19 => k_is)
    (case k19 => k_is)
    (case a20 => k_is)
    (case l20 => k_is)
    (case c20 => k_is)
    (case k20 => k_is)
    (case a21 => k_is)
    (case l21 => k_is)
    (case c21 => k_is)
    (case k21 => k_is)
    (case a22 => k_is)
    (case l22 => k_is)
    (case c22 => k_is)
    (case k22 => k_is)
    (case a23 => k_is)
    (case l23 => k_is)
    (case c23 => k_is)
    (case k23 => k_is)
    (case z_isinstance => k_is)
    (case z_int => k_is)
    (case z_bool => k_is)
    (case z_all => k_is)
    (case z_str => k_is)
    (case z_len => k_is)
    (case z_enumerate => k_is)
    (case z_tuple => k_is)
    (case z_range => k_is)
    (case z_list => k_is)
    (case z_ValueError => k_is)
    (case gc_LETTERS => k_is)
    (case gc_DIGITS => k_is)
    (case gc_LONGEST_WORD => k_is)
    (case gc_LONGEST_NUMBER => k_is)
    (case gc_NUMBERS_END => k_is)
    (case gc_DEEPEST_TUPLE => k_is)
    (case g_InvalidTerm => k_is)
    (case g_InvalidText => k_is)
    (case g_ChoosersError => k_is)
    (case z_super => k_is)
    (case opq_ => k_is)
    (case kc_InvalidTerm => k_is)
    (case e_InvalidTerm => k_is)
    (case t_InvalidTerm => k_is)
    (case hg_InvalidTerm => k_is)
    (case hk_InvalidTerm => k_is)
    (case hd_InvalidTerm => k_is)
    (case ha_InvalidTerm => k_is)
    (case hm_InvalidTerm => k_is)
    (case s_InvalidTerm_InvalidTerm => first | rfl | k_is)
    (case s_InvalidTerm_ChoosersError => k_is)
    (case s_InvalidTerm_ValueError => k_is)
    (case s_InvalidTerm_InvalidText => k_is)
    (case kc_InvalidText => k_is)
    (case e_InvalidText => k_is)
    (case t_InvalidText => k_is)
    (case hg_InvalidText => k_is)
    (case hk_InvalidText => k_is)
    (case hd_InvalidText => k_is)
    (case ha_InvalidText => k_is)
    (case hm_InvalidText => k_is)
    (case s_InvalidText_InvalidText => first | rfl | k_is)
    (case s_InvalidText_InvalidTerm => k_is)
    (case s_InvalidText_ChoosersError => k_is)
    (case s_InvalidText_ValueError => k_is)
    (case ic_InvalidTerm => k_is)
    (case li_InvalidTerm => k_is)
    (case cdi_InvalidTerm => k_is)
    (case ti_InvalidTerm => k_is)
    (case no_InvalidTerm => k_is)
    (case cell_InvalidTerm => k_is)
    (case own_InvalidTerm => k_is)
    (case sb_InvalidTerm => k_is)
    (case ve_InvalidTerm => k_is)
    (case sup_InvalidTerm => ks_is)
    (case code_InvalidTerm => k_is)
    (case cfl_InvalidTerm => rfl)
    (case hfl_InvalidTerm => first | rfl | decide +kernel)
    (case ob_InvalidTerm => k_is)
    (case rv_InvalidTerm => first | rfl | decide +kernel)
    (case sa_InvalidTerm => k_is)
    (case ic_InvalidText => k_is)
    (case li_InvalidText => k_is)
    (case cdi_InvalidText => k_is)
    (case ti_InvalidText => k_is)
    (case no_InvalidText => k_is)
    (case cell_InvalidText => k_is)
    (case own_InvalidText => k_is)
    (case sb_InvalidText => k_is)
    (case ve_InvalidText => k_is)
    (case sup_InvalidText => ks_is)
    (case code_InvalidText => k_is)
    (case cfl_InvalidText => rfl)
    (case hfl_InvalidText => first | rfl | decide +kernel)
    (case ob_InvalidText => k_is)
    (case rv_InvalidText => first | rfl | decide +kernel)
    (case sa_InvalidText => k_is)
    (case htop_ => first | rfl | decide +kernel)
    (case q_InvalidTerm => k_is)
    (case q_InvalidText => k_is)
    (case q_ChoosersError => k_is)
    (case t_ChoosersError => k_is)
    (case e_ChoosersError => k_is)
    (case hd_ChoosersError => k_is)
    (case hn_ => k_is)
    (case ht_ => k_is)

