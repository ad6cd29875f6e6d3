import PyProof.Rows.All
import Wide.All
import OpenK.AllK
import Wide.FinOn
import HandS.ForMost
import HandS.Evl
import HandS.Style
import HandS.StrMore
import HandS.IsInst
import HandS.SortInts
import HandS.Zip
import HandS.Words
import HandS.Defaults
import HandS.WordsExc
import HandS.Strs
import HandS.TupSets
import HandS.SetFor
import HandS.SetTxt0
import HandS.SetTxtIn
import KE.SortData
import KE.SortLaws
import HandS.Text
import PySem.Challenge.RW_lastslip_k02_words_and_alphabets
set_option Elab.async false
set_option linter.all false
set_option maxRecDepth 100000
set_option maxHeartbeats 4000000
/-! Denotations: what a def computes, as a plain function on trees; cells for what changes. -/
namespace T
open PySem L2 Evl

inductive D where
  | non | bl (b : Bool) | int (i : Int) | str (x : Str) | ty (n : String)
  | lst (xs : List D) | tup (xs : List D)
  /-- a list that is read only: the script, a list of the module -/
  | sl (xs : List D)
  | cell (i : Nat)

/-- what changes: a list -/
inductive CO where
  | lst (xs : List D)

abbrev Cs := List CO
inductive R (α : Type) where
  | ok (a : α) (c : Cs)
  | exc (e : D) (c : Cs)
  | bad
def R.bind {α β : Type} (r : R α) (k : α → Cs → R β) : R β := match r with
  | .ok a c => k a c
  | .exc e c => .exc e c
  | .bad => .bad
abbrev Sd := List (Option D)
abbrev ME := Sd → Cs → R D
abbrev MT := Sd → Cs → R Bool
abbrev MA := Sd → Cs → R (List D)

/-- a tuple that is tracked, or one of the module's -/
def TupAt (K : PySem.W.Frag) (B : Hp) (a : Addr) (vs : List V) : Prop := B a = some (.tup vs) ∨ SqT K (fun _ => none) a vs
theorem TupAt.sq {K : PySem.W.Frag} {B : Hp} {a : Addr} {vs : List V} (h : TupAt K B a vs) : SqT K B a vs := h.elim SqT.of (ex_t fun _ _ z => nomatch z)
theorem TupAt.mono {K : PySem.W.Frag} {B B' : Hp} {a : Addr} {vs : List V} (e : Ex B B') (h : TupAt K B a vs) : TupAt K B' a vs := h.elim (fun z => .inl (e _ _ z)) .inr
/-! ### what stands for a tree -/
section
variable (K : PySem.W.Frag) (B : Hp) (γ : List Addr)
mutual
def Rep : D → V → Prop
  | .non, v => v = .non
  | .bl b, v => v = .bl b
  | .int i, v => v = .int i
  | .str x, v => v = .str x
  | .ty n, v => v = .ty n
  | .lst ds, v => ∃ a vs, v = .ref a ∧ B a = some (.lst vs) ∧ Reps ds vs
  | .sl ds, v => ∃ a vs, v = .ref a ∧ SqL K B a vs ∧ Reps ds vs
  | .tup ds, v => ∃ a vs, v = .ref a ∧ TupAt K B a vs ∧ Reps ds vs
  | .cell i, v => ∃ a, v = .ref a ∧ γ[i]? = some a
def Reps : List D → List V → Prop
  | [], vs => vs = []
  | d :: ds, vs => ∃ v r, vs = v :: r ∧ Rep d v ∧ Reps ds r
end
def RepC : CO → Option HO → Prop
  | .lst ds, o => ∃ vs, o = some (.lst vs) ∧ Reps K B γ ds vs
structure Stt (c : Cs) (H : Hp) : Prop where
  ex : Ex B H
  len : γ.length = c.length
  nd : γ.Nodup
  off : ∀ a, a ∈ γ → B a = none
  cel : ∀ (i : Nat) (a : Addr) (o : CO), γ[i]? = some a → c[i]? = some o → RepC K B γ o (H a)
structure RepS (σd : Sd) (σ : St) : Prop where
  len : σ.length = σd.length
  get : ∀ (i : Nat) (d : D), σd[i]? = some (some d) → ∃ v, σ[i]? = some (some v) ∧ Rep K B γ d v
end
/-- from one state to a later one: what stood and is not ours is kept; what is new was free -/
structure Ext (B : Hp) (γ : List Addr) (H : Hp) (B' : Hp) (γ' : List Addr) (H' : Hp) : Prop where
  ex : Ex B B'
  pre : γ <+: γ'
  fb : ∀ a, B' a ≠ none → B a ≠ none ∨ H a = none
  fg : ∀ a, a ∈ γ' → a ∈ γ ∨ H a = none
  fr : ∀ a o, H a = some o → B a = none → a ∉ γ → H' a = some o
  al : ∀ a, H' a = none → H a = none
theorem Ext.refl (B : Hp) (γ : List Addr) (H : Hp) : Ext B γ H B γ H := ⟨Ex.refl B, List.prefix_refl γ, fun _ h => .inl h, fun _ h => .inl h, fun _ _ h _ _ => h, fun _ h => h⟩
theorem Ext.trans {B B1 B2 H H1 H2 : Hp} {γ γ1 γ2 : List Addr} (a : Ext B γ H B1 γ1 H1) (b : Ext B1 γ1 H1 B2 γ2 H2) : Ext B γ H B2 γ2 H2 where
  ex := a.ex.trans b.ex
  pre := a.pre.trans b.pre
  fb := fun x h => (b.fb x h).elim (fun z => a.fb x z) fun z => .inr (a.al x z)
  fg := fun x h => (b.fg x h).elim (fun z => a.fg x z) fun z => .inr (a.al x z)
  fr := fun x o h hb hg => by
    refine b.fr x o (a.fr x o h hb hg) ?_ fun z => ?_
    · cases q : B1 x with
      | none => rfl
      | some u =>
        rcases a.fb x (by rw [q]; exact fun z => nomatch z) with z | z
        · exact absurd hb z
        · rw [h] at z; cases z
    · rcases a.fg x z with y | y
      · exact hg y
      · rw [h] at y; cases y
  al := fun x h => a.al x (b.al x h)
/-- what an exception's record stands for -/
def XRep (K : PySem.W.Frag) (B : Hp) (γ : List Addr) (H : Hp) (e : D) (cls : Value) (d : Option Addr) : Prop := False
def Cnt {α : Type} (K : PySem.W.Frag) (E : XK) (B : Hp) (γ : List Addr) (H : Hp) (r : R α) (P : Hp → List Addr → α → Cs → Hp → Prop) : Prop := match r with
  | .ok a c => ∀ B' γ' H', Ext B γ H B' γ' H' → Stt K B' γ' c H' → P B' γ' a c H'
  | .exc e c => ∀ B' γ' H' cls d, Ext B γ H B' γ' H' → Stt K B' γ' c H' → XRep K B' γ' H' e cls d → E cls d H'
  | .bad => False
def Cont (K : PySem.W.Frag) (E : XK) (B : Hp) (γ : List Addr) (H : Hp) (r : R D) (Q : VK) : Prop := Cnt K E B γ H r fun B' γ' d _ H' => ∀ v, Rep K B' γ' d v → Q v H'
def ContT (K : PySem.W.Frag) (E : XK) (B : Hp) (γ : List Addr) (H : Hp) (r : R Bool) (Q : Bool → Hp → Prop) : Prop := Cnt K E B γ H r fun _ _ b _ H' => Q b H'
def ContA (K : PySem.W.Frag) (E : XK) (B : Hp) (γ : List Addr) (H : Hp) (r : R (List D)) (Q : List V → Hp → Prop) : Prop := Cnt K E B γ H r fun B' γ' ds _ H' => ∀ vs, Reps K B' γ' ds vs → Q vs H'

section
variable {K : PySem.W.Frag} {B B' : Hp} {γ γ' : List Addr} {E : XK}
theorem pre_get {i : Nat} {a : Addr} (g : γ <+: γ') (h : γ[i]? = some a) : γ'[i]? = some a := by
  obtain ⟨t, rfl⟩ := g
  rw [List.getElem?_append_left (List.getElem?_eq_some_iff.mp h).1]
  exact h
mutual
theorem Rep.mono (e : Ex B B') (g : γ <+: γ') : ∀ (d : D) (v : V), Rep K B γ d v → Rep K B' γ' d v
  | .non, v, h => h
  | .bl b, v, h => h
  | .int i, v, h => h
  | .str x, v, h => h
  | .ty n, v, h => h
  | .lst ds, v, h => by
    obtain ⟨a, vs, h1, h2, h3⟩ := h
    exact ⟨a, vs, h1, e _ _ h2, Reps.mono e g ds vs h3⟩
  | .sl ds, v, h => by
    obtain ⟨a, vs, h1, h2, h3⟩ := h
    exact ⟨a, vs, h1, ex_l e h2, Reps.mono e g ds vs h3⟩
  | .tup ds, v, h => by
    obtain ⟨a, vs, h1, h2, h3⟩ := h
    exact ⟨a, vs, h1, TupAt.mono e h2, Reps.mono e g ds vs h3⟩
  | .cell i, v, h => by
    obtain ⟨a, h1, h2⟩ := h
    exact ⟨a, h1, pre_get g h2⟩
theorem Reps.mono (e : Ex B B') (g : γ <+: γ') : ∀ (ds : List D) (vs : List V), Reps K B γ ds vs → Reps K B' γ' ds vs
  | [], vs, h => h
  | d :: ds, vs, h => by
    obtain ⟨v, r, h1, h2, h3⟩ := h
    exact ⟨v, r, h1, Rep.mono e g d v h2, Reps.mono e g ds r h3⟩
end
theorem RepS.mono {σd : Sd} {σ : St} (e : Ex B B') (g : γ <+: γ') (h : RepS K B γ σd σ) : RepS K B' γ' σd σ :=
  ⟨h.len, fun i d q => by obtain ⟨v, h1, h2⟩ := h.get i d q; exact ⟨v, h1, Rep.mono e g _ _ h2⟩⟩
theorem RepS.set {σd : Sd} {σ : St} (h : RepS K B γ σd σ) {i : Nat} {d : D} {v : V} (r : Rep K B γ d v) : RepS K B γ (σd.set i (some d)) (σ.set i (some v)) :=
  ⟨by rw [List.length_set, List.length_set]; exact h.len, fun j e q => by
    by_cases hj : j = i
    · subst hj
      have hl : j < σd.length := by
        have := (List.getElem?_eq_some_iff.mp q).1
        rwa [List.length_set] at this
      rw [List.getElem?_set_self hl] at q
      cases q
      exact ⟨v, by rw [List.getElem?_set_self (by rw [h.len]; exact hl)], r⟩
    · rw [List.getElem?_set_ne (Ne.symm hj)] at q
      obtain ⟨w, h1, h2⟩ := h.get j e q
      exact ⟨w, by rw [List.getElem?_set_ne (Ne.symm hj)]; exact h1, h2⟩⟩
theorem Reps.len : ∀ {ds : List D} {vs : List V}, Reps K B γ ds vs → vs.length = ds.length
  | [], vs, h => by
    rw [show vs = [] from h]
    rfl
  | d :: ds, vs, h => by
    obtain ⟨v, r, h1, _, h3⟩ := h
    rw [h1, List.length_cons, List.length_cons, Reps.len h3]
theorem Reps.get : ∀ {ds : List D} {vs : List V} {i : Nat} {d : D}, Reps K B γ ds vs → ds[i]? = some d → ∃ v, vs[i]? = some v ∧ Rep K B γ d v
  | [], _, _, _, _, q => by simp at q
  | d :: ds, vs, 0, e, h, q => by
    obtain ⟨v, r, h1, h2, h3⟩ := h
    simp at q
    subst q
    exact ⟨v, by rw [h1]; rfl, h2⟩
  | d :: ds, vs, i + 1, e, h, q => by
    obtain ⟨v, r, h1, h2, h3⟩ := h
    obtain ⟨w, h4, h5⟩ := Reps.get (i := i) h3 (by simpa using q)
    exact ⟨w, by rw [h1]; simpa using h4, h5⟩
theorem Reps.app : ∀ {ds es : List D} {vs ws : List V}, Reps K B γ ds vs → Reps K B γ es ws → Reps K B γ (ds ++ es) (vs ++ ws)
  | [], es, vs, ws, h, k => by rw [show vs = [] from h]; exact k
  | d :: ds, es, vs, ws, h, k => by
    obtain ⟨v, r, h1, h2, h3⟩ := h
    exact ⟨v, r ++ ws, by rw [h1]; rfl, h2, Reps.app h3 k⟩
theorem Reps.take : ∀ {ds : List D} {vs : List V} (n : Nat), Reps K B γ ds vs → Reps K B γ (ds.take n) (vs.take n)
  | [], vs, n, h => by rw [show vs = [] from h, List.take_nil, List.take_nil]; exact rfl
  | d :: ds, vs, 0, h => rfl
  | d :: ds, vs, n + 1, h => by
    obtain ⟨v, r, h1, h2, h3⟩ := h
    exact ⟨v, r.take n, by rw [h1]; rfl, h2, Reps.take n h3⟩
theorem Reps.drop : ∀ {ds : List D} {vs : List V} (n : Nat), Reps K B γ ds vs → Reps K B γ (ds.drop n) (vs.drop n)
  | [], vs, n, h => by rw [show vs = [] from h, List.drop_nil, List.drop_nil]; exact rfl
  | d :: ds, vs, 0, h => h
  | d :: ds, vs, n + 1, h => by
    obtain ⟨v, r, h1, h2, h3⟩ := h
    rw [h1]
    exact Reps.drop n h3
theorem Reps.set : ∀ {ds : List D} {vs : List V} (i : Nat) {d : D} {v : V}, Reps K B γ ds vs → Rep K B γ d v → Reps K B γ (ds.set i d) (vs.set i v)
  | [], vs, i, _, _, h, _ => by rw [show vs = [] from h]; exact rfl
  | d :: ds, vs, 0, e, w, h, k => by
    obtain ⟨v, r, h1, h2, h3⟩ := h
    exact ⟨w, r, by rw [h1]; rfl, k, h3⟩
  | d :: ds, vs, i + 1, e, w, h, k => by
    obtain ⟨v, r, h1, h2, h3⟩ := h
    exact ⟨v, r.set i w, by rw [h1]; rfl, h2, Reps.set i h3 k⟩
theorem Reps.ints : ∀ {ns : List Int} {vs : List V}, Reps K B γ (ns.map D.int) vs → vs = ns.map V.int
  | [], vs, h => h
  | n :: ns, vs, h => by
    obtain ⟨v, r, h1, h2, h3⟩ := h
    rw [h1, show v = V.int n from h2, Reps.ints h3]
    rfl
theorem Reps.of_ints : ∀ (ns : List Int), Reps K B γ (ns.map D.int) (ns.map V.int)
  | [] => rfl
  | n :: ns => ⟨_, _, rfl, rfl, Reps.of_ints ns⟩
theorem Reps.strs : ∀ {ns : List Str} {vs : List V}, Reps K B γ (ns.map D.str) vs → vs = ns.map V.str
  | [], vs, h => h
  | n :: ns, vs, h => by
    obtain ⟨v, r, h1, h2, h3⟩ := h
    rw [h1, show v = V.str n from h2, Reps.strs h3]
    rfl
theorem Reps.of_strs : ∀ (ns : List Str), Reps K B γ (ns.map D.str) (ns.map V.str)
  | [] => rfl
  | n :: ns => ⟨_, _, rfl, rfl, Reps.of_strs ns⟩
theorem Reps.bls : ∀ {ns : List Bool} {vs : List V}, Reps K B γ (ns.map D.bl) vs → vs = ns.map V.bl
  | [], vs, h => h
  | n :: ns, vs, h => by
    obtain ⟨v, r, h1, h2, h3⟩ := h
    rw [h1, show v = V.bl n from h2, Reps.bls h3]
    rfl
variable {H H' H'' : Hp}
theorem Cnt.mono {α : Type} {r : R α} {P : Hp → List Addr → α → Cs → Hp → Prop} (e : Ext B γ H B' γ' H') (h : Cnt K E B γ H r P) : Cnt K E B' γ' H' r P := by
  cases r with
  | ok a c => exact fun B2 γ2 H2 e2 s2 => h B2 γ2 H2 (e.trans e2) s2
  | exc x c => exact fun B2 γ2 H2 cls d e2 s2 x2 => h B2 γ2 H2 cls d (e.trans e2) s2 x2
  | bad => exact h
theorem Cont.mono {r : R D} {Q : VK} (e : Ext B γ H B' γ' H') (h : Cont K E B γ H r Q) : Cont K E B' γ' H' r Q := Cnt.mono e h
theorem ContT.mono {r : R Bool} {Q : Bool → Hp → Prop} (e : Ext B γ H B' γ' H') (h : ContT K E B γ H r Q) : ContT K E B' γ' H' r Q := Cnt.mono e h
theorem ContA.mono {r : R (List D)} {Q : List V → Hp → Prop} (e : Ext B γ H B' γ' H') (h : ContA K E B γ H r Q) : ContA K E B' γ' H' r Q := Cnt.mono e h
/-- a computation, then another -/
theorem cnt_bind {α β : Type} {r : R α} {k : α → Cs → R β} {P : Hp → List Addr → β → Cs → Hp → Prop} {P' : Hp → List Addr → α → Cs → Hp → Prop} (h : Cnt K E B γ H (r.bind k) P)
    (f : ∀ a c B1 γ1 H1, r = .ok a c → Ext B γ H B1 γ1 H1 → Stt K B1 γ1 c H1 → Cnt K E B1 γ1 H1 (k a c) P → P' B1 γ1 a c H1) : Cnt K E B γ H r P' := by
  cases r with
  | ok a c => exact fun B1 γ1 H1 e1 s1 => f a c B1 γ1 H1 rfl e1 s1 (Cnt.mono e1 h)
  | exc x c => exact h
  | bad => exact h
/-- a value, the state as it is -/
theorem cont_ok {c : Cs} {d : D} {v : V} {Q : VK} (s : Stt K B γ c H) (h : Cont K E B γ H (.ok d c) Q) (r : Rep K B γ d v) : Q v H := h B γ H (Ext.refl B γ H) s v r
theorem Stt.cellAt {c : Cs} (s : Stt K B γ c H) {a : Addr} (ha : a ∈ γ) : ∃ (i : Nat) (o : CO), γ[i]? = some a ∧ c[i]? = some o ∧ RepC K B γ o (H a) := by
  obtain ⟨i, hi⟩ := List.getElem?_of_mem ha
  have hl : i < c.length := by rw [← s.len]; exact (List.getElem?_eq_some_iff.mp hi).1
  exact ⟨i, c[i], hi, List.getElem?_eq_getElem hl, s.cel i a c[i] hi (List.getElem?_eq_getElem hl)⟩
theorem RepC.some {o : CO} {u : Option HO} (h : RepC K B γ o u) : u ≠ none := by
  cases o with
  | lst ds => obtain ⟨vs, e, _⟩ := h; rw [e]; exact fun z => nomatch z
theorem RepC.mono {o : CO} {u : Option HO} (e : Ex B B') (g : γ <+: γ') (h : RepC K B γ o u) : RepC K B' γ' o u := by
  cases o with
  | lst ds => obtain ⟨vs, q, r⟩ := h; exact ⟨vs, q, Reps.mono e g ds vs r⟩
theorem Stt.alive {c : Cs} (s : Stt K B γ c H) {a : Addr} (ha : a ∈ γ) : H a ≠ none := by
  obtain ⟨i, o, _, _, q⟩ := s.cellAt ha
  exact q.some
/-- a new object that does not change -/
theorem Stt.new {c : Cs} {p : Addr} {o : HO} (s : Stt K B γ c H) (hp : H p = none) : Stt K (upd B p o) γ c (upd H p o) ∧ Ext B γ H (upd B p o) γ (upd H p o) := by
  have hB : B p = none := fresh_back s.ex hp
  have eB : Ex B (upd B p o) := Ex.new hB
  have hγ : ∀ a, a ∈ γ → a ≠ p := fun a ha z => by
    subst z
    exact s.alive ha hp
  refine ⟨⟨fun a u e => ?_, s.len, s.nd, fun a ha => by rw [upd_ne (hγ a ha)]; exact s.off a ha, fun i a co hi hc => ?_⟩, ⟨eB, List.prefix_refl γ, fun a h => ?_, fun a h => .inl h, fun a u h _ _ => ?_, fun a h => ?_⟩⟩
  · by_cases ha : a = p
    · subst ha
      rw [upd_same] at e
      rw [upd_same]
      exact e
    · rw [upd_ne ha] at e
      rw [upd_ne ha]
      exact s.ex a u e
  · rw [upd_ne (hγ a (List.mem_of_getElem? hi))]
    exact RepC.mono eB (List.prefix_refl γ) (s.cel i a co hi hc)
  · by_cases ha : a = p
    · subst ha; exact .inr hp
    · rw [upd_ne ha] at h; exact .inl h
  · rw [upd_ne (ne_of_none h hp)]; exact h
  · by_cases ha : a = p
    · subst ha; exact hp
    · rw [upd_ne ha] at h; exact h
/-- a new cell -/
theorem Stt.newCell {c : Cs} {p : Addr} {ds : List D} {vs : List V} (s : Stt K B γ c H) (hp : H p = none) (r : Reps K B γ ds vs) : Stt K B (γ ++ [p]) (c ++ [.lst ds]) (upd H p (.lst vs)) ∧ Ext B γ H B (γ ++ [p]) (upd H p (.lst vs)) := by
  have hB : B p = none := fresh_back s.ex hp
  have hγ : ∀ a, a ∈ γ → a ≠ p := fun a ha z => by
    subst z
    exact s.alive ha hp
  have pre : γ <+: γ ++ [p] := List.prefix_append γ [p]
  refine ⟨⟨fun a u e => ?_, by simp [s.len], ?_, fun a ha => ?_, fun i a co hi hc => ?_⟩, ⟨Ex.refl B, pre, fun a h => .inl h, fun a h => ?_, fun a u h _ _ => ?_, fun a h => ?_⟩⟩
  · rw [upd_ne (fun z => by subst z; rw [hB] at e; cases e)]
    exact s.ex a u e
  · refine List.nodup_append.mpr ⟨s.nd, by simp, fun a ha b hb => ?_⟩
    have : b = p := by simpa using hb
    subst this
    exact hγ a ha
  · rcases List.mem_append.mp ha with z | z
    · exact s.off a z
    · have : a = p := by simpa using z
      subst this; exact hB
  · by_cases hl : i < γ.length
    · have hi' : γ[i]? = some a := by rwa [List.getElem?_append_left hl] at hi
      have hc' : c[i]? = some co := by rwa [List.getElem?_append_left (by rw [← s.len]; exact hl)] at hc
      rw [upd_ne (hγ a (List.mem_of_getElem? hi'))]
      exact RepC.mono (Ex.refl B) pre (s.cel i a co hi' hc')
    · have h1 : i = γ.length := by
        have := (List.getElem?_eq_some_iff.mp hi).1
        simp at this
        omega
      subst h1
      rw [List.getElem?_append_right (Nat.le_refl _)] at hi
      simp at hi
      subst hi
      rw [s.len, List.getElem?_append_right (Nat.le_refl _)] at hc
      simp at hc
      subst hc
      exact ⟨vs, upd_same, Reps.mono (Ex.refl B) pre ds vs r⟩
  · rcases List.mem_append.mp h with z | z
    · exact .inl z
    · have : a = p := by simpa using z
      subst this; exact .inr hp
  · rw [upd_ne (ne_of_none h hp)]; exact h
  · by_cases ha : a = p
    · subst ha; exact hp
    · rw [upd_ne ha] at h; exact h
/-- a cell is written -/
theorem Stt.write {c : Cs} {p : Addr} {i : Nat} {ds : List D} {vs : List V} (s : Stt K B γ c H) (hi : γ[i]? = some p) (r : Reps K B γ ds vs) : Stt K B γ (c.set i (.lst ds)) (upd H p (.lst vs)) ∧ Ext B γ H B γ (upd H p (.lst vs)) := by
  have hm : p ∈ γ := List.mem_of_getElem? hi
  have hB : B p = none := s.off p hm
  refine ⟨⟨fun a u e => ?_, by simp [s.len], s.nd, s.off, fun j a co hj hc => ?_⟩, ⟨Ex.refl B, List.prefix_refl γ, fun a h => .inl h, fun a h => .inl h, fun a u h _ hg => ?_, fun a h => ?_⟩⟩
  · rw [upd_ne (fun z => by subst z; rw [hB] at e; cases e)]
    exact s.ex a u e
  · by_cases hij : j = i
    · subst hij
      rw [hi] at hj; cases hj
      have hl : j < c.length := by rw [← s.len]; exact (List.getElem?_eq_some_iff.mp hi).1
      rw [List.getElem?_set_self hl] at hc
      cases hc
      exact ⟨vs, upd_same, r⟩
    · rw [List.getElem?_set_ne (Ne.symm hij)] at hc
      have hne : a ≠ p := fun z => by
        subst z
        obtain ⟨h1, e1⟩ := List.getElem?_eq_some_iff.mp hj
        obtain ⟨h2, e2⟩ := List.getElem?_eq_some_iff.mp hi
        exact hij ((List.getElem_inj s.nd).mp (e1.trans e2.symm))
      rw [upd_ne hne]
      exact s.cel j a co hj hc
  · rw [upd_ne (fun z => by subst z; exact hg hm)]; exact h
  · by_cases ha : a = p
    · subst ha; rw [upd_same] at h; cases h
    · rw [upd_ne ha] at h; exact h
end
end T

set_option linter.all false
set_option maxRecDepth 100000
set_option maxHeartbeats 4000000
/-! Expressions by their denotations. -/
namespace T
open PySem L2 Evl

theorem _root_.L2.PE.weak {X : Cx} {e : Expr} {t t' : TE} (h : PE X e t) (w : ∀ σ H Q, t' σ H Q → t σ H Q) : PE X e t' := ⟨fun pins s σ H Q I q => h.run pins s σ H Q I (w σ H Q q)⟩
theorem _root_.L2.PT.weak {X : Cx} {e : Expr} {t t' : TT} (h : PT X e t) (w : ∀ σ H Q, t' σ H Q → t σ H Q) : PT X e t' := ⟨fun pins s σ H Q I q => h.run pins s σ H Q I (w σ H Q q)⟩
theorem _root_.L2.PA.weak {X : Cx} {e : List Expr} {t t' : TA} (h : PA X e t) (w : ∀ σ H Q, t' σ H Q → t σ H Q) : PA X e t' := ⟨fun pos pins s σ H Q I q => h.run pos pins s σ H Q I (w σ H Q q)⟩

def tm (K : PySem.W.Frag) (E : XK) (f : ME) : TE := fun σ H Q => ∃ B γ c σd, Stt K B γ c H ∧ RepS K B γ σd σ ∧ Cont K E B γ H (f σd c) Q
def tt (K : PySem.W.Frag) (E : XK) (f : MT) : TT := fun σ H Q => ∃ B γ c σd, Stt K B γ c H ∧ RepS K B γ σd σ ∧ ContT K E B γ H (f σd c) Q
def tas (K : PySem.W.Frag) (E : XK) (f : MA) : TA := fun σ H Q => ∃ B γ c σd, Stt K B γ c H ∧ RepS K B γ σd σ ∧ ContA K E B γ H (f σd c) Q
abbrev IE (X : Cx) (E : XK) (e : Expr) (f : ME) : Prop := PE X e (tm X.K E f)
abbrev IT (X : Cx) (E : XK) (e : Expr) (f : MT) : Prop := PT X e (tt X.K E f)
abbrev IA (X : Cx) (E : XK) (es : List Expr) (f : MA) : Prop := PA X es (tas X.K E f)

/-! ### the denotations -/
def mVar (i : Nat) : ME := fun σ c => match σ[i]? with
  | some (some d) => .ok d c
  | _ => .bad
def mC (d : D) : ME := fun _ c => .ok d c
def m1 (g : D → Cs → R D) (f : ME) : ME := fun σ c => (f σ c).bind g
def m2 (g : D → D → Cs → R D) (f1 f2 : ME) : ME := fun σ c => (f1 σ c).bind fun x c => (f2 σ c).bind fun y c => g x y c
def mAnd (f1 f2 : MT) : MT := fun σ c => (f1 σ c).bind fun b c => if b then f2 σ c else .ok false c
def mOr (f1 f2 : MT) : MT := fun σ c => (f1 σ c).bind fun b c => if b then .ok true c else f2 σ c
def mNot (f : MT) : MT := fun σ c => (f σ c).bind fun b c => .ok (!b) c
def mAndV (f1 f2 : ME) : ME := fun σ c => (f1 σ c).bind fun d c => match d with
  | .bl true => f2 σ c
  | .bl false => .ok (.bl false) c
  | _ => .bad
def mOrV (f1 f2 : ME) : ME := fun σ c => (f1 σ c).bind fun d c => match d with
  | .bl false => f2 σ c
  | .bl true => .ok (.bl true) c
  | _ => .bad
def mNotV (f : ME) : ME := fun σ c => (f σ c).bind fun d c => match d with
  | .bl b => .ok (.bl (!b)) c
  | _ => .bad
def mIf (t : MT) (f1 f2 : ME) : ME := fun σ c => (t σ c).bind fun b c => if b then f1 σ c else f2 σ c
/-- a bool as a test -/
def mB (f : ME) : MT := fun σ c => (f σ c).bind fun d c => match d with
  | .bl b => .ok b c
  | _ => .bad
/-- any value's truth -/
def truD : D → Cs → Option Bool
  | .non, _ => some false
  | .bl b, _ => some b
  | .int i, _ => some (i != 0)
  | .str x, _ => if x.length ≤ sizeLine then some ((x.length : Int) != 0) else none
  | .lst ds, _ => some (!ds.isEmpty)
  | .sl ds, _ => some (!ds.isEmpty)
  | .tup ds, _ => some (!ds.isEmpty)
  | .cell i, c => match c[i]? with
    | some (.lst ds) => some (!ds.isEmpty)
    | none => none
  | .ty _, _ => none
def mTru (f : ME) : MT := fun σ c => (f σ c).bind fun d c => match truD d c with
  | some b => .ok b c
  | none => .bad
def aNil : MA := fun _ c => .ok [] c
def aCons (f : ME) (r : MA) : MA := fun σ c => (f σ c).bind fun d c => (r σ c).bind fun ds c => .ok (d :: ds) c
def mTup (f : MA) : ME := fun σ c => (f σ c).bind fun ds c => if ds.length ≤ 1000 then .ok (.tup ds) c else .bad
def mLst (f : MA) : ME := fun σ c => (f σ c).bind fun ds c => if ds.length ≤ 1000 then .ok (.lst ds) c else .bad
/-- a list that will change -/
def mLstC (f : MA) : ME := fun σ c => (f σ c).bind fun ds c => if ds.length ≤ 1000 then .ok (.cell c.length) (c ++ [.lst ds]) else .bad
def mChain (g g' : D → D → Cs → R D) (f1 f2 f3 : ME) : ME := fun σ c => (f1 σ c).bind fun x c => (f2 σ c).bind fun y c => (g x y c).bind fun z c => match z with
  | .bl true => (f3 σ c).bind fun w c => g' y w c
  | .bl false => .ok (.bl false) c
  | _ => .bad
/-- a built-in's call -/
def mCall (g : List D → Cs → R D) (f : MA) : ME := fun σ c => (f σ c).bind g
/-- a method of a value -/
def mMeth (g : D → List D → Cs → R D) (f : ME) (fs : MA) : ME := fun σ c => (f σ c).bind fun x c => (fs σ c).bind fun ds c => g x ds c

theorem sz1000 {n : Nat} (h : n ≤ 1000) : n ≤ sizeLine := Nat.le_trans h (by decide)
section
variable {X : Cx} {E : XK} {e a b : Expr} {es rest : List Expr} {f f1 f2 : ME} {g : MT} {fs : MA} {pos : Pos}
theorem ie_var (i : Nat) {x : Str} {pos : Pos} (hN : X.N[i]? = some x := by rfl) (hv : Vis X.env.scope x := by first | exact Or.inl rfl | exact Or.inr (Or.inl rfl) | exact Or.inr (Or.inr rfl)) (hd : (x == ("__debug__" : Str)) = false := by decide)
    (hcd : (x == ("__classdict__" : Str)) = false := by decide) : IE X E (.Name x pos) (mVar i) := (pe_var hN hv hd hcd).weak fun σ H Q h => by
  obtain ⟨B, γ, c, σd, s, r, k⟩ := h
  unfold mVar at k
  split at k
  · rename_i d hd
    obtain ⟨v, e, rv⟩ := r.get i d hd
    exact ⟨v, e, cont_ok s k rv⟩
  · exact k.elim
theorem ie_c {t : V} {d : D} (h : PE X e (tC t)) (hr : ∀ B γ, Rep X.K B γ d t) : IE X E e (mC d) := h.weak fun σ H Q h => by
  obtain ⟨B, γ, c, σd, s, r, k⟩ := h
  exact cont_ok s k (hr B γ)
theorem ie_int {i : Int} {j pos} : IE X E (.Constant (.int i) j pos) (mC (.int i)) := ie_c pe_int fun _ _ => rfl
theorem ie_bl {i : Bool} {j pos} : IE X E (.Constant (.bool i) j pos) (mC (.bl i)) := ie_c pe_bl fun _ _ => rfl
theorem ie_non {j pos} : IE X E (.Constant .none j pos) (mC .non) := ie_c pe_non fun _ _ => rfl
theorem ie_str {x : Str} {j pos} : IE X E (.Constant (.str x) j pos) (mC (.str x)) := ie_c pe_str fun _ _ => rfl
theorem ie_gstr {x : Str} {z : Str} {t : Tok} {pos : Pos} (hg : Gl X x) (hm : X.mg x = some (.str z t)) (hd : (x == ("__debug__" : Str)) = false := by decide) : IE X E (.Name x pos) (mC (.str z)) := ie_c (pe_glob (v := .str z) hg hm ⟨t, rfl⟩ hd) fun _ _ => rfl
theorem ie_gint {x : Str} {z : Int} {t : Tok} {pos : Pos} (hg : Gl X x) (hm : X.mg x = some (.int z t)) (hd : (x == ("__debug__" : Str)) = false := by decide) : IE X E (.Name x pos) (mC (.int z)) := ie_c (pe_glob (v := .int z) hg hm ⟨t, rfl⟩ hd) fun _ _ => rfl
theorem ie_gty {x : Str} {n : String} {pos : Pos} (hg : Gl X x) (hm : X.mg x = none) (hv : bootBuiltins x = some (.type n)) (hn : x ≠ "__name__" := by decide) (hd : (x == ("__debug__" : Str)) = false := by decide) : IE X E (.Name x pos) (mC (.ty n)) :=
  ie_c (pe_bltn (v := .ty n) hg hm hv rfl hn hd) fun _ _ => rfl

/-- what a two-place operation on trees stands for -/
def Sim2 (K : PySem.W.Frag) (E : XK) (r : R2) (g : D → D → Cs → R D) : Prop := ∀ B γ c H dx dy x y Q, Stt K B γ c H → Rep K B γ dx x → Rep K B γ dy y → Cont K E B γ H (g dx dy c) Q → r x y H Q
def Sim1 (K : PySem.W.Frag) (E : XK) (r : V → Hp → VK → Prop) (g : D → Cs → R D) : Prop := ∀ B γ c H dx x Q, Stt K B γ c H → Rep K B γ dx x → Cont K E B γ H (g dx c) Q → r x H Q
def SimC (K : PySem.W.Frag) (E : XK) (r : List V → Hp → VK → Prop) (g : List D → Cs → R D) : Prop := ∀ B γ c H ds vs Q, Stt K B γ c H → Reps K B γ ds vs → Cont K E B γ H (g ds c) Q → r vs H Q
def SimM (K : PySem.W.Frag) (E : XK) (r : V → List V → Hp → VK → Prop) (g : D → List D → Cs → R D) : Prop := ∀ B γ c H d v ds vs Q, Stt K B γ c H → Rep K B γ d v → Reps K B γ ds vs → Cont K E B γ H (g d ds c) Q → r v vs H Q

theorem tm_2 {r : R2} {g : D → D → Cs → R D} (h : Sim2 X.K E r g) : ∀ σ H Q, tm X.K E (m2 g f1 f2) σ H Q → tOp r (tm X.K E f1) (tm X.K E f2) σ H Q := by
  intro σ H Q ⟨B, γ, c, σd, s, rs, k⟩
  refine ⟨B, γ, c, σd, s, rs, cnt_bind k fun x c1 B1 γ1 H1 _ e1 s1 k1 vx rx => ?_⟩
  refine ⟨B1, γ1, c1, σd, s1, rs.mono e1.ex e1.pre, cnt_bind k1 fun y c2 B2 γ2 H2 _ e2 s2 k2 vy ry => ?_⟩
  exact h B2 γ2 c2 H2 x y vx vy Q s2 (Rep.mono e2.ex e2.pre _ _ rx) ry k2
theorem ie_op {op : Operator} {r : R2} {g : D → D → Cs → R D} (ho : OpR X (binaryOp op) r) (h : Sim2 X.K E r g) (h1 : IE X E a f1) (h2 : IE X E b f2) : IE X E (.BinOp a op b pos) (m2 g f1 f2) := (pe_op ho h1 h2).weak (tm_2 h)
theorem ie_cmp {op : CmpOp} {r : R2} {g : D → D → Cs → R D} (ho : OpR X (compareOp op) r) (h : Sim2 X.K E r g) (h1 : IE X E a f1) (h2 : IE X E b f2) (hm : behindInMarks op b = false) : IE X E (.Compare a [op] [b] pos) (m2 g f1 f2) := (pe_cmpR ho h1 h2 hm).weak (tm_2 h)
theorem ie_ix {r : R2} {g : D → D → Cs → R D} (hr : IxR X r) (h : Sim2 X.K E r g) (h1 : IE X E a f1) (h2 : IE X E b f2) (hs : PlainIx b) : IE X E (.Subscript a b pos) (m2 g f1 f2) := (pe_ix hr h1 h2 hs).weak (tm_2 h)
theorem ie_chain {cc : Expr} {f3 : ME} {op op' : CmpOp} {r r' : R2} {g g' : D → D → Cs → R D} (ho : OpR X (compareOp op) r) (ho' : OpR X (compareOp op') r') (h : Sim2 X.K E r g) (h' : Sim2 X.K E r' g') (h1 : IE X E a f1) (h2 : IE X E b f2) (h3 : IE X E cc f3)
    (hm : lastMarks [op, op'] [b, cc] = false := by with_unfolding_all rfl) : IE X E (.Compare a [op, op'] [b, cc] pos) (mChain g g' f1 f2 f3) := (pe_chain ho ho' h1 h2 h3 hm).weak fun σ H Q ⟨B, γ, c, σd, s, rs, k⟩ => by
  refine ⟨B, γ, c, σd, s, rs, cnt_bind k fun x c1 B1 γ1 H1 _ e1 s1 k1 vx rx => ?_⟩
  refine ⟨B1, γ1, c1, σd, s1, rs.mono e1.ex e1.pre, cnt_bind k1 fun y c2 B2 γ2 H2 _ e2 s2 k2 vy ry => ?_⟩
  have rs2 := (rs.mono e1.ex e1.pre).mono e2.ex e2.pre
  refine h B2 γ2 c2 H2 x y vx vy _ s2 (Rep.mono e2.ex e2.pre _ _ rx) ry (cnt_bind k2 fun z c3 B3 γ3 H3 _ e3 s3 k3 vz rz => ?_)
  cases z with
  | bl z =>
    cases (show vz = V.bl z from rz)
    refine ⟨z, rfl, ?_⟩
    cases z with
    | true =>
      refine ⟨B3, γ3, c3, σd, s3, rs2.mono e3.ex e3.pre, cnt_bind k3 fun w c4 B4 γ4 H4 _ e4 s4 k4 vw rw' => ?_⟩
      exact h' B4 γ4 c4 H4 y w vy vw Q s4 (Rep.mono e4.ex e4.pre _ _ (Rep.mono e3.ex e3.pre _ _ ry)) rw' k4
    | false => exact cont_ok s3 k3 rfl
  | _ => exact k3.elim
theorem ie_un {op : UnaryOp} {r : V → Hp → VK → Prop} {g : D → Cs → R D} (ho : UnR X (unaryOp op) r) (h : Sim1 X.K E r g) (h1 : IE X E a f1) : IE X E (.UnaryOp op a pos) (m1 g f1) := (pe_un ho h1).weak fun σ H Q ⟨B, γ, c, σd, s, rs, k⟩ =>
  ⟨B, γ, c, σd, s, rs, cnt_bind k fun x c1 B1 γ1 H1 _ e1 s1 k1 vx rx => h B1 γ1 c1 H1 x vx Q s1 rx k1⟩

/-! tests -/
theorem it_b (h : IE X E e f) (he : ∀ whole, isTrue e X.env whole = (do let v ← whole; standAt e.pos; holding [v] (truthy v)) := by intro _; rfl) : IT X E e (mB f) := (pt_val h he).weak fun σ H Q ⟨B, γ, c, σd, s, rs, k⟩ => by
  refine ⟨B, γ, c, σd, s, rs, cnt_bind k fun x c1 B1 γ1 H1 _ e1 s1 k1 vx rx => ?_⟩
  cases x with
  | bl b => exact ⟨b, rx, k1 B1 γ1 H1 (Ext.refl _ _ _) s1⟩
  | _ => exact k1.elim
theorem it_cmp {op : CmpOp} {r : R2} {g : D → D → Cs → R D} (ho : OpR X (compareOp op) r) (h : Sim2 X.K E r g) (h1 : IE X E a f1) (h2 : IE X E b f2) (hm : behindInMarks op b = false) : IT X E (.Compare a [op] [b] pos) (mB (m2 g f1 f2)) := by
  refine (pt_cmpR ho h1 h2 hm).weak fun σ H Q ⟨B, γ, c, σd, s, rs, k⟩ => ?_
  refine tm_2 (E := E) (f1 := f1) (f2 := f2) h σ H _ ⟨B, γ, c, σd, s, rs, cnt_bind k fun x c1 B1 γ1 H1 _ e1 s1 k1 vx rx => ?_⟩
  cases x with
  | bl b => exact ⟨b, rx, k1 B1 γ1 H1 (Ext.refl _ _ _) s1⟩
  | _ => exact k1.elim
theorem tru_rep {K : PySem.W.Frag} {B : Hp} {γ : List Addr} {c : Cs} {H : Hp} {d : D} {v : V} {k : Bool} (s : Stt K B γ c H) (r : Rep K B γ d v) (h : truD d c = some k) : TruV K v H k := by
  cases d with
  | non => cases (show v = V.non from r); exact (Option.some.inj h).symm
  | bl b => cases (show v = V.bl b from r); exact (Option.some.inj h).symm
  | int i => cases (show v = V.int i from r); exact (Option.some.inj h).symm
  | str x =>
    cases (show v = V.str x from r)
    have h' : (if x.length ≤ sizeLine then some ((x.length : Int) != 0) else none) = some k := h
    split at h'
    · rename_i hl; exact ⟨hl, (Option.some.inj h').symm⟩
    · cases h'
  | ty n => cases h
  | lst ds =>
    obtain ⟨a, vs, rfl, h1, h2⟩ := r
    refine .inl ⟨vs, .inl (.inl (s.ex _ _ h1)), ?_⟩
    rw [← Option.some.inj h]
    have := h2.len
    cases ds <;> cases vs <;> simp_all
  | sl ds =>
    obtain ⟨a, vs, rfl, h1, h2⟩ := r
    refine .inl ⟨vs, ex_l s.ex h1, ?_⟩
    rw [← Option.some.inj h]
    have := h2.len
    cases ds <;> cases vs <;> simp_all
  | tup ds =>
    obtain ⟨a, vs, rfl, h1, h2⟩ := r
    refine .inr (.inl ⟨vs, ex_t s.ex h1.sq, ?_⟩)
    rw [← Option.some.inj h]
    have := h2.len
    cases ds <;> cases vs <;> simp_all
  | cell i =>
    obtain ⟨a, rfl, h1⟩ := r
    have h' : (match c[i]? with | some (.lst ds) => some (!ds.isEmpty) | none => none) = some k := h
    cases hc : c[i]? with
    | none => rw [hc] at h'; cases h'
    | some co =>
      cases co with
      | lst ds =>
        rw [hc] at h'
        obtain ⟨vs, q1, q2⟩ := s.cel i a _ h1 hc
        refine .inl ⟨vs, .inl (.inl q1), ?_⟩
        rw [← Option.some.inj h']
        have := q2.len
        cases ds <;> cases vs <;> simp_all
theorem it_tru (h : IE X E a f) (he : ∀ whole, isTrue a X.env whole = (do let v ← whole; standAt a.pos; holding [v] (truthy v)) := by intro _; rfl) : IT X E a (mTru f) := (pt_truth h he).weak fun σ H Q ⟨B, γ, c, σd, s, rs, k⟩ => by
  refine ⟨B, γ, c, σd, s, rs, cnt_bind k fun x c1 B1 γ1 H1 _ e1 s1 k1 vx rx => ?_⟩
  cases ht : truD x c1 with
  | some b =>
    rw [ht] at k1
    exact ⟨b, tru_rep s1 rx ht, k1 B1 γ1 H1 (Ext.refl _ _ _) s1⟩
  | none => rw [ht] at k1; exact k1.elim
structure IW (X : Cx) (E : XK) (e : Expr) (f : MT) : Prop where
  w : PW X e (tt X.K E f)
theorem _root_.L2.PW.weak {X : Cx} {e : Expr} {t t' : TT} (h : PW X e t) (w : ∀ σ H Q, t' σ H Q → t σ H Q) : PW X e t' := ⟨fun wh pins s σ H Q I q => h.run wh pins s σ H Q I (w σ H Q q)⟩
theorem IW.it {g : MT} (h : IW X E e g) : IT X E e g := h.w.pt
theorem iw_and1 {g1 : MT} (h : IT X E a g1) : IW X E (.BoolOp .And [a] pos) g1 := ⟨pw_and1 h⟩
theorem iw_or1 {g1 : MT} (h : IT X E a g1) : IW X E (.BoolOp .Or [a] pos) g1 := ⟨pw_or1 h⟩
theorem iw_and {g1 g2 : MT} (h1 : IT X E a g1) (h2 : IW X E (.BoolOp .And (b :: rest) pos) g2) : IW X E (.BoolOp .And (a :: b :: rest) pos) (mAnd g1 g2) := ⟨(pw_and h1 h2.w).weak fun σ H Q ⟨B, γ, c, σd, s, rs, k⟩ => by
  refine ⟨B, γ, c, σd, s, rs, cnt_bind k fun x c1 B1 γ1 H1 _ e1 s1 k1 => ?_⟩
  cases x with
  | true => exact ⟨B1, γ1, c1, σd, s1, rs.mono e1.ex e1.pre, k1⟩
  | false => exact k1 B1 γ1 H1 (Ext.refl _ _ _) s1⟩
theorem iw_or {g1 g2 : MT} (h1 : IT X E a g1) (h2 : IW X E (.BoolOp .Or (b :: rest) pos) g2) : IW X E (.BoolOp .Or (a :: b :: rest) pos) (mOr g1 g2) := ⟨(pw_or h1 h2.w).weak fun σ H Q ⟨B, γ, c, σd, s, rs, k⟩ => by
  refine ⟨B, γ, c, σd, s, rs, cnt_bind k fun x c1 B1 γ1 H1 _ e1 s1 k1 => ?_⟩
  cases x with
  | false => exact ⟨B1, γ1, c1, σd, s1, rs.mono e1.ex e1.pre, k1⟩
  | true => exact k1 B1 γ1 H1 (Ext.refl _ _ _) s1⟩
theorem it_not {g1 : MT} (h : IT X E a g1) : IT X E (.UnaryOp .Not a pos) (mNot g1) := (pt_not h).weak fun σ H Q ⟨B, γ, c, σd, s, rs, k⟩ =>
  ⟨B, γ, c, σd, s, rs, cnt_bind k fun x c1 B1 γ1 H1 _ e1 s1 k1 => k1 B1 γ1 H1 (Ext.refl _ _ _) s1⟩
theorem ie_one {op} (h : IE X E a f) : IE X E (.BoolOp op [a] pos) f := pe_one h
theorem ie_and (h1 : IE X E a f1) (h2 : IE X E (.BoolOp .And (b :: rest) pos) f2) : IE X E (.BoolOp .And (a :: b :: rest) pos) (mAndV f1 f2) := (pe_and h1 h2).weak fun σ H Q ⟨B, γ, c, σd, s, rs, k⟩ => by
  refine ⟨B, γ, c, σd, s, rs, cnt_bind k fun x c1 B1 γ1 H1 _ e1 s1 k1 vx rx => ?_⟩
  cases x with
  | bl x =>
    refine ⟨x, rx, ?_⟩
    cases x with
    | true => exact ⟨B1, γ1, c1, σd, s1, rs.mono e1.ex e1.pre, k1⟩
    | false => exact cont_ok s1 k1 rfl
  | _ => exact k1.elim
theorem ie_or (h1 : IE X E a f1) (h2 : IE X E (.BoolOp .Or (b :: rest) pos) f2) : IE X E (.BoolOp .Or (a :: b :: rest) pos) (mOrV f1 f2) := (pe_or h1 h2).weak fun σ H Q ⟨B, γ, c, σd, s, rs, k⟩ => by
  refine ⟨B, γ, c, σd, s, rs, cnt_bind k fun x c1 B1 γ1 H1 _ e1 s1 k1 vx rx => ?_⟩
  cases x with
  | bl x =>
    refine ⟨x, rx, ?_⟩
    cases x with
    | false => exact ⟨B1, γ1, c1, σd, s1, rs.mono e1.ex e1.pre, k1⟩
    | true => exact cont_ok s1 k1 rfl
  | _ => exact k1.elim
theorem ie_not (h1 : IE X E a f1) : IE X E (.UnaryOp .Not a pos) (mNotV f1) := (pe_not h1).weak fun σ H Q ⟨B, γ, c, σd, s, rs, k⟩ => by
  refine ⟨B, γ, c, σd, s, rs, cnt_bind k fun x c1 B1 γ1 H1 _ e1 s1 k1 vx rx => ?_⟩
  cases x with
  | bl x => exact ⟨x, rx, cont_ok s1 k1 rfl⟩
  | _ => exact k1.elim
theorem ie_if {cc : Expr} (h0 : IT X E cc g) (h1 : IE X E a f1) (h2 : IE X E b f2) : IE X E (.IfExp cc a b pos) (mIf g f1 f2) := (pe_ifExp h0 h1 h2).weak fun σ H Q ⟨B, γ, c, σd, s, rs, k⟩ => by
  refine ⟨B, γ, c, σd, s, rs, cnt_bind k fun x c1 B1 γ1 H1 _ e1 s1 k1 => ?_⟩
  cases x with
  | true => exact ⟨B1, γ1, c1, σd, s1, rs.mono e1.ex e1.pre, k1⟩
  | false => exact ⟨B1, γ1, c1, σd, s1, rs.mono e1.ex e1.pre, k1⟩

/-! arguments, displays -/
theorem ia_nil : IA X E [] aNil := pa_nil.weak fun σ H Q ⟨B, γ, c, σd, s, rs, k⟩ => k B γ H (Ext.refl _ _ _) s [] rfl
theorem ia_cons (h1 : IE X E e f) (h2 : IA X E es fs) (hs : starEach (e :: es) X.env = (false, eval e X.env) :: starEach es X.env := by rfl) : IA X E (e :: es) (aCons f fs) := (pa_cons h1 h2 hs).weak fun σ H Q ⟨B, γ, c, σd, s, rs, k⟩ => by
  refine ⟨B, γ, c, σd, s, rs, cnt_bind k fun x c1 B1 γ1 H1 _ e1 s1 k1 vx rx => ?_⟩
  refine ⟨B1, γ1, c1, σd, s1, rs.mono e1.ex e1.pre, cnt_bind k1 fun xs c2 B2 γ2 H2 _ e2 s2 k2 vs rv => ?_⟩
  exact k2 B2 γ2 H2 (Ext.refl _ _ _) s2 (vx :: vs) ⟨vx, vs, rfl, Rep.mono e2.ex e2.pre _ _ rx, rv⟩
theorem ie_tup {x1} (h : IA X E es fs) : IE X E (.Tuple es x1 pos) (mTup fs) := (pe_tup h).weak fun σ H Q ⟨B, γ, c, σd, s, rs, k⟩ => by
  refine ⟨B, γ, c, σd, s, rs, cnt_bind k fun xs c1 B1 γ1 H1 _ e1 s1 k1 vs rv => ?_⟩
  split at k1
  · rename_i hl
    refine ⟨by rw [rv.len]; exact sz1000 hl, fun p hp => ?_⟩
    obtain ⟨s2, e2⟩ := s1.new (o := .tup vs) hp
    exact k1 _ _ _ e2 s2 _ ⟨p, vs, rfl, .inl upd_same, Reps.mono e2.ex e2.pre _ _ rv⟩
  · exact k1.elim
theorem ie_lst (h : IA X E es fs) : IE X E (.List es pos) (mLst fs) := (pe_lst h).weak fun σ H Q ⟨B, γ, c, σd, s, rs, k⟩ => by
  refine ⟨B, γ, c, σd, s, rs, cnt_bind k fun xs c1 B1 γ1 H1 _ e1 s1 k1 vs rv => ?_⟩
  split at k1
  · rename_i hl
    refine ⟨by rw [rv.len]; exact sz1000 hl, fun p hp => ?_⟩
    obtain ⟨s2, e2⟩ := s1.new (o := .lst vs) hp
    exact k1 _ _ _ e2 s2 _ ⟨p, vs, rfl, upd_same, Reps.mono e2.ex e2.pre _ _ rv⟩
  · exact k1.elim
theorem ie_lstC (h : IA X E es fs) : IE X E (.List es pos) (mLstC fs) := (pe_lst h).weak fun σ H Q ⟨B, γ, c, σd, s, rs, k⟩ => by
  refine ⟨B, γ, c, σd, s, rs, cnt_bind k fun xs c1 B1 γ1 H1 _ e1 s1 k1 vs rv => ?_⟩
  split at k1
  · rename_i hl
    refine ⟨by rw [rv.len]; exact sz1000 hl, fun p hp => ?_⟩
    obtain ⟨s2, e2⟩ := s1.newCell hp rv
    exact k1 _ _ _ e2 s2 _ ⟨p, rfl, by rw [← s1.len, List.getElem?_append_right (Nat.le_refl _)]; simp⟩
  · exact k1.elim

/-! built-ins' calls, methods -/
theorem ie_callB {x : Str} {p : Pos} {id : String} {r : List V → Hp → VK → Prop} {g : List D → Cs → R D} (hc : CallR X (.builtin id) r) (h : SimC X.K E r g) (hg : Gl X x) (hm : X.mg x = none) (hv : bootBuiltins x = some (.builtin id)) (ha : IA X E (e :: es) fs)
    (hn : x ≠ "__name__" := by decide) (hdb : (x == ("__debug__" : Str)) = false := by decide) (he : starEach (e :: es) X.env = (false, eval e X.env) :: starEach es X.env := by rfl) (hpl : (backTo pos (starEach es X.env)).any (·.1) = false := by rfl) :
    IE X E (.Call (.Name x p) (e :: es) [] pos) (mCall g fs) := (pe_callB hc hg hm hv ha hn hdb he hpl).weak fun σ H Q ⟨B, γ, c, σd, s, rs, k⟩ =>
  ⟨B, γ, c, σd, s, rs, cnt_bind k fun xs c1 B1 γ1 H1 _ e1 s1 k1 vs rv => h B1 γ1 c1 H1 xs vs Q s1 rv k1⟩
theorem ie_callTy {x : Str} {p : Pos} {id : String} {r : List V → Hp → VK → Prop} {g : List D → Cs → R D} (hc : CallR X (.type id) r) (h : SimC X.K E r g) (hg : Gl X x) (hm : X.mg x = none) (hv : bootBuiltins x = some (.type id)) (ha : IA X E (e :: es) fs)
    (hn : x ≠ "__name__" := by decide) (hdb : (x == ("__debug__" : Str)) = false := by decide) (he : starEach (e :: es) X.env = (false, eval e X.env) :: starEach es X.env := by rfl) (hpl : (backTo pos (starEach es X.env)).any (·.1) = false := by rfl) :
    IE X E (.Call (.Name x p) (e :: es) [] pos) (mCall g fs) := (pe_callTy hc hg hm hv ha hn hdb he hpl).weak fun σ H Q ⟨B, γ, c, σd, s, rs, k⟩ =>
  ⟨B, γ, c, σd, s, rs, cnt_bind k fun xs c1 B1 γ1 H1 _ e1 s1 k1 vs rv => h B1 γ1 c1 H1 xs vs Q s1 rv k1⟩
end
end T

set_option linter.all false
set_option maxRecDepth 100000
set_option maxHeartbeats 4000000
/-! Statements, loops, comprehensions, defs by their denotations. -/
namespace T
open PySem L2 Evl

theorem _root_.L2.PS.weak {X : Cx} {e : Stmt} {t t' : TS} (h : PS X e t) (w : ∀ D σ H, t' D σ H → t D σ H) : PS X e t' := ⟨fun pins s σ H D I q => h.run pins s σ H D I (w D σ H q)⟩
theorem _root_.L2.PSs.weak {X : Cx} {e : List Stmt} {t t' : TS} (h : PSs X e t) (w : ∀ D σ H, t' D σ H → t D σ H) : PSs X e t' := ⟨fun pins s σ H D I q => h.run pins s σ H D I (w D σ H q)⟩
theorem _root_.L2.PG.weak {X : Cx} {e : Expr} {t t' : TG} (h : PG X e t) (w : ∀ v σ H Q, t' v σ H Q → t v σ H Q) : PG X e t' := ⟨fun pins s σ H v u Q I r q => h.run pins s σ H v u Q I r (w v σ H Q q)⟩
theorem _root_.L2.PGs.weak {X : Cx} {e : List Expr} {t t' : TGs} (h : PGs X e t) (w : ∀ v σ H Q, t' v σ H Q → t v σ H Q) : PGs X e t' := ⟨fun pins s σ H v u Q I r q => h.run pins s σ H v u Q I r (w v σ H Q q)⟩
theorem _root_.L2.PI.weak {X : Cx} {tg e : Expr} {t t' : TI} (h : PI X tg e t) (w : ∀ σ H Q, t' σ H Q → t σ H Q) : PI X tg e t' := ⟨fun pins s σ H R I q => h.run pins s σ H R I (w σ H R q)⟩

/-- how a statement ends -/
inductive RS where
  | nx (σ : Sd) (c : Cs)
  | rt (d : D) (c : Cs)
  | bk (σ : Sd) (c : Cs)
  | ct (σ : Sd) (c : Cs)
  | exc (e : D) (c : Cs)
  | bad
abbrev MS := Sd → Cs → RS
def CntS (K : PySem.W.Frag) (E : XK) (B : Hp) (γ : List Addr) (H : Hp) (r : RS) (De : Ends) : Prop := match r with
  | .nx σd c => ∀ B' γ' H' σ', Ext B γ H B' γ' H' → Stt K B' γ' c H' → RepS K B' γ' σd σ' → De.nx σ' H'
  | .bk σd c => ∀ B' γ' H' σ', Ext B γ H B' γ' H' → Stt K B' γ' c H' → RepS K B' γ' σd σ' → De.bk σ' H'
  | .ct σd c => ∀ B' γ' H' σ', Ext B γ H B' γ' H' → Stt K B' γ' c H' → RepS K B' γ' σd σ' → De.ct σ' H'
  | .rt d c => ∀ B' γ' H' v, Ext B γ H B' γ' H' → Stt K B' γ' c H' → Rep K B' γ' d v → De.rt v H'
  | .exc e c => ∀ B' γ' H' cls d, Ext B γ H B' γ' H' → Stt K B' γ' c H' → XRep K B' γ' H' e cls d → E cls d H'
  | .bad => False
def ts (K : PySem.W.Frag) (E : XK) (f : MS) : TS := fun De σ H => ∃ B γ c σd, Stt K B γ c H ∧ RepS K B γ σd σ ∧ CntS K E B γ H (f σd c) De
abbrev IS (X : Cx) (E : XK) (s : Stmt) (f : MS) : Prop := PS X s (ts X.K E f)
abbrev ISs (X : Cx) (E : XK) (s : List Stmt) (f : MS) : Prop := PSs X s (ts X.K E f)
section
variable {K : PySem.W.Frag} {B B' H H' : Hp} {γ γ' : List Addr} {E : XK}
theorem CntS.mono {r : RS} {De : Ends} (e : Ext B γ H B' γ' H') (h : CntS K E B γ H r De) : CntS K E B' γ' H' r De := by
  cases r with
  | nx σd c => exact fun B2 γ2 H2 σ2 e2 s2 r2 => h B2 γ2 H2 σ2 (e.trans e2) s2 r2
  | bk σd c => exact fun B2 γ2 H2 σ2 e2 s2 r2 => h B2 γ2 H2 σ2 (e.trans e2) s2 r2
  | ct σd c => exact fun B2 γ2 H2 σ2 e2 s2 r2 => h B2 γ2 H2 σ2 (e.trans e2) s2 r2
  | rt d c => exact fun B2 γ2 H2 v e2 s2 r2 => h B2 γ2 H2 v (e.trans e2) s2 r2
  | exc x c => exact fun B2 γ2 H2 cls d e2 s2 x2 => h B2 γ2 H2 cls d (e.trans e2) s2 x2
  | bad => exact h
/-- an expression, then a statement's rest -/
def R.toS {α : Type} (r : R α) (k : α → Cs → RS) : RS := match r with
  | .ok a c => k a c
  | .exc e c => .exc e c
  | .bad => .bad
theorem cntS_bind {α : Type} {r : R α} {k : α → Cs → RS} {De : Ends} {P' : Hp → List Addr → α → Cs → Hp → Prop} (h : CntS K E B γ H (r.toS k) De)
    (f : ∀ a c B1 γ1 H1, r = .ok a c → Ext B γ H B1 γ1 H1 → Stt K B1 γ1 c H1 → CntS K E B1 γ1 H1 (k a c) De → P' B1 γ1 a c H1) : Cnt K E B γ H r P' := by
  cases r with
  | ok a c => exact fun B1 γ1 H1 e1 s1 => f a c B1 γ1 H1 rfl e1 s1 (CntS.mono e1 h)
  | exc x c => exact h
  | bad => exact h
end
def sNx : MS := fun σ c => .nx σ c
def sBk : MS := fun σ c => .bk σ c
def sCt : MS := fun σ c => .ct σ c
def sSeq (f g : MS) : MS := fun σ c => match f σ c with
  | .nx σ c => g σ c
  | r => r
def sDrop (f : ME) : MS := fun σ c => (f σ c).toS fun _ c => .nx σ c
def sRet (f : ME) : MS := fun σ c => (f σ c).toS fun d c => .rt d c
def sRetN : MS := fun _ c => .rt .non c
def sIf (t : MT) (f g : MS) : MS := fun σ c => (t σ c).toS fun b c => if b then f σ c else g σ c
/-- where a value goes -/
abbrev MG := D → Sd → Cs → R Sd
def gNm (i : Nat) : MG := fun d σ c => .ok (σ.set i (some d)) c
def gsNil : List D → Sd → Cs → R Sd := fun ds σ c => match ds with
  | [] => .ok σ c
  | _ => .bad
def gsCons (g : MG) (gs : List D → Sd → Cs → R Sd) : List D → Sd → Cs → R Sd := fun ds σ c => match ds with
  | d :: ds => (g d σ c).bind fun σ c => gs ds σ c
  | [] => .bad
def gTp (n : Nat) (gs : List D → Sd → Cs → R Sd) : MG := fun d σ c => match d with
  | .tup ds => if ds.length = n then gs ds σ c else .bad
  | _ => .bad
def sAsg (f : ME) (g : MG) : MS := fun σ c => (f σ c).toS fun d c => (g d σ c).toS fun σ c => .nx σ c
/-- cell[i] = v -/
def setD : D → D → D → Cs → R Unit
  | .cell k, .int i, d, c => match c[k]? with
    | some (.lst ds) => match ixN ds.length i with
      | some j => .ok () (c.set k (.lst (ds.set j d)))
      | none => .bad
    | none => .bad
  | _, _, _, _ => .bad
def gSb (f1 f2 : ME) : MG := fun d σ c => (f1 σ c).bind fun o c => (f2 σ c).bind fun i c => (setD o i d c).bind fun _ c => .ok σ c
def tg (K : PySem.W.Frag) (E : XK) (g : MG) : TG := fun v σ H Q => ∃ B γ c σd d, Stt K B γ c H ∧ RepS K B γ σd σ ∧ Rep K B γ d v ∧ Cnt K E B γ H (g d σd c) fun B' γ' σd' _ H' => ∀ σ', RepS K B' γ' σd' σ' → Q σ' H'
def tgs (K : PySem.W.Frag) (E : XK) (g : List D → Sd → Cs → R Sd) : TGs := fun vs σ H Q => ∃ B γ c σd ds, Stt K B γ c H ∧ RepS K B γ σd σ ∧ Reps K B γ ds vs ∧ Cnt K E B γ H (g ds σd c) fun B' γ' σd' _ H' => ∀ σ', RepS K B' γ' σd' σ' → Q σ' H'
abbrev IG (X : Cx) (E : XK) (e : Expr) (g : MG) : Prop := PG X e (tg X.K E g)
abbrev IGs (X : Cx) (E : XK) (e : List Expr) (g : List D → Sd → Cs → R Sd) : Prop := PGs X e (tgs X.K E g)
section
variable {X : Cx} {E : XK} {st : Stmt} {rest : List Stmt} {f g : MS} {e a b : Expr} {fe f1 f2 : ME} {t : MT} {pos : Pos} {mg : MG}
theorem iss_nil : ISs X E [] sNx := pss_nil.weak fun De σ H ⟨B, γ, c, σd, s, rs, k⟩ => k B γ H σ (Ext.refl _ _ _) s rs
theorem iss_cons (h1 : IS X E st f) (h2 : ISs X E rest g) : ISs X E (st :: rest) (sSeq f g) := (pss_cons h1 h2).weak fun De σ H ⟨B, γ, c, σd, s, rs, k⟩ => by
  refine ⟨B, γ, c, σd, s, rs, ?_⟩
  unfold sSeq at k
  cases hf : f σd c with
  | nx σ1 c1 =>
    rw [hf] at k
    exact fun B1 γ1 H1 σ' e1 s1 r1 => ⟨B1, γ1, c1, σ1, s1, r1, CntS.mono e1 k⟩
  | rt d c1 => rw [hf] at k; exact k
  | bk σ1 c1 => rw [hf] at k; exact k
  | ct σ1 c1 => rw [hf] at k; exact k
  | exc x c1 => rw [hf] at k; exact k
  | bad => rw [hf] at k; exact k
theorem iss_one (h1 : IS X E st f) : ISs X E [st] f := pss_one h1
theorem is_pass : IS X E (.Pass pos) sNx := ps_pass.weak fun De σ H ⟨B, γ, c, σd, s, rs, k⟩ => k B γ H σ (Ext.refl _ _ _) s rs
theorem is_break : IS X E (.Break pos) sBk := ps_break.weak fun De σ H ⟨B, γ, c, σd, s, rs, k⟩ => k B γ H σ (Ext.refl _ _ _) s rs
theorem is_continue : IS X E (.Continue pos) sCt := ps_continue.weak fun De σ H ⟨B, γ, c, σd, s, rs, k⟩ => k B γ H σ (Ext.refl _ _ _) s rs
theorem is_expr (h : IE X E e fe) (hs : swapsWith e none pos.line X.env = pure false := by rfl) : IS X E (.Expr e pos) (sDrop fe) := (ps_expr h hs).weak fun De σ H ⟨B, γ, c, σd, s, rs, k⟩ =>
  ⟨B, γ, c, σd, s, rs, cntS_bind k fun x c1 B1 γ1 H1 _ e1 s1 k1 vx rx => k1 B1 γ1 H1 σ (Ext.refl _ _ _) s1 (rs.mono e1.ex e1.pre)⟩
theorem is_ret (h : IE X E e fe) : IS X E (.Return (some e) pos) (sRet fe) := (ps_ret h).weak fun De σ H ⟨B, γ, c, σd, s, rs, k⟩ =>
  ⟨B, γ, c, σd, s, rs, cntS_bind k fun x c1 B1 γ1 H1 _ e1 s1 k1 vx rx => k1 B1 γ1 H1 vx (Ext.refl _ _ _) s1 rx⟩
theorem is_retN : IS X E (.Return none pos) sRetN := ps_retN.weak fun De σ H ⟨B, γ, c, σd, s, rs, k⟩ => k B γ H .non (Ext.refl _ _ _) s rfl
theorem is_if {A C : List Stmt} (h0 : IT X E a t) (h1 : ISs X E A f) (h2 : ISs X E C g) : IS X E (.If a A C pos) (sIf t f g) := (ps_if h0 h1 h2).weak fun De σ H ⟨B, γ, c, σd, s, rs, k⟩ => by
  refine ⟨B, γ, c, σd, s, rs, cntS_bind k fun x c1 B1 γ1 H1 _ e1 s1 k1 => ?_⟩
  cases x with
  | true => exact ⟨B1, γ1, c1, σd, s1, rs.mono e1.ex e1.pre, k1⟩
  | false => exact ⟨B1, γ1, c1, σd, s1, rs.mono e1.ex e1.pre, k1⟩
/-! targets -/
theorem ig_name {i : Nat} {x : Str} (hN : X.N.Nodup) (hi : X.N[i]? = some x) (hx : Loc X.env.scope x) (hf : X.fn x = true ∨ X.env.scope.names.lookup x = some .local := by first | exact .inl rfl | exact .inr rfl | assumption) : IG X E (.Name x pos) (gNm i) :=
  (pg_name hN hi hx hf).weak fun v σ H Q ⟨B, γ, c, σd, d, s, rs, r, k⟩ => k B γ H (Ext.refl _ _ _) s _ (rs.set r)
theorem igs_nil : IGs X E [] gsNil := pgs_nil.weak fun vs σ H Q ⟨B, γ, c, σd, ds, s, rs, r, k⟩ => by
  cases ds with
  | nil => exact ⟨r, k B γ H (Ext.refl _ _ _) s _ rs⟩
  | cons d ds => exact k.elim
theorem igs_cons {es : List Expr} {gs : List D → Sd → Cs → R Sd} (h1 : IG X E e mg) (h2 : IGs X E es gs) (ha : (assignEach (e :: es) X.env).map (·.2) = assign e X.env :: (assignEach es X.env).map (·.2) := by rfl) : IGs X E (e :: es) (gsCons mg gs) := by
  refine (pgs_cons h1 h2 ha).weak fun vs σ H Q ⟨B, γ, c, σd, ds, s, rs, r, k⟩ => ?_
  cases ds with
  | nil => exact k.elim
  | cons d ds =>
    obtain ⟨v, w, e1, r1, r2⟩ := r
    refine ⟨v, w, e1, B, γ, c, σd, d, s, rs, r1, cnt_bind k fun σ1 c1 B1 γ1 H1 _ e1 s1 k1 σ' rs1 => ?_⟩
    exact ⟨B1, γ1, c1, σ1, ds, s1, rs1, Reps.mono e1.ex e1.pre _ _ r2, k1⟩
theorem ig_tup {es : List Expr} {k0 : Nat} {gs : List D → Sd → Cs → R Sd} {n : Nat} (hc : X.calm = true) (h : IGs X E es gs)
    (hn : (assignEach es X.env).length = n := by rfl) (hst : (assignEach es X.env).findIdx? (·.1) = none := by rfl) : IG X E (.Tuple es k0 pos) (gTp n gs) := by
  refine (pg_tup hc h hn hst).weak fun v σ H Q ⟨B, γ, c, σd, d, s, rs, r, k⟩ => ?_
  cases d with
  | tup ds =>
    obtain ⟨a, vs, e1, h1, h2⟩ := r
    have k' : Cnt X.K E B γ H (if ds.length = n then gs ds σd c else R.bad) (fun B' γ' σd' _ H' => ∀ σ', RepS X.K B' γ' σd' σ' → Q σ' H') := k
    by_cases hl : ds.length = n
    · rw [if_pos hl] at k'
      exact ⟨a, vs, e1, ex_t s.ex h1.sq, by rw [h2.len]; exact hl, B, γ, c, σd, ds, s, rs, h2, k'⟩
    · rw [if_neg hl] at k'
      exact k'.elim
  | _ => exact k.elim
theorem ixN_len {n : Nat} {i : Int} {j : Nat} (h : ixN n i = some j) : j < n := (ixN_seq h).2.1
theorem ig_sub (h1 : IE X E a f1) (h2 : IE X E b f2) (ha : ∀ v, assign (.Subscript a b pos) X.env v = (do
      let ov ← holding [v] (eval a X.env)
      let iv ← holding [v, ov] (eval b X.env)
      standAt pos
      holding [v, ov, iv] (setItem ov iv v)
      release [v, ov, iv] []) := by intro v; rfl) : IG X E (.Subscript a b pos) (gSb f1 f2) := by
  refine (pg_sub h1 h2 set_list ha).weak fun v σ H Q ⟨B, γ, c, σd, d, s, rs, r, k⟩ => ?_
  refine ⟨B, γ, c, σd, s, rs, cnt_bind k fun o c1 B1 γ1 H1 _ e1 s1 k1 vo ro => ?_⟩
  refine ⟨B1, γ1, c1, σd, s1, rs.mono e1.ex e1.pre, cnt_bind k1 fun i c2 B2 γ2 H2 _ e2 s2 k2 vi ri => ?_⟩
  have ro2 := Rep.mono e2.ex e2.pre _ _ ro
  have rd2 := Rep.mono e2.ex e2.pre _ _ (Rep.mono e1.ex e1.pre _ _ r)
  cases o with
  | cell kk =>
    cases i with
    | int i =>
      obtain ⟨p, rfl, hp⟩ := ro2
      cases (show vi = V.int i from ri)
      cases hc : c2[kk]? with
      | none => simp [setD, hc, R.bind, Cnt] at k2
      | some co =>
        cases co with
        | lst ds =>
          obtain ⟨vs, hv, rv⟩ := s2.cel kk p _ hp hc
          cases hj : ixN ds.length i with
          | none => simp [setD, hc, hj, R.bind, Cnt] at k2
          | some j =>
            have k3 : Cnt X.K E B2 γ2 H2 (R.ok σd (c2.set kk (.lst (ds.set j d)))) (fun B' γ' σd' _ H' => ∀ σ', RepS X.K B' γ' σd' σ' → Q σ' H') := by
              simpa [setD, hc, hj, R.bind] using k2
            obtain ⟨s3, e3⟩ := s2.write hp (rv.set j rd2)
            refine ⟨p, vs, i, j, rfl, rfl, hv, by rw [rv.len]; exact hj, ?_⟩
            exact k3 _ _ _ e3 s3 σ (((rs.mono e1.ex e1.pre).mono e2.ex e2.pre).mono e3.ex e3.pre)
    | _ => exact k2.elim
  | _ => exact k2.elim
theorem is_asg {tg0 : Expr} (h1 : IE X E e fe) (h2 : IG X E tg0 mg) (hs : swapsWithSole [tg0] e pos.line X.env = pure false := by rfl) (hw : swappedStores [tg0] e X.env = pure none := by rfl)
    (h3 : (assignEach [tg0] X.env).map (·.2) = [assign tg0 X.env] := by rfl) : IS X E (.Assign [tg0] e pos) (sAsg fe mg) := by
  refine (ps_asg h1 h2 hs hw h3).weak fun De σ H ⟨B, γ, c, σd, s, rs, k⟩ => ?_
  refine ⟨B, γ, c, σd, s, rs, cntS_bind k fun d c1 B1 γ1 H1 _ e1 s1 k1 vx rx => ?_⟩
  exact ⟨B1, γ1, c1, σd, d, s1, rs.mono e1.ex e1.pre, rx, cntS_bind k1 fun σ1 c2 B2 γ2 H2 _ e2 s2 k2 σ' rs2 => k2 B2 γ2 H2 σ' (Ext.refl _ _ _) s2 rs2⟩
theorem is_set {i : Nat} {x : Str} {pos' : Pos} (hN : X.N.Nodup) (hi : X.N[i]? = some x) (hx : Loc X.env.scope x) (h1 : IE X E e fe) (hs : swapsWith e (some (.Name x pos')) pos.line X.env = pure false := by rfl)
    (hf : X.fn x = true ∨ X.env.scope.names.lookup x = some .local := by first | exact .inl rfl | exact .inr rfl | assumption) : IS X E (.Assign [.Name x pos'] e pos) (sAsg fe (gNm i)) := by
  refine (ps_set hN hi hx h1 hs hf).weak fun De σ H ⟨B, γ, c, σd, s, rs, k⟩ => ?_
  refine ⟨B, γ, c, σd, s, rs, cntS_bind k fun d c1 B1 γ1 H1 _ e1 s1 k1 vx rx => ?_⟩
  exact k1 B1 γ1 H1 _ (Ext.refl _ _ _) s1 ((rs.mono e1.ex e1.pre).set rx)
end

/-! ### what is walked -/
/-- the iterator J yields these, whatever happens meanwhile to what changes -/
def Walks (K : PySem.W.Frag) (B0 : Hp) (γ0 : List Addr) (J : It) (ds : List D) : Prop := ∀ B γ c H (i : Nat), Ex B0 B → γ0 <+: γ → Stt K B γ c H →
  (∀ d, ds[i]? = some d → J.go i H ∧ ∀ x H', J.yld i H x H' → ∃ B', Ext B γ H B' γ H' ∧ Stt K B' γ c H' ∧ Rep K B' γ d x) ∧ (ds.length ≤ i → J.stop i H)
def ti (K : PySem.W.Frag) (E : XK) (f : MA) : TI := fun σ H R => ∃ B γ c σd, Stt K B γ c H ∧ RepS K B γ σd σ ∧ Cnt K E B γ H (f σd c) fun B' γ' ds _ H' => ∀ J, Walks K B' γ' J ds → R J H'
abbrev II (X : Cx) (E : XK) (tg e : Expr) (f : MA) : Prop := PI X tg e (ti X.K E f)
def mIt (f : ME) : MA := fun σ c => (f σ c).bind fun d c => match d with
  | .lst ds => .ok ds c
  | .sl ds => .ok ds c
  | _ => .bad
def mItT (f : ME) : MA := fun σ c => (f σ c).bind fun d c => match d with
  | .tup ds => .ok ds c
  | _ => .bad
def signs (x : Str) : List D := x.cps.toList.map fun c => D.str ⟨#[c]⟩
def mItS (f : ME) : MA := fun σ c => (f σ c).bind fun d c => match d with
  | .str x => .ok (signs x) c
  | _ => .bad
def rng (lo : Int) (n : Nat) : List D := (List.range n).map fun (k : Nat) => D.int (lo + (k : Int))
def int1 : List D → Option Int
  | [.int j] => some j
  | _ => none
def int2 : List D → Option (Int × Int)
  | [.int i, .int j] => some (i, j)
  | _ => none
def lst2 : List D → Option (List D × List D)
  | [.lst i, .lst j] => some (i, j)
  | _ => none
def tup2 : List D → Option (List D × List D)
  | [.tup i, .tup j] => some (i, j)
  | _ => none
def near (j : Int) : Bool := decide (-1000000000000 ≤ j) && decide (j ≤ 1000000000000)
def mItR1 (f : MA) : MA := fun σ c => (f σ c).bind fun ds c => match int1 ds with
  | some j => if near j = true then .ok (rng 0 j.toNat) c else .bad
  | none => .bad
def mItR2 (f : MA) : MA := fun σ c => (f σ c).bind fun ds c => match int2 ds with
  | some p => if (near p.1 && near p.2) = true then .ok (rng p.1 (p.2 - p.1).toNat) c else .bad
  | none => .bad
def zipD (xs ys : List D) : List D := (xs.zip ys).map fun p => D.tup [p.1, p.2]
def mItZT (f : MA) : MA := fun σ c => (f σ c).bind fun ds c => match lst2 ds with
  | some p => .ok (zipD p.1 p.2) c
  | none => match tup2 ds with
    | some p => .ok (zipD p.1 p.2) c
    | none => .bad
theorem near_b {j : Int} (h : near j = true) : -(2 ^ 62) ≤ j ∧ j < 2 ^ 62 := by
  unfold near at h
  simp only [Bool.and_eq_true, decide_eq_true_eq] at h
  omega
theorem int1_of {ds : List D} {j : Int} (h : int1 ds = some j) : ds = [.int j] := by
  unfold int1 at h
  split at h
  · cases h; rfl
  · cases h
theorem int2_of {ds : List D} {p : Int × Int} (h : int2 ds = some p) : ds = [.int p.1, .int p.2] := by
  unfold int2 at h
  split at h
  · cases h; rfl
  · cases h
theorem lst2_of {ds : List D} {p : List D × List D} (h : lst2 ds = some p) : ds = [.lst p.1, .lst p.2] := by
  unfold lst2 at h
  split at h
  · cases h; rfl
  · cases h
theorem tup2_of {ds : List D} {p : List D × List D} (h : tup2 ds = some p) : ds = [.tup p.1, .tup p.2] := by
  unfold tup2 at h
  split at h
  · cases h; rfl
  · cases h
section
variable {K : PySem.W.Frag} {B0 B H : Hp} {γ0 γ : List Addr}
theorem walks_list {a : Addr} {vs : List V} {ds : List D} (h : SqL K B0 a vs) (r : Reps K B0 γ0 ds vs) : Walks K B0 γ0 (Itl K a) ds := by
  intro B γ c H i e g s
  have hH : SqL K H a vs := ex_l s.ex (ex_l e h)
  refine ⟨fun d hd => ?_, fun hl => ⟨vs, hH, by rw [r.len]; exact hl⟩⟩
  obtain ⟨v, hv, rv⟩ := (Reps.mono e g ds vs r).get hd
  refine ⟨⟨vs, v, hH, hv⟩, fun x H' ⟨e1, e2⟩ => ?_⟩
  subst e1
  have := e2 vs hH
  rw [hv] at this
  cases this
  exact ⟨B, Ext.refl _ _ _, s, rv⟩
theorem walks_tup {a : Addr} {vs : List V} {ds : List D} (h : SqT K B0 a vs) (r : Reps K B0 γ0 ds vs) : Walks K B0 γ0 (Itt K a) ds := by
  intro B γ c H i e g s
  have hH : SqT K H a vs := ex_t s.ex (ex_t e h)
  refine ⟨fun d hd => ?_, fun hl => ⟨vs, hH, by rw [r.len]; exact hl⟩⟩
  obtain ⟨v, hv, rv⟩ := (Reps.mono e g ds vs r).get hd
  refine ⟨⟨vs, v, hH, hv⟩, fun x H' ⟨e1, e2⟩ => ?_⟩
  subst e1
  have := e2 vs hH
  rw [hv] at this
  cases this
  exact ⟨B, Ext.refl _ _ _, s, rv⟩
theorem walks_str (x : Str) : Walks K B0 γ0 (Its x) (signs x) := by
  intro B γ c H i e g s
  refine ⟨fun d hd => ?_, fun hl => ?_⟩
  · unfold signs at hd
    rw [List.getElem?_map] at hd
    have hi : i < x.cps.size := by
      cases q : x.cps.toList[i]? with
      | none => rw [q] at hd; cases hd
      | some z => simpa using (List.getElem?_eq_some_iff.mp q).1
    refine ⟨hi, fun v H' ⟨e1, cc, e2, e3⟩ => ?_⟩
    subst e1
    rw [Array.getElem?_toList, e2] at hd
    cases hd
    exact ⟨B, Ext.refl _ _ _, s, e3⟩
  · show x.cps.size ≤ i
    unfold signs at hl
    simpa using hl
theorem walks_rng (lo : Int) (n : Nat) : Walks K B0 γ0 (Itr lo n) (rng lo n) := by
  intro B γ c H i e g s
  refine ⟨fun d hd => ?_, fun hl => ?_⟩
  · unfold rng at hd
    rw [List.getElem?_map] at hd
    have hi : i < n := by
      cases q : (List.range n)[i]? with
      | none => rw [q] at hd; cases hd
      | some z => simpa using (List.getElem?_eq_some_iff.mp q).1
    refine ⟨hi, fun v H' ⟨e1, e2⟩ => ?_⟩
    subst e1
    rw [List.getElem?_range hi] at hd
    cases hd
    exact ⟨B, Ext.refl _ _ _, s, e2⟩
  · show n ≤ i
    unfold rng at hl
    simpa using hl
theorem zip_get {α β : Type} {xs : List α} {ys : List β} {i : Nat} {p : α × β} (h : (xs.zip ys)[i]? = some p) : xs[i]? = some p.1 ∧ ys[i]? = some p.2 := by
  rw [List.getElem?_zip_eq_some] at h
  exact h
theorem walks_zip {a b : Addr} {vs ws : List V} {xs ys : List D} (h1 : SqL K B0 a vs) (r1 : Reps K B0 γ0 xs vs) (h2 : SqL K B0 b ws) (r2 : Reps K B0 γ0 ys ws) : Walks K B0 γ0 (Itz K a b) (zipD xs ys) := by
  unfold zipD
  intro B γ c H i e g s
  have hH1 : SqL K H a vs := ex_l s.ex (ex_l e h1)
  have hH2 : SqL K H b ws := ex_l s.ex (ex_l e h2)
  refine ⟨fun d hd => ?_, fun hl => ?_⟩
  · rw [List.getElem?_map] at hd
    cases q : (xs.zip ys)[i]? with
    | none => rw [q] at hd; cases hd
    | some p =>
      rw [q] at hd
      cases hd
      obtain ⟨q1, q2⟩ := zip_get q
      obtain ⟨v1, hv1, rv1⟩ := (Reps.mono e g xs vs r1).get q1
      obtain ⟨v2, hv2, rv2⟩ := (Reps.mono e g ys ws r2).get q2
      refine ⟨⟨vs, ws, v1, v2, hH1, hH2, hv1, hv2⟩, fun v H' ⟨T, x, y, e1, e2, e3, e4, e5⟩ => ?_⟩
      have z1 := e4 vs hH1
      rw [hv1] at z1; cases z1
      have z2 := e5 ws hH2
      rw [hv2] at z2; cases z2
      subst e3 e1
      obtain ⟨s2, x2⟩ := s.new (o := .tup [v1, v2]) e2
      exact ⟨_, x2, s2, ⟨T, [v1, v2], rfl, .inl upd_same, ⟨v1, [v2], rfl, Rep.mono x2.ex x2.pre _ _ rv1, ⟨v2, [], rfl, Rep.mono x2.ex x2.pre _ _ rv2, rfl⟩⟩⟩⟩
  · refine ⟨vs, ws, hH1, hH2, ?_⟩
    rw [r1.len, r2.len]
    simp at hl
    omega
theorem walks_zipT {a b : Addr} {vs ws : List V} {xs ys : List D} (h1 : SqT K B0 a vs) (r1 : Reps K B0 γ0 xs vs) (h2 : SqT K B0 b ws) (r2 : Reps K B0 γ0 ys ws) : Walks K B0 γ0 (RZ.ItzT K a b) (zipD xs ys) := by
  unfold zipD
  intro B γ c H i e g s
  have hH1 : SqT K H a vs := ex_t s.ex (ex_t e h1)
  have hH2 : SqT K H b ws := ex_t s.ex (ex_t e h2)
  refine ⟨fun d hd => ?_, fun hl => ?_⟩
  · rw [List.getElem?_map] at hd
    cases q : (xs.zip ys)[i]? with
    | none => rw [q] at hd; cases hd
    | some p =>
      rw [q] at hd
      cases hd
      obtain ⟨q1, q2⟩ := zip_get q
      obtain ⟨v1, hv1, rv1⟩ := (Reps.mono e g xs vs r1).get q1
      obtain ⟨v2, hv2, rv2⟩ := (Reps.mono e g ys ws r2).get q2
      refine ⟨⟨vs, ws, v1, v2, hH1, hH2, hv1, hv2⟩, fun v H' ⟨T, x, y, e1, e2, e3, e4, e5⟩ => ?_⟩
      have z1 := e4 vs hH1
      rw [hv1] at z1; cases z1
      have z2 := e5 ws hH2
      rw [hv2] at z2; cases z2
      subst e3 e1
      obtain ⟨s2, x2⟩ := s.new (o := .tup [v1, v2]) e2
      exact ⟨_, x2, s2, ⟨T, [v1, v2], rfl, .inl upd_same, ⟨v1, [v2], rfl, Rep.mono x2.ex x2.pre _ _ rv1, ⟨v2, [], rfl, Rep.mono x2.ex x2.pre _ _ rv2, rfl⟩⟩⟩⟩
  · refine ⟨vs, ws, hH1, hH2, ?_⟩
    rw [r1.len, r2.len]
    simp at hl
    omega
end
section
variable {X : Cx} {E : XK} {tg0 e a b : Expr} {f : ME} {fs : MA} {pos p : Pos}
theorem ii_list (h : IE X E e f) : II X E tg0 e (mIt f) := (pi_list h).weak fun σ H Rr ⟨B, γ, c, σd, s, rs, k⟩ => by
  refine ⟨B, γ, c, σd, s, rs, cnt_bind k fun d c1 B1 γ1 H1 _ e1 s1 k1 v rv => ?_⟩
  cases d with
  | lst ds =>
    obtain ⟨a, vs, e2, h1, h2⟩ := rv
    exact ⟨a, e2, ⟨vs, SqL.of (s1.ex _ _ h1)⟩, k1 B1 γ1 H1 (Ext.refl _ _ _) s1 _ (walks_list (SqL.of h1) h2)⟩
  | sl ds =>
    obtain ⟨a, vs, e2, h1, h2⟩ := rv
    exact ⟨a, e2, ⟨vs, ex_l s1.ex h1⟩, k1 B1 γ1 H1 (Ext.refl _ _ _) s1 _ (walks_list h1 h2)⟩
  | _ => exact k1.elim
theorem ii_tup (h : IE X E e f) : II X E tg0 e (mItT f) := (pi_tup h).weak fun σ H Rr ⟨B, γ, c, σd, s, rs, k⟩ => by
  refine ⟨B, γ, c, σd, s, rs, cnt_bind k fun d c1 B1 γ1 H1 _ e1 s1 k1 v rv => ?_⟩
  cases d with
  | tup ds =>
    obtain ⟨a, vs, e2, h1, h2⟩ := rv
    exact ⟨a, e2, ⟨vs, ex_t s1.ex h1.sq⟩, k1 B1 γ1 H1 (Ext.refl _ _ _) s1 _ (walks_tup h1.sq h2)⟩
  | _ => exact k1.elim
theorem ii_str (h : IE X E e f) : II X E tg0 e (mItS f) := (pi_str h).weak fun σ H Rr ⟨B, γ, c, σd, s, rs, k⟩ => by
  refine ⟨B, γ, c, σd, s, rs, cnt_bind k fun d c1 B1 γ1 H1 _ e1 s1 k1 v rv => ?_⟩
  cases d with
  | str x => exact ⟨x, rv, k1 B1 γ1 H1 (Ext.refl _ _ _) s1 _ (walks_str x)⟩
  | _ => exact k1.elim
theorem reps1 {K : PySem.W.Frag} {B : Hp} {γ : List Addr} {a : D} {vs : List V} (h : Reps K B γ [a] vs) : ∃ v, vs = [v] ∧ Rep K B γ a v := by
  obtain ⟨v, r, h1, h2, h3⟩ := h
  rw [show r = [] from h3] at h1
  exact ⟨v, h1, h2⟩
theorem reps2 {K : PySem.W.Frag} {B : Hp} {γ : List Addr} {a b : D} {vs : List V} (h : Reps K B γ [a, b] vs) : ∃ v w, vs = [v, w] ∧ Rep K B γ a v ∧ Rep K B γ b w := by
  obtain ⟨v, r, h1, h2, h3⟩ := h
  obtain ⟨w, h4, h5⟩ := reps1 h3
  rw [h4] at h1
  exact ⟨v, w, h1, h2, h5⟩
theorem ii_range1 (hg : Gl X "range") (hm : X.mg "range" = none) (h : IA X E [a] fs) (hs : starEach [a] X.env = [(false, eval a X.env)] := by rfl) : II X E tg0 (.Call (.Name "range" p) [a] [] pos) (mItR1 fs) := (pi_range1 hg hm h hs).weak fun σ H Rr ⟨B, γ, c, σd, s, rs, k⟩ => by
  refine ⟨B, γ, c, σd, s, rs, cnt_bind k fun ds c1 B1 γ1 H1 _ e1 s1 k1 vs rv => ?_⟩
  cases hi : int1 ds with
  | none => rw [hi] at k1; exact k1.elim
  | some j =>
    rw [hi] at k1
    rw [int1_of hi] at rv
    obtain ⟨v, e2, r2⟩ := reps1 rv
    rw [show v = V.int j from r2] at e2
    by_cases hj : near j = true
    · simp only [hj, if_true] at k1
      have hb := near_b hj
      exact ⟨j, e2, hb.1, hb.2, k1 B1 γ1 H1 (Ext.refl _ _ _) s1 _ (walks_rng 0 _)⟩
    · simp only [hj, if_false] at k1
      exact k1.elim
theorem ii_range2 (hg : Gl X "range") (hm : X.mg "range" = none) (h : IA X E [a, b] fs) (hs : starEach [a, b] X.env = [(false, eval a X.env), (false, eval b X.env)] := by rfl) (hs2 : starEach [b] X.env = [(false, eval b X.env)] := by rfl) :
    II X E tg0 (.Call (.Name "range" p) [a, b] [] pos) (mItR2 fs) := (pi_range2 hg hm h hs hs2).weak fun σ H Rr ⟨B, γ, c, σd, s, rs, k⟩ => by
  refine ⟨B, γ, c, σd, s, rs, cnt_bind k fun ds c1 B1 γ1 H1 _ e1 s1 k1 vs rv => ?_⟩
  cases hi : int2 ds with
  | none => rw [hi] at k1; exact k1.elim
  | some q =>
    rw [hi] at k1
    rw [int2_of hi] at rv
    obtain ⟨v, w, e2, r2, r3⟩ := reps2 rv
    rw [show v = V.int q.1 from r2, show w = V.int q.2 from r3] at e2
    by_cases hj : (near q.1 && near q.2) = true
    · simp only [hj, if_true] at k1
      have hj2 := Bool.and_eq_true_iff.mp hj
      have h1 := near_b hj2.1
      have h2 := near_b hj2.2
      exact ⟨q.1, q.2, e2, ⟨h1.1, h1.2, h2.1, h2.2⟩, k1 B1 γ1 H1 (Ext.refl _ _ _) s1 _ (walks_rng q.1 _)⟩
    · simp only [hj, if_false] at k1
      exact k1.elim
theorem ii_zip {elts : List Expr} {kk : Nat} {tpos : Pos} (hg : Gl X "zip") (hm : X.mg "zip" = none) (h : IA X E [a, b] fs) (hs : starEach [a, b] X.env = (false, eval a X.env) :: starEach [b] X.env := by rfl) (hpl : (backTo pos (starEach [b] X.env)).any (·.1) = false := by rfl) :
    II X E (.Tuple elts kk tpos) (.Call (.Name "zip" p) [a, b] [] pos) (mItZT fs) := (RZ.pi_zipA hg hm h hs hpl).weak fun σ H Rr ⟨B, γ, c, σd, s, rs, k⟩ => by
  refine ⟨B, γ, c, σd, s, rs, cnt_bind k fun ds c1 B1 γ1 H1 _ e1 s1 k1 vs rv => ?_⟩
  cases hi : lst2 ds with
  | some q =>
    rw [hi] at k1
    rw [lst2_of hi] at rv
    obtain ⟨v, w, e2, r2, r3⟩ := reps2 rv
    obtain ⟨a1, vs1, rfl, h1, h2⟩ := r2
    obtain ⟨a2, vs2, rfl, h3, h4⟩ := r3
    exact ⟨a1, a2, vs1, vs2, e2, .inl ⟨SqL.of (s1.ex _ _ h1), SqL.of (s1.ex _ _ h3), k1 B1 γ1 H1 (Ext.refl _ _ _) s1 _ (walks_zip (SqL.of h1) h2 (SqL.of h3) h4)⟩⟩
  | none =>
    rw [hi] at k1
    cases hj : tup2 ds with
    | some q =>
      simp only [hj] at k1
      rw [tup2_of hj] at rv
      obtain ⟨v, w, e2, r2, r3⟩ := reps2 rv
      obtain ⟨a1, vs1, rfl, h1, h2⟩ := r2
      obtain ⟨a2, vs2, rfl, h3, h4⟩ := r3
      exact ⟨a1, a2, vs1, vs2, e2, .inr ⟨ex_t s1.ex h1.sq, ex_t s1.ex h3.sq, k1 B1 γ1 H1 (Ext.refl _ _ _) s1 _ (walks_zipT h1.sq h2 h3.sq h4)⟩⟩
    | none => simp only [hj] at k1; exact k1.elim

/-! ### for -/
/-- the turns of a for -/
def forL (g : MG) (f : MS) : List D → Sd → Cs → RS
  | [], σ, c => .nx σ c
  | d :: ds, σ, c => (g d σ c).toS fun σ c => match f σ c with
    | .nx σ c => forL g f ds σ c
    | .ct σ c => forL g f ds σ c
    | .bk σ c => .nx σ c
    | r => r
def sFor (w : MA) (g : MG) (f : MS) : MS := fun σ c => (w σ c).toS fun ds c => forL g f ds σ c
theorem is_for {body : List Stmt} {w : MA} {g : MG} {fb : MS} (hp : PassesOwn (model X.prog X.w) X.A X.env X.xe) (hc : X.calm = true) (hi : II X E tg0 e w) (hg : IG X E tg0 g) (hb : ISs X E body fb)
    (hs : ∀ x, foldedSetIterable e X.env x = pure x := by intro _; rfl) : IS X E (.For tg0 e body [] pos) (sFor w g fb) := by
  refine (ps_for hp hc hi hg hb hs).weak fun De σ H ⟨B, γ, c, σd, s, rs, k⟩ => ?_
  refine ⟨B, γ, c, σd, s, rs, cntS_bind k fun ds c1 B1 γ1 H1 _ e1 s1 k1 J wk => ?_⟩
  refine ⟨fun i m σ2 H2 => m = ds.length - i ∧ i ≤ ds.length ∧ ∃ B2 γ2 c2 σd2, Ext B1 γ1 H1 B2 γ2 H2 ∧ Stt X.K B2 γ2 c2 H2 ∧ RepS X.K B2 γ2 σd2 σ2 ∧ CntS X.K E B2 γ2 H2 (forL g fb (ds.drop i) σd2 c2) De,
    ⟨_, rfl, Nat.zero_le _, B1, γ1, c1, σd, Ext.refl _ _ _, s1, rs.mono e1.ex e1.pre, k1⟩, ?_⟩
  rintro i m σ2 H2 ⟨rfl, hi2, B2, γ2, c2, σd2, e2, s2, rs2, k2⟩
  obtain ⟨w1, w2⟩ := wk B2 γ2 c2 H2 i e2.ex e2.pre s2
  by_cases hl : i < ds.length
  · obtain ⟨g1, g2⟩ := w1 ds[i] (List.getElem?_eq_getElem hl)
    rw [List.drop_eq_getElem_cons hl] at k2
    refine .inr ⟨g1, fun σ3 H3 => ∃ m', m' < ds.length - i ∧ (m' = ds.length - (i + 1) ∧ i + 1 ≤ ds.length ∧ ∃ B2 γ2 c2 σd2, Ext B1 γ1 H1 B2 γ2 H3 ∧ Stt X.K B2 γ2 c2 H3 ∧ RepS X.K B2 γ2 σd2 σ3 ∧ CntS X.K E B2 γ2 H3 (forL g fb (ds.drop (i + 1)) σd2 c2) De), fun σ' H' h => h, fun x H' y => ?_⟩
    obtain ⟨B3, e3, s3, r3⟩ := g2 x H' y
    refine ⟨B3, γ2, c2, σd2, ds[i], s3, rs2.mono e3.ex e3.pre, r3, ?_⟩
    have k3 := CntS.mono e3 k2
    refine cntS_bind (De := De) k3 fun σ4 c4 B4 γ4 H4 _ e4 s4 k4 σv rs4 => ?_
    refine ⟨B4, γ4, c4, σ4, s4, rs4, ?_⟩
    have nxt : ∀ (σ5 : Sd) (c5 : Cs), CntS X.K E B4 γ4 H4 (forL g fb (ds.drop (i + 1)) σ5 c5) De → ∀ B' γ' H' σ', Ext B4 γ4 H4 B' γ' H' → Stt X.K B' γ' c5 H' → RepS X.K B' γ' σ5 σ' →
        ∃ m', m' < ds.length - i ∧ (m' = ds.length - (i + 1) ∧ i + 1 ≤ ds.length ∧ ∃ B2 γ2 c2 σd2, Ext B1 γ1 H1 B2 γ2 H' ∧ Stt X.K B2 γ2 c2 H' ∧ RepS X.K B2 γ2 σd2 σ' ∧ CntS X.K E B2 γ2 H' (forL g fb (ds.drop (i + 1)) σd2 c2) De) :=
      fun σ5 c5 k5 B' γ' H' σ' e5 s5 r5 => ⟨ds.length - (i + 1), by omega, rfl, hl, B', γ', c5, σ5, ((e2.trans e3).trans e4).trans e5, s5, r5, CntS.mono e5 k5⟩
    cases hf : fb σ4 c4 with
    | nx σ5 c5 => rw [hf] at k4; exact nxt σ5 c5 k4
    | ct σ5 c5 => rw [hf] at k4; exact nxt σ5 c5 k4
    | bk σ5 c5 => rw [hf] at k4; exact k4
    | rt d5 c5 => rw [hf] at k4; exact k4
    | exc x5 c5 => rw [hf] at k4; exact k4
    | bad => rw [hf] at k4; exact k4
  · have hn : ds.drop i = [] := List.drop_eq_nil_of_le (by omega)
    rw [hn] at k2
    exact .inl ⟨w2 (by omega), k2 B2 γ2 H2 σ2 (Ext.refl _ _ _) s2 rs2⟩
/-! ### while -/
def whL (t : MT) (f : MS) : Nat → Sd → Cs → RS
  | 0, _, _ => .bad
  | n + 1, σ, c => (t σ c).toS fun b c => if b then (match f σ c with
    | .nx σ c => whL t f n σ c
    | .ct σ c => whL t f n σ c
    | .bk σ c => .nx σ c
    | r => r) else .nx σ c
/-- a while of fewer than n turns -/
def sWh (n : Nat) (t : MT) (f : MS) : MS := fun σ c => whL t f n σ c
theorem is_while (n : Nat) {body : List Stmt} {t : MT} {fb : MS} (hp : PassesOwn (model X.prog X.w) X.A X.env X.xe) (ht : IT X E e t) (hb : ISs X E body fb) : IS X E (.While e body [] pos) (sWh n t fb) := by
  refine (ps_while hp ht hb).weak fun De σ H ⟨B, γ, c, σd, s, rs, k⟩ => ?_
  refine ⟨fun m σ2 H2 => ∃ B2 γ2 c2 σd2, Stt X.K B2 γ2 c2 H2 ∧ RepS X.K B2 γ2 σd2 σ2 ∧ CntS X.K E B2 γ2 H2 (whL t fb m σd2 c2) De, ⟨n, B, γ, c, σd, s, rs, k⟩, ?_⟩
  rintro m σ2 H2 ⟨B2, γ2, c2, σd2, s2, rs2, k2⟩
  cases m with
  | zero => exact k2.elim
  | succ m =>
    refine ⟨B2, γ2, c2, σd2, s2, rs2, cntS_bind (De := De) k2 fun b c3 B3 γ3 H3 _ e3 s3 k3 => ?_⟩
    cases b with
    | false => exact k3 B3 γ3 H3 σ2 (Ext.refl _ _ _) s3 (rs2.mono e3.ex e3.pre)
    | true =>
      refine ⟨fun σ' H' => ∃ m', m' < m + 1 ∧ ∃ B2 γ2 c2 σd2, Stt X.K B2 γ2 c2 H' ∧ RepS X.K B2 γ2 σd2 σ' ∧ CntS X.K E B2 γ2 H' (whL t fb m' σd2 c2) De, fun _ _ h => h, B3, γ3, c3, σd2, s3, rs2.mono e3.ex e3.pre, ?_⟩
      cases hf : fb σd2 c3 with
      | nx σ5 c5 => simp only [hf, if_true] at k3; exact fun B' γ' H' σ' e5 s5 r5 => ⟨m, Nat.lt_succ_self _, B', γ', c5, σ5, s5, r5, CntS.mono e5 k3⟩
      | ct σ5 c5 => simp only [hf, if_true] at k3; exact fun B' γ' H' σ' e5 s5 r5 => ⟨m, Nat.lt_succ_self _, B', γ', c5, σ5, s5, r5, CntS.mono e5 k3⟩
      | bk σ5 c5 => simp only [hf, if_true] at k3; exact k3
      | rt d5 c5 => simp only [hf, if_true] at k3; exact k3
      | exc x5 c5 => simp only [hf, if_true] at k3; exact k3
      | bad => simp only [hf, if_true] at k3; exact k3
end
end T

set_option linter.all false
set_option maxRecDepth 100000
set_option maxHeartbeats 4000000
/-! Comprehensions and defs by their denotations. -/
namespace T
open PySem L2 Evl
def R.ne {α : Type} (r : R α) : R α := match r with
  | .ok a c => .ok a c
  | _ => .bad
def wipeD (σ : Sd) : List Nat → Sd
  | [] => σ
  | v :: vs => (wipeD σ vs).set v none
section
variable {K : PySem.W.Frag} {B B' H H' : Hp} {γ γ' : List Addr} {E : XK}
theorem RepS.del {σd : Sd} {σ : St} (h : RepS K B γ σd σ) (i : Nat) : RepS K B γ (σd.set i none) (σ.set i none) :=
  ⟨by rw [List.length_set, List.length_set]; exact h.len, fun j e q => by
    by_cases hj : j = i
    · subst hj
      have hl : j < σd.length := by
        have := (List.getElem?_eq_some_iff.mp q).1
        rwa [List.length_set] at this
      rw [List.getElem?_set_self hl] at q
      cases q
    · rw [List.getElem?_set_ne (Ne.symm hj)] at q
      obtain ⟨w, h1, h2⟩ := h.get j e q
      exact ⟨w, by rw [List.getElem?_set_ne (Ne.symm hj)]; exact h1, h2⟩⟩
theorem RepS.wipe {σd : Sd} {σ : St} (h : RepS K B γ σd σ) : ∀ vs : List Nat, RepS K B γ (wipeD σd vs) (wipe σ vs)
  | [] => h
  | v :: vs => (RepS.wipe h vs).del v
theorem wipe_set {σ : St} {i : Nat} {o : Option V} : ∀ {vs : List Nat}, i ∈ vs → wipe (σ.set i o) vs = wipe σ vs
  | [], h => by simp at h
  | v :: vs, h => by
    by_cases hv : i ∈ vs
    · show (wipe (σ.set i o) vs).set v none = (wipe σ vs).set v none
      rw [wipe_set hv]
    · have e : i = v := by
        rcases List.mem_cons.mp h with z | z
        · exact z
        · exact absurd z hv
      subst e
      have gen : ∀ (ws : List Nat), i ∉ ws → wipe (σ.set i o) ws = (wipe σ ws).set i o := by
        intro ws
        induction ws with
        | nil => intro _; rfl
        | cons w ws ih =>
          intro hw
          show (wipe (σ.set i o) ws).set w none = ((wipe σ ws).set w none).set i o
          rw [ih (fun z => hw (List.mem_cons_of_mem _ z)), List.set_comm _ _ (fun z => hw (by rw [z]; exact List.mem_cons_self))]
      show (wipe (σ.set i o) vs).set i none = (wipe σ vs).set i none
      rw [gen vs hv, List.set_set]
theorem wipe_wipe (σ : St) (vs : List Nat) : wipe (wipe σ vs) vs = wipe σ vs := by
  have gen : ∀ (ws : List Nat) (σ : St), (∀ v ∈ ws, v ∈ vs) → wipe (wipe σ ws) vs = wipe σ vs := by
    intro ws
    induction ws with
    | nil => intro σ _; rfl
    | cons w ws ih =>
      intro σ h
      show wipe ((wipe σ ws).set w none) vs = wipe σ vs
      rw [wipe_set (h w List.mem_cons_self), ih σ fun v hv => h v (List.mem_cons_of_mem _ hv)]
  exact gen vs σ fun _ h => h
theorem cnt_imp {α : Type} {r : R α} {P P' : Hp → List Addr → α → Cs → Hp → Prop} (h : Cnt K E B γ H r P) (f : ∀ a c B1 γ1 H1, Ext B γ H B1 γ1 H1 → Stt K B1 γ1 c H1 → P B1 γ1 a c H1 → P' B1 γ1 a c H1) : Cnt K E B γ H r P' := by
  cases r with
  | ok a c => exact fun B1 γ1 H1 e1 s1 => f a c B1 γ1 H1 e1 s1 (h B1 γ1 H1 e1 s1)
  | exc x c => exact h
  | bad => exact h
theorem ne_bind {α β : Type} {r : R α} {k : α → Cs → R β} {P : Hp → List Addr → β → Cs → Hp → Prop} {E' : XK} {P' : Hp → List Addr → α → Cs → Hp → Prop} (h : Cnt K E B γ H (r.ne.bind k) P)
    (f : ∀ a c B1 γ1 H1, r = .ok a c → Ext B γ H B1 γ1 H1 → Stt K B1 γ1 c H1 → Cnt K E B1 γ1 H1 (k a c) P → P' B1 γ1 a c H1) : Cnt K E' B γ H r P' := by
  cases r with
  | ok a c => exact fun B1 γ1 H1 e1 s1 => f a c B1 γ1 H1 rfl e1 s1 (Cnt.mono e1 h)
  | exc x c => exact h.elim
  | bad => exact h.elim
end
/-- a target of a block's own names -/
def tgw (K : PySem.W.Frag) (E : XK) (vs : List Nat) (g : MG) : TG := fun v σ H Q => ∃ B γ c σd d, Stt K B γ c H ∧ RepS K B γ σd σ ∧ Rep K B γ d v ∧ Cnt K E B γ H (g d σd c) fun B' γ' σd' c' H' => ∀ σ', Ext B γ H B' γ' H' → Stt K B' γ' c' H' → RepS K B' γ' σd' σ' → wipe σ' vs = wipe σ vs → Q σ' H'
def tgsw (K : PySem.W.Frag) (E : XK) (vs : List Nat) (g : List D → Sd → Cs → R Sd) : TGs := fun ws σ H Q => ∃ B γ c σd ds, Stt K B γ c H ∧ RepS K B γ σd σ ∧ Reps K B γ ds ws ∧ Cnt K E B γ H (g ds σd c) fun B' γ' σd' c' H' => ∀ σ', Ext B γ H B' γ' H' → Stt K B' γ' c' H' → RepS K B' γ' σd' σ' → wipe σ' vs = wipe σ vs → Q σ' H'
section
variable {X : Cx} {E : XK} {vs : List Nat} {e : Expr} {es : List Expr} {pos : Pos} {mg : MG}
theorem igw_name {i : Nat} {x : Str} (hN : X.N.Nodup) (hi : X.N[i]? = some x) (hx : Loc X.env.scope x) (hm : i ∈ vs) (hf : X.fn x = true ∨ X.env.scope.names.lookup x = some .local := by first | exact .inl rfl | exact .inr rfl | assumption) : PG X (.Name x pos) (tgw X.K E vs (gNm i)) :=
  (pg_name hN hi hx hf).weak fun v σ H Q ⟨B, γ, c, σd, d, s, rs, r, k⟩ => k B γ H (Ext.refl _ _ _) s _ (Ext.refl _ _ _) s (rs.set r) (wipe_set hm)
theorem igsw_nil : PGs X [] (tgsw X.K E vs gsNil) := pgs_nil.weak fun ws σ H Q ⟨B, γ, c, σd, ds, s, rs, r, k⟩ => by
  cases ds with
  | nil => exact ⟨r, k B γ H (Ext.refl _ _ _) s _ (Ext.refl _ _ _) s rs rfl⟩
  | cons d ds => exact k.elim
theorem igsw_cons {gs : List D → Sd → Cs → R Sd} (h1 : PG X e (tgw X.K E vs mg)) (h2 : PGs X es (tgsw X.K E vs gs)) (ha : (assignEach (e :: es) X.env).map (·.2) = assign e X.env :: (assignEach es X.env).map (·.2) := by rfl) : PGs X (e :: es) (tgsw X.K E vs (gsCons mg gs)) := by
  refine (pgs_cons h1 h2 ha).weak fun ws σ H Q ⟨B, γ, c, σd, ds, s, rs, r, k⟩ => ?_
  cases ds with
  | nil => exact k.elim
  | cons d ds =>
    obtain ⟨v, w, e1, r1, r2⟩ := r
    refine ⟨v, w, e1, B, γ, c, σd, d, s, rs, r1, cnt_bind k fun σ1 c1 B1 γ1 H1 _ e1 s1 k1 σ' _ _ rs1 hw => ?_⟩
    refine ⟨B1, γ1, c1, σ1, ds, s1, rs1, Reps.mono e1.ex e1.pre _ _ r2, ?_⟩
    exact cnt_imp k1 fun a c2 B2 γ2 H2 e2 s2 k2 σ2 e3 s3 r3 hw2 => k2 σ2 (e1.trans e3) s3 r3 (hw2.trans hw)
theorem igw_tup {k0 : Nat} {gs : List D → Sd → Cs → R Sd} {n : Nat} (hc : X.calm = true) (h : PGs X es (tgsw X.K E vs gs))
    (hn : (assignEach es X.env).length = n := by rfl) (hst : (assignEach es X.env).findIdx? (·.1) = none := by rfl) : PG X (.Tuple es k0 pos) (tgw X.K E vs (gTp n gs)) := by
  refine (pg_tup hc h hn hst).weak fun v σ H Q ⟨B, γ, c, σd, d, s, rs, r, k⟩ => ?_
  cases d with
  | tup ds =>
    obtain ⟨a, vs, e1, h1, h2⟩ := r
    by_cases hl : ds.length = n
    · unfold gTp at k
      simp only [hl, if_true] at k
      exact ⟨a, vs, e1, ex_t s.ex h1.sq, by rw [h2.len]; exact hl, B, γ, c, σd, ds, s, rs, h2, k⟩
    · unfold gTp at k
      simp only [hl, if_false] at k
      exact k.elim
  | _ => exact k.elim
end
/-! ### tests of a clause -/
def tYesD : MT := fun _ c => .ok true c
abbrev ITs (X : Cx) (E : XK) (ifs : List Expr) (t : MT) : Prop := PTs X ifs (tt X.K E t)
theorem _root_.L2.PTs.weak {X : Cx} {e : List Expr} {t t' : TT} (h : PTs X e t) (w : ∀ σ H Q, t' σ H Q → t σ H Q) : PTs X e t' := ⟨fun pins s σ H Q I q => h.run pins s σ H Q I (w σ H Q q)⟩
theorem its_nil {X : Cx} {E : XK} : ITs X E [] tYesD := pts_nil.weak fun σ H Q ⟨B, γ, c, σd, s, rs, k⟩ => k B γ H (Ext.refl _ _ _) s
theorem its_one {X : Cx} {E : XK} {e : Expr} {t : MT} (h : IT X E e t) : ITs X E [e] t := pts_one h
/-! ### list comprehensions -/
def lcL (g : MG) (t : MT) (f : ME) (σ : Sd) : List D → Cs → R (List D)
  | [], c => .ok [] c
  | d :: ds, c => (g d σ c).ne.bind fun σ1 c => (t σ1 c).ne.bind fun b c => if b then (f σ1 c).ne.bind fun x c => (lcL g t f σ ds c).bind fun xs c => .ok (x :: xs) c else lcL g t f σ ds c
def mLc (vs : List Nat) (w : MA) (g : MG) (t : MT) (f : ME) : ME := fun σ c => (w σ c).bind fun ds c => if ds.length ≤ 100000 then (lcL g t f (wipeD σ vs) ds c).bind fun xs c => .ok (.lst xs) c else .bad
/-- two clauses -/
def lcL1 (g : MG) (t : MT) (f : ME) (σ : Sd) (vs1 : List Nat) : List D → Cs → R (List D) := fun ds c => lcL g t f (wipeD σ vs1) ds c
section
variable {K : PySem.W.Frag} {B B' H H' : Hp} {γ γ' : List Addr} {E : XK}
/-- the list that is made stands apart -/
structure Apart (K : PySem.W.Frag) (B : Hp) (γ : List Addr) (c : Cs) (H : Hp) (L : Addr) (acc : List V) : Prop where
  s : Stt K B γ c H
  nb : B L = none
  ng : L ∉ γ
  h : H L = some (.lst acc)
theorem Apart.next {c c' : Cs} {L : Addr} {acc : List V} (a : Apart K B γ c H L acc) (e : Ext B γ H B' γ' H') (s' : Stt K B' γ' c' H') : Apart K B' γ' c' H' L acc := by
  refine ⟨s', ?_, fun z => ?_, e.fr L _ a.h a.nb a.ng⟩
  · cases q : B' L with
    | none => rfl
    | some u =>
      rcases e.fb L (by rw [q]; exact fun z => nomatch z) with z | z
      · exact absurd a.nb z
      · rw [a.h] at z; cases z
  · rcases e.fg L z with y | y
    · exact a.ng y
    · rw [a.h] at y; cases y
theorem Apart.put {c : Cs} {L : Addr} {acc acc' : List V} (a : Apart K B γ c H L acc) : Apart K B γ c (upd H L (.lst acc')) L acc' := by
  have ne : ∀ x, x ∈ γ → x ≠ L := fun x hx z => a.ng (z ▸ hx)
  refine ⟨⟨fun x u e => ?_, a.s.len, a.s.nd, a.s.off, fun i x co hi hc => ?_⟩, a.nb, a.ng, upd_same⟩
  · rw [upd_ne (fun z => by subst z; rw [a.nb] at e; cases e)]
    exact a.s.ex x u e
  · rw [upd_ne (ne x (List.mem_of_getElem? hi))]
    exact a.s.cel i x co hi hc
theorem Apart.new {c : Cs} {L : Addr} (s : Stt K B γ c H) (hL : H L = none) : Apart K B γ c (upd H L (.lst [])) L [] := by
  have ne : ∀ x, x ∈ γ → x ≠ L := fun x hx z => s.alive hx (z ▸ hL)
  have hB : B L = none := fresh_back s.ex hL
  refine ⟨⟨fun x u e => ?_, s.len, s.nd, s.off, fun i x co hi hc => ?_⟩, hB, fun z => ne L z rfl, upd_same⟩
  · rw [upd_ne (fun z => by subst z; rw [hB] at e; cases e)]
    exact s.ex x u e
  · rw [upd_ne (ne x (List.mem_of_getElem? hi))]
    exact s.cel i x co hi hc
/-- at the end it is an object that does not change -/
theorem Apart.done {c : Cs} {L : Addr} {acc : List V} (a : Apart K B γ c H L acc) : Stt K (upd B L (.lst acc)) γ c H ∧ Ex B (upd B L (.lst acc)) := by
  have eB : Ex B (upd B L (.lst acc)) := Ex.new a.nb
  refine ⟨⟨fun x u e => ?_, a.s.len, a.s.nd, fun x hx => by
    rw [upd_ne (fun z => by subst z; exact a.ng hx)]
    exact a.s.off x hx, fun i x co hi hc => RepC.mono eB (List.prefix_refl γ) (a.s.cel i x co hi hc)⟩, eB⟩
  by_cases hx : x = L
  · subst hx; rw [upd_same] at e; cases e; exact a.h
  · rw [upd_ne hx] at e; exact a.s.ex x u e
/-- writing the list is not seen from where it was not -/
theorem Ext.put {B0 H0 : Hp} {γ0 : List Addr} {L : Addr} {o : HO} (f : Ext B0 γ0 H0 B γ H) (hL : H0 L = none) : Ext B0 γ0 H0 B γ (upd H L o) :=
  ⟨f.ex, f.pre, f.fb, f.fg, fun a u h1 h2 h3 => by
    rw [upd_ne (fun z => by subst z; rw [hL] at h1; cases h1)]
    exact f.fr a u h1 h2 h3, fun a h => by
    by_cases ha : a = L
    · subst ha; exact hL
    · rw [upd_ne ha] at h; exact f.al a h⟩
theorem Ext.lay {B0 H0 : Hp} {γ0 : List Addr} {L : Addr} {o : HO} (f : Ext B0 γ0 H0 B γ H) (hL : H0 L = none) (nb : B L = none) : Ext B0 γ0 H0 (upd B L o) γ H :=
  ⟨f.ex.trans (Ex.new nb), f.pre, fun x h => by
    by_cases hx : x = L
    · subst hx; exact .inr hL
    · rw [upd_ne hx] at h; exact f.fb x h, f.fg, f.fr, f.al⟩
end
section
variable {X : Cx} {E : XK} {tg0 elt iter : Expr} {ifs : List Expr} {scope : Scope} {own : List (Str × Nat)} {pos : Pos} {w : MA} {g : MG} {t : MT} {f : ME}
theorem lc_read {vs : List Nat} : ∀ σ H Q, tm X.K E (mLc vs w g t f) σ H Q → tLc (ti X.K E w) (tgw X.K E0 vs g) (tt X.K E0 t) (tm X.K E0 f) vs σ H Q := by
  intro σ H Q ⟨B, γ, c, σd, s, rs, k⟩
  refine ⟨B, γ, c, σd, s, rs, cnt_bind k fun ds c1 B1 γ1 H1 _ e1 s1 k1 J wk L hL => ?_⟩
  by_cases hlen : ds.length ≤ 100000
  rotate_left
  · simp only [hlen, if_false] at k1; exact k1.elim
  simp only [hlen, if_true] at k1
  have rs1 := rs.mono e1.ex e1.pre
  refine ⟨fun i m H2 => m = ds.length - i ∧ i ≤ ds.length ∧ ∃ B2 γ2 c2 acc accD, Apart X.K B2 γ2 c2 H2 L acc ∧ Ext B1 γ1 H1 B2 γ2 H2 ∧ Reps X.K B2 γ2 accD acc ∧ acc.length ≤ i ∧
    lcL g t f (wipeD σd vs) ds c1 = ((lcL g t f (wipeD σd vs) (ds.drop i) c2).bind fun xs c => .ok (accD ++ xs) c),
    ⟨_, rfl, Nat.zero_le _, B1, γ1, c1, [], [], Apart.new s1 hL, (Ext.refl _ _ _).put hL, rfl, Nat.le_refl _, ?_⟩, ?_⟩
  · cases h : lcL g t f (wipeD σd vs) ds c1 <;> simp [List.drop_zero, h, R.bind]
  rintro i m H2 ⟨rfl, hi, B2, γ2, c2, acc, accD, ap, e2, ra, hacc, eq⟩
  obtain ⟨w1, w2⟩ := wk B2 γ2 c2 H2 i e2.ex e2.pre ap.s
  by_cases hl : i < ds.length
  · obtain ⟨g1, g2⟩ := w1 ds[i] (List.getElem?_eq_getElem hl)
    rw [List.drop_eq_getElem_cons hl] at eq
    have nbad : lcL g t f (wipeD σd vs) ds c1 ≠ .bad := fun z => by rw [z] at k1; exact k1.elim
    refine .inr ⟨g1, fun H3 => ∃ m', m' < ds.length - i ∧ (m' = ds.length - (i + 1) ∧ i + 1 ≤ ds.length ∧ ∃ B2 γ2 c2 acc accD, Apart X.K B2 γ2 c2 H3 L acc ∧ Ext B1 γ1 H1 B2 γ2 H3 ∧ Reps X.K B2 γ2 accD acc ∧ acc.length ≤ i + 1 ∧
      lcL g t f (wipeD σd vs) ds c1 = ((lcL g t f (wipeD σd vs) (ds.drop (i + 1)) c2).bind fun xs c => .ok (accD ++ xs) c)), fun H' h => h, fun x H' y => ?_⟩
    obtain ⟨B3, e3, s3, r3⟩ := g2 x H' y
    have ap3 := ap.next e3 s3
    have e13 := e2.trans e3
    refine ⟨B3, γ2, c2, wipeD σd vs, ds[i], s3, (rs1.mono e13.ex e13.pre).wipe vs, r3, ?_⟩
    rw [lcL] at eq
    cases hg : g ds[i] (wipeD σd vs) c2 with
    | exc z cz => rw [hg] at eq; exact absurd eq nbad
    | bad => rw [hg] at eq; exact absurd eq nbad
    | ok σ4 c4 =>
      rw [hg] at eq
      intro B4 γ4 H4 e4 s4 σ' _ _ rs4 hw
      have hw' : wipe σ' vs = wipe σ vs := by rw [hw]; exact wipe_wipe σ vs
      refine ⟨hw', B4, γ4, c4, σ4, s4, rs4, ?_⟩
      have ap4 := ap3.next e4 s4
      cases ht : t σ4 c4 with
      | exc z cz => simp only [R.ne, R.bind, ht] at eq; exact absurd eq nbad
      | bad => simp only [R.ne, R.bind, ht] at eq; exact absurd eq nbad
      | ok b c5 =>
        intro B5 γ5 H5 e5 s5
        have ap5 := ap4.next e5 s5
        have e15 := (e13.trans e4).trans e5
        cases b with
        | false =>
          simp only [R.ne, R.bind, ht, if_false, Bool.false_eq_true] at eq
          show ∃ m', _
          exact ⟨ds.length - (i + 1), by omega, rfl, hl, B5, γ5, c5, acc, accD, ap5, e15, Reps.mono (e3.ex.trans (e4.ex.trans e5.ex)) ((e3.pre.trans e4.pre).trans e5.pre) _ _ ra, by omega, eq⟩
        | true =>
          simp only [R.ne, R.bind, ht, if_true] at eq
          refine ⟨B5, γ5, c5, σ4, s5, rs4.mono e5.ex e5.pre, ?_⟩
          cases hf : f σ4 c5 with
          | exc z cz => simp only [hf] at eq; exact absurd eq nbad
          | bad => simp only [hf] at eq; exact absurd eq nbad
          | ok x6 c6 =>
            simp only [hf] at eq
            intro B6 γ6 H6 e6 s6 v rv
            have ap6 := ap5.next e6 s6
            have e16 := e15.trans e6
            have ra6 := Reps.mono (e3.ex.trans (e4.ex.trans (e5.ex.trans e6.ex))) (((e3.pre.trans e4.pre).trans e5.pre).trans e6.pre) _ _ ra
            refine ⟨acc, ap6.h, Nat.lt_of_le_of_lt hacc (Nat.lt_of_lt_of_le hl (Nat.le_trans hlen (by decide))), ds.length - (i + 1), by omega, rfl, hl, B6, γ6, c6, acc ++ [v], accD ++ [x6], ap6.put, e16.put hL, Reps.app ra6 ⟨v, [], rfl, rv, rfl⟩, by simp; omega, ?_⟩
            rw [eq]
            cases lcL g t f (wipeD σd vs) (ds.drop (i + 1)) c6 <;> simp [R.bind]
  · have hn : ds.drop i = [] := List.drop_eq_nil_of_le (by omega)
    rw [hn] at eq
    simp only [lcL, R.bind, List.append_nil] at eq
    refine .inl ⟨w2 (by omega), ?_⟩
    rw [eq] at k1
    obtain ⟨sd, ed⟩ := ap.done
    exact k1 _ _ _ (e2.lay hL ap.nb) sd _ ⟨L, acc, rfl, upd_same, Reps.mono ed (List.prefix_refl γ2) _ _ ra⟩
abbrev Blk (X : Cx) (scope : Scope) (P : Cx → Prop) : Prop := ∀ (s : Shared) (H : Hp) (C : Addr) (cl : List (Str × Addr)) (fp : List Addr), P (X.blk s H scope (compEnvC scope cl C X.env) fp)
theorem ie_lc (own : List (Str × Nat)) (hc : X.calm = true) (hN : X.N.Nodup) (hi : II X E tg0 iter w) (ok : blkC X.N X.env.scope scope own = true) (hg : Blk X scope fun Y => PG Y tg0 (tgw Y.K E0 (own.map (·.2)) g)) (ht : Blk X scope fun Y => ITs Y E0 ifs t)
    (he : Blk X scope fun Y => IE Y E0 elt f) (hs : ∀ x, foldedSetIterable iter X.env x = pure x := by intro _; rfl) : IE X E (.ListComp elt [⟨tg0, iter, ifs, 0⟩] scope pos) (mLc (own.map (·.2)) w g t f) :=
  (pe_lc hc hN hi (blkOk_by ok) hg ht he hs).weak lc_read
theorem is_setLc {i : Nat} {y : Str} {py spos : Pos} (own : List (Str × Nat)) (hc : X.calm = true) (hN : X.N.Nodup) (hy : X.N[i]? = some y) (hyl : X.env.scope.names.lookup y = some .local) (hk : X.env.scope.kind = .function) (hl : (py.line == pos.line) = true)
    (hsw : (scope.names.any fun (n, k) => n == y && (k == .local || k == .cell)) = false) (hi : II X E tg0 iter w) (ok : blkC X.N X.env.scope scope own = true) (hg : Blk X scope fun Y => PG Y tg0 (tgw Y.K E0 (own.map (·.2)) g)) (ht : Blk X scope fun Y => ITs Y E0 ifs t)
    (he : Blk X scope fun Y => IE Y E0 elt f) (hs : ∀ x, foldedSetIterable iter X.env x = pure x := by intro _; rfl) : IS X E (.Assign [.Name y py] (.ListComp elt [⟨tg0, iter, ifs, 0⟩] scope pos) spos) (sAsg (mLc (own.map (·.2)) w g t f) (gNm i)) := by
  refine (ps_setLc (g := tgw X.K E0 (own.map (·.2)) g) (tt := tt X.K E0 t) (te := tm X.K E0 f) hc hN hy hyl (sw_true hk hyl hl hsw) hi (blkOk_by ok) hg ht he hs).weak fun De σ H ⟨B, γ, c, σd, s, rs, k⟩ => ?_
  refine lc_read (E := E) (w := w) (g := g) (t := t) (f := f) σ H _ ⟨B, γ, c, σd, s, rs, cntS_bind k fun d c1 B1 γ1 H1 _ e1 s1 k1 vx rx => ?_⟩
  exact k1 B1 γ1 H1 _ (Ext.refl _ _ _) s1 ((rs.mono e1.ex e1.pre).set rx)
end
end T

set_option linter.all false
set_option maxRecDepth 100000
set_option maxHeartbeats 4000000
/-! Defs: what they promise, how they are called. -/
namespace T
open PySem L2 Evl

def startD (n : Nat) (ds : List D) : Sd := ds.map some ++ List.replicate (n - ds.length) none
/-- a body as a function: what it made and holds on to stays in cells -/
def callB (n : Nat) (fb : MS) : List D → Cs → R D := fun ds c => match fb (startD n ds) c with
  | .rt v c' => .ok v c'
  | .nx _ c' => .ok .non c'
  | .exc e c' => .exc e c'
  | _ => .bad
def optM (f : D → Option D) : List D → Option (List D)
  | [] => some []
  | d :: ds => match f d, optM f ds with
    | some a, some b => some (a :: b)
    | _, _ => none
/-- the cells from n on are resolved -/
def res (c : Cs) (n : Nat) : Nat → D → Option D
  | 0, _ => none
  | k + 1, .lst ds => (optM (res c n k) ds).map .lst
  | k + 1, .sl ds => (optM (res c n k) ds).map .sl
  | k + 1, .tup ds => (optM (res c n k) ds).map .tup
  | k + 1, .cell i => if i < n then some (.cell i) else match c[i]? with
    | some (.lst ds) => (optM (res c n k) ds).map .lst
    | none => none
  | _ + 1, .non => some .non
  | _ + 1, .bl b => some (.bl b)
  | _ + 1, .int i => some (.int i)
  | _ + 1, .str x => some (.str x)
  | _ + 1, .ty t => some (.ty t)
def resC (c : Cs) (n : Nat) : Cs → Option Cs
  | [] => some []
  | .lst ds :: r => match optM (res c n 20) ds, resC c n r with
    | some a, some b => some (.lst a :: b)
    | _, _ => none
def fin (n : Nat) (v : D) (c : Cs) : R D := match res c n 20 v, resC c n (c.take n) with
  | some v', some c' => .ok v' c'
  | _, _ => .bad
/-- .. its own cells don't outlive it -/
def callZ (n : Nat) (fb : MS) : List D → Cs → R D := fun ds c => match fb (startD n ds) c with
  | .rt v c' => fin c.length v c'
  | .nx _ c' => fin c.length .non c'
  | _ => .bad
def spI (K : PySem.W.Frag) (n : Nat) (F : List D → Cs → R D) : Sp := fun vs H Q E => vs.length = n ∧ ∃ B γ c ds, Stt K B γ c H ∧ Reps K B γ ds vs ∧ Cont K E0 B γ H (F ds c).ne Q
theorem cont_ne {K : PySem.W.Frag} {B H : Hp} {γ : List Addr} {E E' : XK} {r : R D} {Q : VK} (h : Cont K E B γ H r.ne Q) : Cont K E' B γ H r.ne Q := by
  cases r with
  | ok d c => exact h
  | exc e c => exact h
  | bad => exact h
section
variable {K : PySem.W.Frag} {B H : Hp} {γ : List Addr}
theorem RepS.start {N : List Str} : ∀ {ds : List D} {vs : List V}, Reps K B γ ds vs → RepS K B γ (startD N.length ds) (L2.start N vs) := by
  intro ds vs r
  refine ⟨?_, fun i d q => ?_⟩
  · unfold startD L2.start
    simp [r.len]
  · unfold startD at q
    unfold L2.start
    by_cases hi : i < ds.length
    · rw [List.getElem?_append_left (by simpa using hi), List.getElem?_map] at q
      cases h : ds[i]? with
      | none => rw [h] at q; cases q
      | some d' =>
        rw [h] at q
        cases q
        obtain ⟨v, hv, rv⟩ := r.get h
        refine ⟨v, ?_, rv⟩
        rw [List.getElem?_append_left (by rw [List.length_map, r.len]; exact hi), List.getElem?_map, hv]
        rfl
    · rw [List.getElem?_append_right (by simpa using hi), List.getElem?_replicate] at q
      split at q <;> cases q
/-- the cells from n on become objects that don't change -/
def ice (B : Hp) (γ : List Addr) (H : Hp) (n : Nat) : Hp := fun a => if a ∈ γ.drop n then H a else B a
theorem ice_ex {c : Cs} (s : Stt K B γ c H) (n : Nat) : Ex B (ice B γ H n) := fun a o h => by
  unfold ice
  rw [if_neg fun z => by rw [s.off a (List.mem_of_mem_drop z)] at h; cases h]
  exact h
theorem optM_rep {f : D → Option D} {B2 : Hp} {γ2 : List Addr} (hf : ∀ d d' v, f d = some d' → Rep K B γ d v → Rep K B2 γ2 d' v) : ∀ (ds ds' : List D) (vs : List V), optM f ds = some ds' → Reps K B γ ds vs → Reps K B2 γ2 ds' vs
  | [], ds', vs, h, r => by
    cases h
    exact r
  | d :: ds, ds', vs, h, r => by
    obtain ⟨v, w, e1, r1, r2⟩ := r
    unfold optM at h
    cases h1 : f d with
    | none => rw [h1] at h; cases h
    | some a =>
      cases h2 : optM f ds with
      | none => rw [h1, h2] at h; cases h
      | some b =>
        rw [h1, h2] at h
        cases h
        exact ⟨v, w, e1, hf d a v h1 r1, optM_rep hf ds b w h2 r2⟩
theorem map_some {α β : Type} {o : Option α} {f : α → β} {b : β} (h : o.map f = some b) : ∃ a, o = some a ∧ b = f a := by
  cases o with
  | none => cases h
  | some a => exact ⟨a, rfl, (Option.some.inj h).symm⟩
theorem take_get {l : List Addr} {n i : Nat} {a : Addr} (h : l[i]? = some a) (hi : i < n) : (l.take n)[i]? = some a := by
  rw [List.getElem?_take_of_lt hi]; exact h
theorem drop_mem {l : List Addr} {n i : Nat} {a : Addr} (h : l[i]? = some a) (hi : n ≤ i) : a ∈ l.drop n := by
  refine List.mem_of_getElem? (i := i - n) ?_
  rw [List.getElem?_drop, show n + (i - n) = i by omega]
  exact h
theorem res_rep {c : Cs} (s : Stt K B γ c H) (n : Nat) : ∀ (k : Nat) (d d' : D) (v : V), res c n k d = some d' → Rep K B γ d v → Rep K (ice B γ H n) (γ.take n) d' v
  | 0, _, _, _, h, _ => by cases h
  | k + 1, .lst ds, d', v, h, r => by
    obtain ⟨ds', h1, rfl⟩ := map_some h
    obtain ⟨a, vs, e, hb, hr⟩ := r
    exact ⟨a, vs, e, ice_ex s n _ _ hb, optM_rep (res_rep s n k) ds ds' vs h1 hr⟩
  | k + 1, .sl ds, d', v, h, r => by
    obtain ⟨ds', h1, rfl⟩ := map_some h
    obtain ⟨a, vs, e, hb, hr⟩ := r
    exact ⟨a, vs, e, ex_l (ice_ex s n) hb, optM_rep (res_rep s n k) ds ds' vs h1 hr⟩
  | k + 1, .tup ds, d', v, h, r => by
    obtain ⟨ds', h1, rfl⟩ := map_some h
    obtain ⟨a, vs, e, hb, hr⟩ := r
    exact ⟨a, vs, e, TupAt.mono (ice_ex s n) hb, optM_rep (res_rep s n k) ds ds' vs h1 hr⟩
  | k + 1, .cell i, d', v, h, r => by
    obtain ⟨a, e, hg⟩ := r
    unfold res at h
    by_cases hi : i < n
    · rw [if_pos hi] at h
      cases h
      exact ⟨a, e, take_get hg hi⟩
    · rw [if_neg hi] at h
      cases hc : c[i]? with
      | none => rw [hc] at h; cases h
      | some co =>
        cases co with
        | lst ds =>
          rw [hc] at h
          obtain ⟨ds', h1, rfl⟩ := map_some h
          obtain ⟨vs, hv, hr⟩ := s.cel i a _ hg hc
          refine ⟨a, vs, e, ?_, optM_rep (res_rep s n k) ds ds' vs h1 hr⟩
          unfold ice
          rw [if_pos (drop_mem hg (by omega))]
          exact hv
  | k + 1, .non, d', v, h, r => by cases h; exact r
  | k + 1, .bl b, d', v, h, r => by cases h; exact r
  | k + 1, .int i, d', v, h, r => by cases h; exact r
  | k + 1, .str x, d', v, h, r => by cases h; exact r
  | k + 1, .ty t, d', v, h, r => by cases h; exact r
theorem resC_get {c : Cs} {n : Nat} : ∀ {l l' : Cs} {i : Nat} {o' : CO}, resC c n l = some l' → l'[i]? = some o' → ∃ ds ds', l[i]? = some (.lst ds) ∧ o' = .lst ds' ∧ optM (res c n 20) ds = some ds'
  | [], l', i, o', h, q => by cases h; simp at q
  | .lst ds :: r, l', i, o', h, q => by
    unfold resC at h
    cases h1 : optM (res c n 20) ds with
    | none => rw [h1] at h; cases h
    | some a =>
      cases h2 : resC c n r with
      | none => rw [h1, h2] at h; cases h
      | some b =>
        rw [h1, h2] at h
        cases h
        cases i with
        | zero => simp at q; exact ⟨ds, a, rfl, q.symm, h1⟩
        | succ i =>
          obtain ⟨x, y, e1, e2, e3⟩ := resC_get (i := i) h2 (by simpa using q)
          exact ⟨x, y, by simpa using e1, e2, e3⟩
theorem resC_len {c : Cs} {n : Nat} : ∀ {l l' : Cs}, resC c n l = some l' → l'.length = l.length
  | [], l', h => by cases h; rfl
  | .lst ds :: r, l', h => by
    unfold resC at h
    cases h1 : optM (res c n 20) ds with
    | none => rw [h1] at h; cases h
    | some a =>
      cases h2 : resC c n r with
      | none => rw [h1, h2] at h; cases h
      | some b =>
        rw [h1, h2] at h
        cases h
        simp [resC_len h2]
theorem fin_cont {E : XK} {B0 H0 : Hp} {γ0 : List Addr} {c0 c : Cs} {v : D} {Q : VK} (s0 : Stt K B0 γ0 c0 H0) (k : Cont K E B0 γ0 H0 (fin c0.length v c) Q) (e : Ext B0 γ0 H0 B γ H) (s : Stt K B γ c H) {w : V} (r : Rep K B γ v w) : Q w H := by
  unfold fin at k
  cases h1 : res c c0.length 20 v with
  | none => rw [h1] at k; exact k.elim
  | some v' =>
    cases h2 : resC c c0.length (c.take c0.length) with
    | none => rw [h1, h2] at k; exact k.elim
    | some c' =>
      rw [h1, h2] at k
      have hn : γ0.length = c0.length := s0.len
      have hγ : γ.take c0.length = γ0 := by
        obtain ⟨t, ht⟩ := e.pre
        rw [← ht, ← hn]
        simp
      have nin : ∀ a, a ∈ γ.drop c0.length → a ∉ γ0 := fun a ha hb => by
        have := s.nd
        rw [← List.take_append_drop c0.length γ] at this
        exact (List.nodup_append.mp this).2.2 a (by rw [hγ]; exact hb) a ha rfl
      refine k (ice B γ H c0.length) γ0 H ⟨e.ex.trans (ice_ex s _), List.prefix_refl _, fun a ha => ?_, fun a ha => .inl ha, e.fr, e.al⟩ ⟨fun a o q => ?_, ?_, s0.nd, fun a ha => ?_, fun i a o hi ho => ?_⟩ w ?_
      · unfold ice at ha
        by_cases hd : a ∈ γ.drop c0.length
        · rcases e.fg a (List.mem_of_mem_drop hd) with z | z
          · exact absurd z (nin a hd)
          · exact .inr z
        · rw [if_neg hd] at ha; exact e.fb a ha
      · unfold ice at q
        split at q
        · exact q
        · exact s.ex a o q
      · rw [resC_len h2, List.length_take, hn, ← s.len]
        have := e.pre.length_le
        rw [hn] at this
        omega
      · unfold ice
        rw [if_neg fun z => nin a z ha]
        rw [← hγ] at ha
        exact s.off a (List.mem_of_mem_take ha)
      · obtain ⟨ds, ds', q1, rfl, q3⟩ := resC_get h2 ho
        have hi' : γ[i]? = some a := by
          have hl : i < γ0.length := (List.getElem?_eq_some_iff.mp hi).1
          rw [← hγ] at hi
          rw [List.getElem?_take_of_lt (by rw [← hn]; exact hl)] at hi
          exact hi
        have hc : c[i]? = some (.lst ds) := by
          have hl : i < c0.length := by rw [← hn]; exact (List.getElem?_eq_some_iff.mp hi).1
          rw [List.getElem?_take_of_lt hl] at q1
          exact q1
        obtain ⟨vs, hv, hr⟩ := s.cel i a _ hi' hc
        refine ⟨vs, hv, ?_⟩
        have := optM_rep (res_rep s c0.length 20) ds ds' vs q3 hr
        rw [hγ] at this
        exact this
      · have := res_rep s c0.length 20 v v' w h1 r
        rw [hγ] at this
        exact this
end
section
variable {P : Program} {w : World} {K : PySem.W.Frag} {mg : Str → Option Value} {base : Heap} {x qual : Str} {st : Stmt} {f : Addr} {fd : FuncData} {N ps : List Str} {k : Nat} {fb : MS}
/-- a def that nothing leaves, by its body -/
theorem callB_read {K : PySem.W.Frag} {n m : Nat} {vs : List V} {H : Hp} {Q : VK} {E : XK} (h : spI K m (callB n fb) vs H Q E) {N : List Str} (hN : N.length = n) : ts K E0 fb { nx := fun _ H' => Q .non H', rt := Q } (L2.start N vs) H := by
  obtain ⟨_, B, γ, c, ds, s, r, k⟩ := h
  subst hN
  refine ⟨B, γ, c, startD N.length ds, s, RepS.start r, ?_⟩
  unfold callB at k
  cases hf : fb (startD N.length ds) c with
  | nx σ c' => rw [hf] at k; exact fun B' γ' H' σ' e' s' _ => k B' γ' H' e' s' .non rfl
  | rt v c' => rw [hf] at k; exact fun B' γ' H' v' e' s' rv => k B' γ' H' e' s' v' rv
  | bk σ c' => rw [hf] at k; exact k.elim
  | ct σ c' => rw [hf] at k; exact k.elim
  | exc z c' => rw [hf] at k; exact k.elim
  | bad => rw [hf] at k; exact k.elim
theorem callZ_read {K : PySem.W.Frag} {n m : Nat} {vs : List V} {H : Hp} {Q : VK} {E : XK} (h : spI K m (callZ n fb) vs H Q E) {N : List Str} (hN : N.length = n) : ts K E0 fb { nx := fun _ H' => Q .non H', rt := Q } (L2.start N vs) H := by
  obtain ⟨_, B, γ, c, ds, s, r, k⟩ := h
  subst hN
  refine ⟨B, γ, c, startD N.length ds, s, RepS.start r, ?_⟩
  unfold callZ at k
  have fk : ∀ v c', Cont K E0 B γ H (fin c.length v c').ne Q → Cont K E0 B γ H (fin c.length v c') Q := fun v c' h => by
    unfold fin at h ⊢
    split at h
    · exact h
    · exact h.elim
  cases hf : fb (startD N.length ds) c with
  | nx σ c' => rw [hf] at k; exact fun B' γ' H' σ' e' s' _ => fin_cont s (fk _ _ k) e' s' rfl
  | rt v c' => rw [hf] at k; exact fun B' γ' H' v' e' s' rv => fin_cont s (fk _ _ k) e' s' rv
  | bk σ c' => rw [hf] at k; exact k.elim
  | ct σ c' => rw [hf] at k; exact k.elim
  | exc z c' => rw [hf] at k; exact k.elim
  | bad => rw [hf] at k; exact k.elim
/-- the context of a def's body -/
abbrev Body (P : Program) (w : World) (K : PySem.W.Frag) (mg : Str → Option Value) (base : Heap) (N : List Str) (qual : Str) (st : Stmt) (f : Addr) (k : Nat) (T : Cx → Prop) : Prop :=
  ∀ (cdv : Value) (A : Around) (outer : List Env) (s : Shared) (H : Hp) (E : XK), Room k (A.deeper (PyProof.Rows.envOfC qual (defScope st) s.heap.objs.size f cdv)) → T (cxOf CX0 P w K mg base N qual (defScope st) f cdv A outer s H E).nox
variable {dvs : List V} {kws : List (Str × V)}
theorem fn_B {n : Nat} (F : FunD K x qual (defArgs st) (defBody st) (defScope st) dvs kws f fd) (S : FnScope N ps (defScope st)) (hN : N.length = n) (hb : Body P w K mg base N qual st f k fun Y => ISs Y E0 (defBody st) fb) : FnOk P w K mg base CX0 (k + 1) f fd ps (spI K ps.length (callB n fb)) :=
  F.ok S (fun vs H Q E h => h.1) fun cdv A outer s H vs Q E hr h => ⟨_, PSs.nox (hb cdv A outer s H E hr), callB_read (K := K) h hN⟩
theorem fn_Z {n : Nat} (F : FunD K x qual (defArgs st) (defBody st) (defScope st) dvs kws f fd) (S : FnScope N ps (defScope st)) (hN : N.length = n) (hb : Body P w K mg base N qual st f k fun Y => ISs Y E0 (defBody st) fb) : FnOk P w K mg base CX0 (k + 1) f fd ps (spI K ps.length (callZ n fb)) :=
  F.ok S (fun vs H Q E h => h.1) fun cdv A outer s H vs Q E hr h => ⟨_, PSs.nox (hb cdv A outer s H E hr), callZ_read (K := K) h hN⟩
/-- another function that agrees with it where it says anything -/
def Le (F G : List D → Cs → R D) : Prop := ∀ ds c d c', F ds c = .ok d c' → G ds c = .ok d c'
theorem fn_le {n : Nat} {F G : List D → Cs → R D} (h : FnOk P w K mg base CX0 k f fd ps (spI K n G)) (le : Le F G) : FnOk P w K mg base CX0 k f fd ps (spI K n F) := h.imp fun vs H Q E ⟨hl, B, γ, c, ds, s, r, k⟩ => by
  refine ⟨hl, B, γ, c, ds, s, r, ?_⟩
  cases hF : F ds c with
  | ok d c' => rw [hF] at k; rw [le ds c d c' hF]; exact k
  | exc e c' => rw [hF] at k; exact k.elim
  | bad => rw [hF] at k; exact k.elim
end
/-- the promise that nothing leaves -/
def mFn (n : Nat) (F : List D → Cs → R D) (dds : List D) (fs : MA) : ME := mCall (fun ds c => if (ds ++ dds).length = n then (F (ds ++ dds) c).ne else .bad) fs
def aApp (f g : MA) : MA := fun σ c => (f σ c).bind fun ds c => (g σ c).bind fun es c => .ok (ds ++ es) c
section
variable {X : Cx} {E : XK} {k : Nat} {f : Addr} {fd : FuncData} {ps : List Str} {x : Str} {p pos : Pos} {e : Expr} {es : List Expr} {fs : MA} {F : List D → Cs → R D} {dds : List D} {dvs : List V} {ds : List Value}
/-- f(e, ..) -/
theorem ie_fn {n : Nat} (G : FnOk X.prog X.w X.K X.mg X.base CX0 k f fd ps (spI X.K n F)) (hr : Room k X.A) (hg : Gl X x) (hm : X.mg x = some (.ref f)) (hk : PySem.W.keepIn X.K (.ref f) = true) (hb : Binds X.K fd ps ds) (hd : Vals dvs ds) (hdd : ∀ B γ, Reps X.K B γ dds dvs)
    (ha : IA X E (e :: es) fs) (hdb : (x == ("__debug__" : Str)) = false := by decide) (he : starEach (e :: es) X.env = (false, eval e X.env) :: starEach es X.env := by rfl) (hpl : (backTo pos (starEach es X.env)).any (·.1) = false := by rfl) :
    IE X E (.Call (.Name x p) (e :: es) [] pos) (mFn n F dds fs) := by
  refine (pe_call G hr hg hm hk hb hd (pass0 (X := X)) ha hdb he hpl).weak fun σ H Q ⟨B, γ, c, σd, s, rs, k⟩ => ?_
  refine ⟨B, γ, c, σd, s, rs, cnt_bind k fun xs c1 B1 γ1 H1 _ e1 s1 k1 vs rv => ?_⟩
  by_cases hl : (xs ++ dds).length = n
  · simp only [hl, if_true] at k1
    have r2 := Reps.app rv (hdd B1 γ1)
    refine ⟨by rw [r2.len]; exact hl, B1, γ1, c1, _, s1, r2, ?_⟩
    exact cont_ne k1
  · simp only [hl, if_false] at k1
    exact k1.elim
theorem ie_fn0 {n : Nat} (G : FnOk X.prog X.w X.K X.mg X.base CX0 k f fd ps (spI X.K n F)) (hr : Room k X.A) (hg : Gl X x) (hm : X.mg x = some (.ref f)) (hk : PySem.W.keepIn X.K (.ref f) = true) (hb : Binds X.K fd ps ds) (hd : Vals dvs ds) (hdd : ∀ B γ, Reps X.K B γ dds dvs)
    (hdb : (x == ("__debug__" : Str)) = false := by decide) : IE X E (.Call (.Name x p) [] [] pos) (mFn n F dds aNil) := by
  refine (pe_call0 G hr hg hm hk hb hd (pass0 (X := X)) hdb).weak fun σ H Q ⟨B, γ, c, σd, s, rs, k⟩ => ?_
  show spI X.K n F ([] ++ dvs) H Q E0
  have k1 : Cont X.K E B γ H (if ([] ++ dds).length = n then (F ([] ++ dds) c).ne else .bad) Q := k
  by_cases hl : ([] ++ dds).length = n
  · simp only [hl, if_true] at k1
    have r2 := Reps.app (ds := []) (vs := []) rfl (hdd B γ)
    exact ⟨by rw [r2.len]; exact hl, B, γ, c, _, s, r2, cont_ne k1⟩
  · simp only [hl, if_false] at k1
    exact k1.elim
/-! keywords -/
abbrev IK (X : Cx) (E : XK) (kws : List Keyword) (f : MA) : Prop := PK X kws (tas X.K E f)
theorem _root_.L2.PK.weak {X : Cx} {e : List Keyword} {t t' : TA} (h : PK X e t) (w : ∀ σ H Q, t' σ H Q → t σ H Q) : PK X e t' := ⟨fun pos pins s σ H Q I q => h.run pos pins s σ H Q I (w σ H Q q)⟩
theorem ik_nil : IK X E [] aNil := pk_nil.weak fun σ H Q ⟨B, γ, c, σd, s, rs, k⟩ => k B γ H (Ext.refl _ _ _) s [] rfl
theorem ik_cons {nm : Option Str} {kpos : Pos} {kws : List Keyword} {f : ME} (h1 : IE X E e f) (h2 : IK X E kws fs) : IK X E (⟨nm, e, kpos⟩ :: kws) (aCons f fs) := (pk_cons h1 h2).weak fun σ H Q ⟨B, γ, c, σd, s, rs, k⟩ => by
  refine ⟨B, γ, c, σd, s, rs, cnt_bind k fun x c1 B1 γ1 H1 _ e1 s1 k1 vx rx => ?_⟩
  refine ⟨B1, γ1, c1, σd, s1, rs.mono e1.ex e1.pre, cnt_bind k1 fun xs c2 B2 γ2 H2 _ e2 s2 k2 vs rv => ?_⟩
  exact k2 B2 γ2 H2 (Ext.refl _ _ _) s2 (vx :: vs) ⟨vx, vs, rfl, Rep.mono e2.ex e2.pre _ _ rx, rv⟩
/-- f(k = v, ..): keywords alone; gV puts their values in the parameters' order -/
theorem pe_callK0 {CX : CXT} {n : Nat} {sp : Sp} {ks : List Str} {kws : List Keyword} {tk : TA} {g : List Value → List Value → List Value} {gV : List V → List V → List V} {EE : XK} (G : FnOk X.prog X.w X.K X.mg X.base CX k f fd ps sp) (hr : Room k X.A) (hg : Gl X x) (hm : X.mg x = some (.ref f)) (hk : PySem.W.keepIn X.K (.ref f) = true) (hb : KBn X.K fd ps 0 ks g gV) (hx : Passes CX X EE)
    (hkw : PK X kws tk) (hall : (backToKw pos (keywordEach kws X.env)).all (·.1.isSome) = true := by rfl) (hks : (backToKw pos (keywordEach kws X.env)).filterMap (·.1) = ks := by rfl)
    (hdb : (x == ("__debug__" : Str)) = false := by decide)
    (hpl : ((backTo pos (starEach [] X.env)).any (·.1) || (backToKw pos (keywordEach kws X.env)).any (·.1.isNone)) = false := by rfl) :
    PE X (.Call (.Name x p) [] kws pos) (fun σ H Q => tk σ H fun zs H2 => zs.length = ks.length ∧ sp (gV [] zs) H2 Q EE) := by
  refine ⟨fun pins s σ H Q I h => ?_⟩
  refine wpAny_Call_Name_kw (ld_glob I hg hm ?_ hdb)
  refine PySem.W.callWith_KW0 (h₀ := X.base) I.ok.mod.kin hk hall (thn (hkw.run pos pins s σ H _ I h) fun ws s2 ⟨zs, H2, I2, rz, l2, q2⟩ => ⟨I2.kIn, ?_⟩) hpl
  rw [hks]
  exact run_fnN (us := []) (vs := []) G hr hb hx I2 .nil rz rfl l2 q2
theorem ie_fnK0 {n m : Nat} {ks : List Str} {kws : List Keyword} {g : List Value → List Value → List Value} {gV : List V → List V → List V} {gD : List D → List D} (G : FnOk X.prog X.w X.K X.mg X.base CX0 k f fd ps (spI X.K n F)) (hr : Room k X.A) (hg : Gl X x) (hm : X.mg x = some (.ref f)) (hk : PySem.W.keepIn X.K (.ref f) = true) (hb : KBn X.K fd ps 0 ks g gV)
    (hm2 : ks.length = m) (hgD : ∀ B γ ds vs, ds.length = m → Reps X.K B γ ds vs → Reps X.K B γ (gD ds) (gV [] vs)) (hkw : IK X E kws fs) (hall : (backToKw pos (keywordEach kws X.env)).all (·.1.isSome) = true := by rfl) (hks : (backToKw pos (keywordEach kws X.env)).filterMap (·.1) = ks := by rfl)
    (hdb : (x == ("__debug__" : Str)) = false := by decide)
    (hpl : ((backTo pos (starEach [] X.env)).any (·.1) || (backToKw pos (keywordEach kws X.env)).any (·.1.isNone)) = false := by rfl) :
    IE X E (.Call (.Name x p) [] kws pos) (mCall (fun ds c => if ds.length = m ∧ (gD ds).length = n then (F (gD ds) c).ne else .bad) fs) := by
  refine (pe_callK0 (n := n) G hr hg hm hk hb (pass0 (X := X)) hkw hall hks hdb hpl).weak fun σ H Q ⟨B, γ, c, σd, s, rs, k⟩ => ?_
  refine ⟨B, γ, c, σd, s, rs, cnt_bind k fun xs c1 B1 γ1 H1 _ e1 s1 k1 vs rv => ?_⟩
  by_cases hl : xs.length = m ∧ (gD xs).length = n
  · have k2 : Cont X.K E B1 γ1 H1 (F (gD xs) c1).ne Q := by
      have : Cont X.K E B1 γ1 H1 (if xs.length = m ∧ (gD xs).length = n then (F (gD xs) c1).ne else .bad) Q := k1
      rwa [if_pos hl] at this
    have r2 := hgD B1 γ1 xs vs hl.1 rv
    exact ⟨by rw [rv.len, hm2]; exact hl.1, by rw [r2.len]; exact hl.2, B1, γ1, c1, _, s1, r2, cont_ne k2⟩
  · have : Cont X.K E B1 γ1 H1 (if xs.length = m ∧ (gD xs).length = n then (F (gD xs) c1).ne else .bad) Q := k1
    rw [if_neg hl] at this
    exact this.elim
end
end T

set_option linter.all false
set_option maxRecDepth 100000
set_option maxHeartbeats 4000000
/-! What operators and built-ins compute on trees. -/
namespace T
open PySem L2 Evl

/-! ### numbers -/
def gAdd : D → D → Cs → R D
  | .int i, .int j, c => .ok (.int (i + j)) c
  | .str x, .str y, c => if x.length + y.length ≤ 1000000 then .ok (.str (x ++ y)) c else .bad
  | .lst x, .lst y, c => if x.length + y.length ≤ 1000000 then .ok (.lst (x ++ y)) c else .bad
  | _, _, _ => .bad
def gSub : D → D → Cs → R D
  | .int i, .int j, c => .ok (.int (i - j)) c
  | _, _, _ => .bad
def small (i : Int) : Bool := decide (-1000000000000000000 ≤ i) && decide (i ≤ 1000000000000000000)
def gMul : D → D → Cs → R D
  | .int i, .int j, c => if (small i || small j) = true then .ok (.int (i * j)) c else .bad
  | .lst x, .int k, c => if -1000 ≤ k ∧ k ≤ 1000 ∧ x.length ≤ 1000 then .ok (.lst (List.replicate k.toNat x).flatten) c else .bad
  | _, _, _ => .bad
def gFdiv : D → D → Cs → R D
  | .int i, .int j, c => if j ≠ 0 ∧ j.natAbs < 1073741824 then .ok (.int (i.fdiv j)) c else .bad
  | _, _, _ => .bad
def gMod : D → D → Cs → R D
  | .int i, .int j, c => if j ≠ 0 then .ok (.int (i.fmod j)) c else .bad
  | _, _, _ => .bad
def gPow : D → D → Cs → R D
  | .int i, .int j, c => if 0 ≤ j ∧ j ≤ 100 ∧ small i = true then .ok (.int (i ^ j.toNat)) c else .bad
  | _, _, _ => .bad
def gInt (p : Int → Int → Bool) : D → D → Cs → R D
  | .int i, .int j, c => .ok (.bl (p i j)) c
  | _, _, _ => .bad
abbrev gLt := gInt fun i j => decide (i < j)
abbrev gLe := gInt fun i j => decide (i ≤ j)
abbrev gGt := gInt fun i j => decide (j < i)
abbrev gGe := gInt fun i j => decide (j ≤ i)
def isNonD : D → Bool
  | .non => true
  | _ => false
def gIsN : D → D → Cs → R D := fun a b c => if isNonD b then .ok (.bl (isNonD a)) c else .bad
def gNotN : D → D → Cs → R D := fun a b c => if isNonD b then .ok (.bl (!isNonD a)) c else .bad
section
variable {K : PySem.W.Frag} {E : XK}
theorem small_b {i : Int} (h : small i = true) : -(2 ^ 64) < i ∧ i < 2 ^ 64 := by
  unfold small at h
  simp only [Bool.and_eq_true, decide_eq_true_eq] at h
  omega
theorem sz6 {n : Nat} (h : n ≤ 1000000) : n ≤ sizeLine := Nat.le_trans h (by decide)
theorem Reps.flat {B : Hp} {γ : List Addr} {ds : List D} {vs : List V} (r : Reps K B γ ds vs) : ∀ n : Nat, Reps K B γ (List.replicate n ds).flatten (List.replicate n vs).flatten
  | 0 => rfl
  | n + 1 => by
    rw [List.replicate_succ, List.replicate_succ, List.flatten_cons, List.flatten_cons]
    exact Reps.app r (Reps.flat r n)
abbrev rStrAdd : R2 := fun x y H Q => ∃ i j, x = .str i ∧ y = .str j ∧ i.length + j.length ≤ sizeLine ∧ Q (.str (i ++ j)) H
abbrev rAdds : R2 := fun x y H Q => rI0 (fun i j => .int (i + j)) x y H Q ∨ rStrAdd x y H Q ∨ rCat x y H Q
theorem op_adds {X : Cx} : OpR X (binaryOp .Add) rAdds := op_add.or (op_add_str.or op_cat)
theorem sim_add : Sim2 K E rAdds gAdd := by
  intro B γ c H dx dy x y Q s rx ry k
  cases dx with
  | int i =>
    cases dy with
    | int j => exact .inl ⟨i, j, rx, ry, cont_ok s k rfl⟩
    | _ => exact k.elim
  | str i =>
    cases dy with
    | str j =>
      have k' : Cont K E B γ H (if i.length + j.length ≤ 1000000 then .ok (.str (i ++ j)) c else .bad) Q := k
      by_cases h : i.length + j.length ≤ 1000000
      · rw [if_pos h] at k'
        exact .inr (.inl ⟨i, j, rx, ry, sz6 h, cont_ok s k' rfl⟩)
      · rw [if_neg h] at k'; exact k'.elim
    | _ => exact k.elim
  | lst i =>
    cases dy with
    | lst j =>
      have k' : Cont K E B γ H (if i.length + j.length ≤ 1000000 then .ok (.lst (i ++ j)) c else .bad) Q := k
      by_cases h : i.length + j.length ≤ 1000000
      · rw [if_pos h] at k'
        obtain ⟨a, vs, rfl, h1, h2⟩ := rx
        obtain ⟨b, ws, rfl, h3, h4⟩ := ry
        refine .inr (.inr ⟨a, b, vs, ws, rfl, rfl, s.ex _ _ h1, s.ex _ _ h3, by rw [h2.len, h4.len]; exact sz6 h, fun p hp => ?_⟩)
        obtain ⟨s2, e2⟩ := s.new (o := .lst (vs ++ ws)) hp
        exact k' _ _ _ e2 s2 _ ⟨p, _, rfl, upd_same, Reps.mono e2.ex e2.pre _ _ (Reps.app h2 h4)⟩
      · rw [if_neg h] at k'; exact k'.elim
    | _ => exact k.elim
  | _ => exact k.elim
theorem sim_int {g : Int → Int → D} {gv : Int → Int → V} {gd : D → D → Cs → R D} (h : ∀ a b c, gd a b c = (match a, b with | .int i, .int j => .ok (g i j) c | _, _ => .bad)) (hr : ∀ i j B γ, Rep K B γ (g i j) (gv i j)) : Sim2 K E (rI0 gv) gd := by
  intro B γ c H dx dy x y Q s rx ry k
  rw [h] at k
  cases dx with
  | int i =>
    cases dy with
    | int j => exact ⟨i, j, rx, ry, cont_ok s k (hr i j _ _)⟩
    | _ => exact k.elim
  | _ => exact k.elim
theorem sim_sub : Sim2 K E (rI0 fun i j => .int (i - j)) gSub := sim_int (g := fun i j => .int (i - j)) (fun a b c => by cases a <;> cases b <;> rfl) fun _ _ _ _ => rfl
theorem sim_lt : Sim2 K E (rI0 fun i j => .bl (decide (i < j))) gLt := sim_int (g := fun i j => .bl (decide (i < j))) (fun a b c => by cases a <;> cases b <;> rfl) fun _ _ _ _ => rfl
theorem sim_le : Sim2 K E (rI0 fun i j => .bl (decide (i ≤ j))) gLe := sim_int (g := fun i j => .bl (decide (i ≤ j))) (fun a b c => by cases a <;> cases b <;> rfl) fun _ _ _ _ => rfl
theorem sim_gt : Sim2 K E (rI0 fun i j => .bl (decide (j < i))) gGt := sim_int (g := fun i j => .bl (decide (j < i))) (fun a b c => by cases a <;> cases b <;> rfl) fun _ _ _ _ => rfl
theorem sim_ge : Sim2 K E (rI0 fun i j => .bl (decide (j ≤ i))) gGe := sim_int (g := fun i j => .bl (decide (j ≤ i))) (fun a b c => by cases a <;> cases b <;> rfl) fun _ _ _ _ => rfl
theorem sim_intC {C : Int → Int → Prop} {p : Int → Int → Prop} [∀ i j, Decidable (p i j)] {g : Int → Int → Int} {gd : D → D → Cs → R D} (h : ∀ a b c, gd a b c = (match a, b with | .int i, .int j => if p i j then .ok (.int (g i j)) c else .bad | _, _ => .bad)) (hC : ∀ i j, p i j → C i j) : Sim2 K E (rI C fun i j => .int (g i j)) gd := by
  intro B γ c H dx dy x y Q s rx ry k
  rw [h] at k
  cases dx with
  | int i =>
    cases dy with
    | int j =>
      by_cases hp : p i j
      · simp only [hp, if_true] at k
        exact ⟨i, j, rx, ry, hC i j hp, cont_ok s k rfl⟩
      · simp only [hp, if_false] at k; exact k.elim
    | _ => exact k.elim
  | _ => exact k.elim
theorem sim_fdiv : Sim2 K E (rI CDivN fun i j => .int (i.fdiv j)) gFdiv := sim_intC (p := fun _ j => j ≠ 0 ∧ j.natAbs < 1073741824) (g := fun i j => i.fdiv j) (fun a b c => by cases a <;> cases b <;> rfl) fun _ _ h => h
theorem sim_mod : Sim2 K E (rI (fun _ j => j ≠ 0) fun i j => .int (i.fmod j)) gMod := sim_intC (p := fun _ j => j ≠ 0) (g := fun i j => i.fmod j) (fun a b c => by cases a <;> cases b <;> rfl) fun _ _ h => h
theorem sim_pow : Sim2 K E (rI CPow fun i j => .int (i ^ j.toNat)) gPow := sim_intC (p := fun i j => 0 ≤ j ∧ j ≤ 100 ∧ small i = true) (g := fun i j => i ^ j.toNat) (fun a b c => by cases a <;> cases b <;> rfl) fun i j h => by
  have := small_b h.2.2
  exact ⟨h.1, by omega, by omega⟩
abbrev rMuls : R2 := fun x y H Q => rI CMul (fun i j => .int (i * j)) x y H Q ∨ rRep x y H Q
theorem op_muls {X : Cx} : OpR X (binaryOp .Mult) rMuls := op_mul.or op_rep
theorem sim_mul : Sim2 K E rMuls gMul := by
  intro B γ c H dx dy x y Q s rx ry k
  cases dx with
  | int i =>
    cases dy with
    | int j =>
      have k' : Cont K E B γ H (if (small i || small j) = true then .ok (.int (i * j)) c else .bad) Q := k
      by_cases h : (small i || small j) = true
      · rw [if_pos h] at k'
        refine .inl ⟨i, j, rx, ry, ?_, cont_ok s k' rfl⟩
        rcases Bool.or_eq_true_iff.mp h with z | z
        · exact .inl (small_b z)
        · exact .inr (small_b z)
      · rw [if_neg h] at k'; exact k'.elim
    | _ => exact k.elim
  | lst xs =>
    cases dy with
    | int j =>
      have k' : Cont K E B γ H (if -1000 ≤ j ∧ j ≤ 1000 ∧ xs.length ≤ 1000 then .ok (.lst (List.replicate j.toNat xs).flatten) c else .bad) Q := k
      by_cases h : -1000 ≤ j ∧ j ≤ 1000 ∧ xs.length ≤ 1000
      · rw [if_pos h] at k'
        obtain ⟨a, vs, rfl, h1, h2⟩ := rx
        cases (show y = V.int j from ry)
        have hm : vs.length * j.toNat ≤ 1000 * 1000 := Nat.mul_le_mul (by rw [h2.len]; exact h.2.2) (by omega)
        refine .inr ⟨a, j, vs, rfl, rfl, s.ex _ _ h1, by omega, by omega, sz6 (by omega), fun p hp => ?_⟩
        obtain ⟨s2, e2⟩ := s.new (o := .lst (List.replicate j.toNat vs).flatten) hp
        exact k' _ _ _ e2 s2 _ ⟨p, _, rfl, upd_same, Reps.mono e2.ex e2.pre _ _ (Reps.flat h2 _)⟩
      · rw [if_neg h] at k'; exact k'.elim
    | _ => exact k.elim
  | _ => exact k.elim
theorem isNon_rep {B : Hp} {γ : List Addr} {d : D} {v : V} (r : Rep K B γ d v) : decide (v = .non) = isNonD d := by
  cases d with
  | non => cases (show v = V.non from r); rfl
  | bl b => cases (show v = V.bl b from r); rfl
  | int b => cases (show v = V.int b from r); rfl
  | str b => cases (show v = V.str b from r); rfl
  | ty b => cases (show v = V.ty b from r); rfl
  | lst b => obtain ⟨a, vs, rfl, _⟩ := r; rfl
  | sl b => obtain ⟨a, vs, rfl, _⟩ := r; rfl
  | tup b => obtain ⟨a, vs, rfl, _⟩ := r; rfl
  | cell b => obtain ⟨a, rfl, _⟩ := r; rfl
theorem sim_isN : Sim2 K E (fun x y H Q => y = .non ∧ Q (.bl (decide (x = .non))) H) gIsN := by
  intro B γ c H dx dy x y Q s rx ry k
  unfold gIsN at k
  by_cases h : isNonD dy = true
  · rw [if_pos h] at k
    refine ⟨of_decide_eq_true ((isNon_rep ry).trans h), ?_⟩
    rw [isNon_rep rx]
    exact cont_ok s k rfl
  · rw [if_neg h] at k; exact k.elim
theorem sim_notN : Sim2 K E (fun x y H Q => y = .non ∧ Q (.bl (!decide (x = .non))) H) gNotN := by
  intro B γ c H dx dy x y Q s rx ry k
  unfold gNotN at k
  by_cases h : isNonD dy = true
  · rw [if_pos h] at k
    refine ⟨of_decide_eq_true ((isNon_rep ry).trans h), ?_⟩
    rw [isNon_rep rx]
    exact cont_ok s k rfl
  · rw [if_neg h] at k; exact k.elim
end

/-! ### == of data -/
mutual
def toP : D → Option PyData
  | .non => some .none
  | .bl b => some (.bool b)
  | .int i => some (.int i)
  | .str x => some (.str x)
  | .lst ds => (toPs ds).map .list
  | .sl ds => (toPs ds).map .list
  | .tup ds => (toPs ds).map .tuple
  | .ty _ => none
  | .cell _ => none
def toPs : List D → Option (List PyData)
  | [] => some []
  | d :: ds => match toP d, toPs ds with
    | some a, some b => some (a :: b)
    | _, _ => none
end
def eqD (a b : D) : Option Bool := match toP a, toP b with
  | some p, some q => if (SeqAt.shaped p && SeqAt.shaped q) = true then some (PyData.eqv p q) else none
  | _, _ => none
def gEq : D → D → Cs → R D := fun a b c => match eqD a b with
  | some t => .ok (.bl t) c
  | none => .bad
def gNe : D → D → Cs → R D := fun a b c => match eqD a b with
  | some t => .ok (.bl (!t)) c
  | none => .bad
section
variable {K : PySem.W.Frag} {E : XK} {B H : Hp} {γ : List Addr}
mutual
theorem toP_dp (e : Ex B H) : ∀ (d : D) (v : V) (p : PyData), toP d = some p → Rep K B γ d v → Dp K H v p
  | .non, v, p, h, r => by cases h; cases (show v = V.non from r); exact .non
  | .bl b, v, p, h, r => by cases h; cases (show v = V.bl b from r); exact .bl b
  | .int b, v, p, h, r => by cases h; cases (show v = V.int b from r); exact .int b
  | .str b, v, p, h, r => by cases h; cases (show v = V.str b from r); exact .str b
  | .lst ds, v, p, h, r => by
    obtain ⟨a, vs, rfl, h1, h2⟩ := r
    obtain ⟨ps, h3, rfl⟩ := map_some h
    exact .lst (SqL.of (e _ _ h1)) (toPs_dp e ds vs ps h3 h2)
  | .sl ds, v, p, h, r => by
    obtain ⟨a, vs, rfl, h1, h2⟩ := r
    obtain ⟨ps, h3, rfl⟩ := map_some h
    exact .lst (ex_l e h1) (toPs_dp e ds vs ps h3 h2)
  | .tup ds, v, p, h, r => by
    obtain ⟨a, vs, rfl, h1, h2⟩ := r
    obtain ⟨ps, h3, rfl⟩ := map_some h
    exact .tup (ex_t e h1.sq) (toPs_dp e ds vs ps h3 h2)
  | .ty _, _, _, h, _ => by cases h
  | .cell _, _, _, h, _ => by cases h
theorem toPs_dp (e : Ex B H) : ∀ (ds : List D) (vs : List V) (ps : List PyData), toPs ds = some ps → Reps K B γ ds vs → DpAll K H vs ps
  | [], vs, ps, h, r => by cases h; rw [show vs = [] from r]; exact .nil
  | d :: ds, vs, ps, h, r => by
    obtain ⟨v, w, rfl, r1, r2⟩ := r
    unfold toPs at h
    cases h1 : toP d with
    | none => rw [h1] at h; cases h
    | some a =>
      cases h2 : toPs ds with
      | none => rw [h1, h2] at h; cases h
      | some b =>
        rw [h1, h2] at h
        cases h
        exact .cons (toP_dp e d v a h1 r1) (toPs_dp e ds w b h2 r2)
end
theorem eqD_dp {c : Cs} {a b : D} {x y : V} {t : Bool} (s : Stt K B γ c H) (rx : Rep K B γ a x) (ry : Rep K B γ b y) (h : eqD a b = some t) : ∃ p q, Dp K H x p ∧ Dp K H y q ∧ SeqAt.shaped p = true ∧ SeqAt.shaped q = true ∧ PyData.eqv p q = t := by
  unfold eqD at h
  cases h1 : toP a with
  | none => rw [h1] at h; cases h
  | some p =>
    cases h2 : toP b with
    | none => rw [h1, h2] at h; cases h
    | some q =>
      simp only [h1, h2] at h
      by_cases hs : (SeqAt.shaped p && SeqAt.shaped q) = true
      · simp only [hs, if_true] at h
        have hs2 := Bool.and_eq_true_iff.mp hs
        exact ⟨p, q, toP_dp s.ex a x p h1 rx, toP_dp s.ex b y q h2 ry, hs2.1, hs2.2, Option.some.inj h⟩
      · simp only [hs, if_false] at h
        cases h
theorem sim_eq : Sim2 K E (rEqD K) gEq := by
  intro B γ c H dx dy x y Q s rx ry k
  unfold gEq at k
  cases h : eqD dx dy with
  | none => rw [h] at k; exact k.elim
  | some t =>
    rw [h] at k
    obtain ⟨p, q, h1, h2, h3, h4, h5⟩ := eqD_dp s rx ry h
    exact ⟨p, q, h1, h2, h3, h4, by rw [h5]; exact cont_ok s k rfl⟩
theorem sim_ne : Sim2 K E (rNeD K) gNe := by
  intro B γ c H dx dy x y Q s rx ry k
  unfold gNe at k
  cases h : eqD dx dy with
  | none => rw [h] at k; exact k.elim
  | some t =>
    rw [h] at k
    obtain ⟨p, q, h1, h2, h3, h4, h5⟩ := eqD_dp s rx ry h
    exact ⟨p, q, h1, h2, h3, h4, by rw [h5]; exact cont_ok s k rfl⟩

/-! ### items, slices -/
def gIx : D → D → Cs → R D
  | .lst ds, .int i, c => match atI ds i with
    | some d => .ok d c
    | none => .bad
  | .sl ds, .int i, c => match atI ds i with
    | some d => .ok d c
    | none => .bad
  | .tup ds, .int i, c => match atI ds i with
    | some d => .ok d c
    | none => .bad
  | .str x, .int i, c => match atI x.cps.toList i with
    | some a => if x.length ≤ 1000000 then .ok (.str ⟨#[a]⟩) c else .bad
    | none => .bad
  | .cell k, .int i, c => match c[k]? with
    | some (.lst ds) => match atI ds i with
      | some d => .ok d c
      | none => .bad
    | none => .bad
  | _, _, _ => .bad
theorem Reps.atI {ds : List D} {vs : List V} {i : Int} {d : D} (r : Reps K B γ ds vs) (h : L2.atI ds i = some d) : ∃ v, L2.atI vs i = some v ∧ Rep K B γ d v := by
  unfold L2.atI at h ⊢
  rw [r.len]
  cases hj : ixN ds.length i with
  | none => rw [hj] at h; cases h
  | some j =>
    rw [hj] at h
    exact r.get h
theorem sim_ix : Sim2 K E (fun x y H Q => rIxL K x y H Q ∨ rIxT K x y H Q ∨ rIxS x y H Q) gIx := by
  intro B γ c H dx dy x y Q s rx ry k
  cases dy with
  | int i =>
    cases (show y = V.int i from ry)
    cases dx with
    | lst ds =>
      have k' : Cont K E B γ H (match L2.atI ds i with | some d => .ok d c | none => .bad) Q := k
      cases h : L2.atI ds i with
      | none => rw [h] at k'; exact k'.elim
      | some d =>
        rw [h] at k'
        obtain ⟨a, vs, rfl, h1, h2⟩ := rx
        obtain ⟨v, hv, rv⟩ := h2.atI h
        exact .inl ⟨a, vs, i, v, rfl, rfl, SqL.of (s.ex _ _ h1), hv, cont_ok s k' rv⟩
    | sl ds =>
      have k' : Cont K E B γ H (match L2.atI ds i with | some d => .ok d c | none => .bad) Q := k
      cases h : L2.atI ds i with
      | none => rw [h] at k'; exact k'.elim
      | some d =>
        rw [h] at k'
        obtain ⟨a, vs, rfl, h1, h2⟩ := rx
        obtain ⟨v, hv, rv⟩ := h2.atI h
        exact .inl ⟨a, vs, i, v, rfl, rfl, ex_l s.ex h1, hv, cont_ok s k' rv⟩
    | tup ds =>
      have k' : Cont K E B γ H (match L2.atI ds i with | some d => .ok d c | none => .bad) Q := k
      cases h : L2.atI ds i with
      | none => rw [h] at k'; exact k'.elim
      | some d =>
        rw [h] at k'
        obtain ⟨a, vs, rfl, h1, h2⟩ := rx
        obtain ⟨v, hv, rv⟩ := h2.atI h
        exact .inr (.inl ⟨a, vs, i, v, rfl, rfl, ex_t s.ex h1.sq, hv, cont_ok s k' rv⟩)
    | str z =>
      have k' : Cont K E B γ H (match L2.atI z.cps.toList i with | some a => if z.length ≤ 1000000 then .ok (.str ⟨#[a]⟩) c else .bad | none => .bad) Q := k
      cases h : L2.atI z.cps.toList i with
      | none => rw [h] at k'; exact k'.elim
      | some a =>
        simp only [h] at k'
        by_cases hl : z.length ≤ 1000000
        · simp only [hl, if_true] at k'
          exact .inr (.inr ⟨z, i, a, rx, rfl, sz6 hl, h, cont_ok s k' rfl⟩)
        · simp only [hl, if_false] at k'; exact k'.elim
    | cell kk =>
      have k' : Cont K E B γ H (match c[kk]? with | some (.lst ds) => (match L2.atI ds i with | some d => .ok d c | none => .bad) | none => .bad) Q := k
      obtain ⟨a, rfl, hg⟩ := rx
      cases hc : c[kk]? with
      | none => rw [hc] at k'; exact k'.elim
      | some co =>
        cases co with
        | lst ds =>
          simp only [hc] at k'
          obtain ⟨vs, hv, rv⟩ := s.cel kk a _ hg hc
          cases h : L2.atI ds i with
          | none => rw [h] at k'; exact k'.elim
          | some d =>
            rw [h] at k'
            obtain ⟨v, hv2, rv2⟩ := rv.atI h
            exact .inl ⟨a, vs, i, v, rfl, rfl, SqL.of hv, hv2, cont_ok s k' rv2⟩
    | _ => exact k.elim
  | _ => cases dx <;> exact k.elim
end
end T

set_option linter.all false
set_option maxRecDepth 100000
set_option maxHeartbeats 4000000
namespace T
open PySem L2 Evl

/-! ### slices -/
def to (K : PySem.W.Frag) (E : XK) (f : Sd → Cs → R (Option Int)) : TO := fun σ H Q => ∃ B γ c σd, Stt K B γ c H ∧ RepS K B γ σd σ ∧ Cnt K E B γ H (f σd c) fun _ _ o _ H' => Q o H'
abbrev IO (X : Cx) (E : XK) (e : Option Expr) (f : Sd → Cs → R (Option Int)) : Prop := PO X e (to X.K E f)
theorem _root_.L2.PO.weak {X : Cx} {e : Option Expr} {t t' : TO} (h : PO X e t) (w : ∀ σ H Q, t' σ H Q → t σ H Q) : PO X e t' := ⟨fun pins s σ H Q I q => h.run pins s σ H Q I (w σ H Q q)⟩
def oNone : Sd → Cs → R (Option Int) := fun _ c => .ok none c
def intD : D → Option Int
  | .int i => some i
  | _ => none
def oSome (f : ME) : Sd → Cs → R (Option Int) := fun σ c => (f σ c).bind fun d c => match intD d with
  | some i => .ok (some i) c
  | none => .bad
def cutD (xs : List D) (lo hi : Option Int) : List D := (xs.drop (HT.sIx xs.length 0 lo)).take (HT.sIx xs.length xs.length hi - HT.sIx xs.length 0 lo)
def gSl : D → Option Int → Option Int → Cs → R D
  | .lst ds, lo, hi, c => .ok (.lst (cutD ds lo hi)) c
  | .sl ds, lo, hi, c => .ok (.lst (cutD ds lo hi)) c
  | .str x, lo, hi, c => if x.length ≤ 1000000 then .ok (.str (cutS x lo hi)) c else .bad
  | _, _, _, _ => .bad
def mSl (f : ME) (l u : Sd → Cs → R (Option Int)) : ME := fun σ c => (f σ c).bind fun d c => (l σ c).bind fun lo c => (u σ c).bind fun hi c => gSl d lo hi c
def revD : D → Cs → R D
  | .lst ds, c => .ok (.lst ds.reverse) c
  | .sl ds, c => .ok (.lst ds.reverse) c
  | _, _ => .bad
section
variable {X : Cx} {E : XK} {e : Expr} {f : ME} {K : PySem.W.Frag} {B H : Hp} {γ : List Addr}
theorem intD_of {d : D} {i : Int} (h : intD d = some i) : d = .int i := by
  cases d <;> simp [intD] at h
  rw [h]
theorem io_none : IO X E none oNone := po_none.weak fun σ H Q ⟨B, γ, c, σd, s, rs, k⟩ => k B γ H (Ext.refl _ _ _) s
theorem io_some (h : IE X E e f) : IO X E (some e) (oSome f) := (po_some h).weak fun σ H Q ⟨B, γ, c, σd, s, rs, k⟩ => by
  refine ⟨B, γ, c, σd, s, rs, cnt_bind k fun d c1 B1 γ1 H1 _ e1 s1 k1 v rv => ?_⟩
  cases h : intD d with
  | none => rw [h] at k1; exact k1.elim
  | some i =>
    rw [h] at k1
    rw [intD_of h] at rv
    exact ⟨i, rv, k1 B1 γ1 H1 (Ext.refl _ _ _) s1⟩
theorem Reps.cut {ds : List D} {vs : List V} (r : Reps K B γ ds vs) (lo hi : Option Int) : Reps K B γ (cutD ds lo hi) (cutV vs lo hi) := by
  unfold cutD cutV
  rw [r.len]
  exact Reps.take _ (Reps.drop _ r)
theorem Reps.rev : ∀ {ds : List D} {vs : List V}, Reps K B γ ds vs → Reps K B γ ds.reverse vs.reverse
  | [], vs, r => by rw [show vs = [] from r]; exact rfl
  | d :: ds, vs, r => by
    obtain ⟨v, w, rfl, r1, r2⟩ := r
    rw [List.reverse_cons, List.reverse_cons]
    exact Reps.app (Reps.rev r2) ⟨v, [], rfl, r1, rfl⟩
theorem ie_sl {l u : Option Expr} {fl fu : Sd → Cs → R (Option Int)} {p2 pos : Pos} (h : IE X E e f) (hl : IO X E l fl) (hu : IO X E u fu) : IE X E (.Subscript e (.Slice l u none p2) pos) (mSl f fl fu) := by
  refine (pe_slice (sl_list.or sl_str) h hl hu).weak fun σ H Q ⟨B, γ, c, σd, s, rs, k⟩ => ?_
  refine ⟨B, γ, c, σd, s, rs, cnt_bind k fun d c1 B1 γ1 H1 _ e1 s1 k1 v rv => ?_⟩
  refine ⟨B1, γ1, c1, σd, s1, rs.mono e1.ex e1.pre, cnt_bind k1 fun lo c2 B2 γ2 H2 _ e2 s2 k2 => ?_⟩
  have rs2 := (rs.mono e1.ex e1.pre).mono e2.ex e2.pre
  refine ⟨B2, γ2, c2, σd, s2, rs2, cnt_bind k2 fun hi c3 B3 γ3 H3 _ e3 s3 k3 => ?_⟩
  have rv3 := Rep.mono e3.ex e3.pre _ _ (Rep.mono e2.ex e2.pre _ _ rv)
  cases d with
  | lst ds =>
    obtain ⟨a, vs, rfl, h1, h2⟩ := rv3
    refine .inl ⟨a, vs, rfl, SqL.of (s3.ex _ _ h1), fun p hp => ?_⟩
    obtain ⟨s4, e4⟩ := s3.new (o := .lst (cutV vs lo hi)) hp
    exact k3 _ _ _ e4 s4 _ ⟨p, _, rfl, upd_same, Reps.mono e4.ex e4.pre _ _ (h2.cut lo hi)⟩
  | sl ds =>
    obtain ⟨a, vs, rfl, h1, h2⟩ := rv3
    refine .inl ⟨a, vs, rfl, ex_l s3.ex h1, fun p hp => ?_⟩
    obtain ⟨s4, e4⟩ := s3.new (o := .lst (cutV vs lo hi)) hp
    exact k3 _ _ _ e4 s4 _ ⟨p, _, rfl, upd_same, Reps.mono e4.ex e4.pre _ _ (h2.cut lo hi)⟩
  | str x =>
    have k' : Cont X.K E B3 γ3 H3 (if x.length ≤ 1000000 then .ok (.str (cutS x lo hi)) c3 else .bad) Q := k3
    by_cases hl : x.length ≤ 1000000
    · rw [if_pos hl] at k'
      exact .inr ⟨x, rv3, sz6 hl, cont_ok s3 k' rfl⟩
    · rw [if_neg hl] at k'; exact k'.elim
  | _ => exact k3.elim
theorem ie_rev {kk : Nat} {p1 p2 p3 pos : Pos} (h : IE X E e f) : IE X E (.Subscript e (.Slice none none (some (.UnaryOp .USub (.Constant (.int 1) kk p1) p2)) p3) pos) (m1 revD f) := by
  refine (pe_revL h).weak fun σ H Q ⟨B, γ, c, σd, s, rs, k⟩ => ?_
  refine ⟨B, γ, c, σd, s, rs, cnt_bind k fun d c1 B1 γ1 H1 _ e1 s1 k1 v rv => ?_⟩
  cases d with
  | lst ds =>
    obtain ⟨a, vs, rfl, h1, h2⟩ := rv
    refine ⟨a, vs, rfl, SqL.of (s1.ex _ _ h1), fun p hp => ?_⟩
    obtain ⟨s4, e4⟩ := s1.new (o := .lst vs.reverse) hp
    exact k1 _ _ _ e4 s4 _ ⟨p, _, rfl, upd_same, Reps.mono e4.ex e4.pre _ _ h2.rev⟩
  | sl ds =>
    obtain ⟨a, vs, rfl, h1, h2⟩ := rv
    refine ⟨a, vs, rfl, ex_l s1.ex h1, fun p hp => ?_⟩
    obtain ⟨s4, e4⟩ := s1.new (o := .lst vs.reverse) hp
    exact k1 _ _ _ e4 s4 _ ⟨p, _, rfl, upd_same, Reps.mono e4.ex e4.pre _ _ h2.rev⟩
  | _ => exact k1.elim
end

/-! ### built-ins -/
def lenD : D → Cs → Option Nat
  | .str x, _ => if x.length ≤ 1000000 then some x.length else none
  | .lst ds, _ => some ds.length
  | .sl ds, _ => some ds.length
  | .tup ds, _ => some ds.length
  | .cell k, c => match c[k]? with
    | some (.lst ds) => some ds.length
    | none => none
  | _, _ => none
/-- a built-in of one argument -/
def one (g : D → Cs → R D) : List D → Cs → R D := fun ds c => match ds with
  | [d] => g d c
  | _ => .bad
def two (g : D → D → Cs → R D) : List D → Cs → R D := fun ds c => match ds with
  | [d, e] => g d e c
  | _ => .bad
def gLen : D → Cs → R D := fun d c => match lenD d c with
  | some n => .ok (.int (n : Int)) c
  | none => .bad
def gToInt : D → Cs → R D := fun d c => match d with
  | .int i => .ok (.int i) c
  | .bl b => .ok (.int (if b then 1 else 0)) c
  | _ => .bad
def gMin : D → D → Cs → R D
  | .int i, .int j, c => .ok (.int (if j < i then j else i)) c
  | _, _, _ => .bad
def gMax : D → D → Cs → R D
  | .int i, .int j, c => .ok (.int (if j > i then j else i)) c
  | _, _, _ => .bad
def intsD : List D → Option (List Int)
  | [] => some []
  | .int i :: r => (intsD r).map (i :: ·)
  | _ => none
def strsD : List D → Option (List Str)
  | [] => some []
  | .str i :: r => (strsD r).map (i :: ·)
  | _ => none
def blsD : List D → Option (List Bool)
  | [] => some []
  | .bl i :: r => (blsD r).map (i :: ·)
  | _ => none
def gMaxL : D → Cs → R D := fun d c => match d with
  | .lst ds => match intsD ds with
    | some (n :: ns) => .ok (.int (ns.foldl max n)) c
    | _ => .bad
  | _ => .bad
def gList : D → Cs → R D := fun d c => match d with
  | .lst ds => .ok (.lst ds) c
  | .sl ds => .ok (.lst ds) c
  | .tup ds => .ok (.lst ds) c
  | _ => .bad
def gAll : D → Cs → R D := fun d c => match d with
  | .lst ds => match blsD ds with
    | some bs => .ok (.bl (bs.all id)) c
    | none => .bad
  | _ => .bad
section
variable {K : PySem.W.Frag} {E : XK} {B H : Hp} {γ : List Addr}
theorem sim_one {r : List V → Hp → VK → Prop} {g : D → Cs → R D} (h : ∀ B γ c H d v Q, Stt K B γ c H → Rep K B γ d v → Cont K E B γ H (g d c) Q → r [v] H Q) : SimC K E r (one g) := by
  intro B γ c H ds vs Q s r k
  match ds, r, k with
  | [d], r, k =>
    obtain ⟨v, rfl, rv⟩ := reps1 r
    exact h B γ c H d v Q s rv k
theorem sim_two {r : List V → Hp → VK → Prop} {g : D → D → Cs → R D} (h : ∀ B γ c H d e v w Q, Stt K B γ c H → Rep K B γ d v → Rep K B γ e w → Cont K E B γ H (g d e c) Q → r [v, w] H Q) : SimC K E r (two g) := by
  intro B γ c H ds vs Q s r k
  match ds, r, k with
  | [d, e], r, k =>
    obtain ⟨v, w, rfl, rv, rw'⟩ := reps2 r
    exact h B γ c H d e v w Q s rv rw' k
theorem sim_len : SimC K E (fun xs H Q => ∃ x n, xs = [x] ∧ LenV K x H n ∧ Q (.int (n : Nat)) H) (one gLen) := sim_one fun B γ c H d v Q s r k => by
  unfold gLen at k
  cases h : lenD d c with
  | none => rw [h] at k; exact k.elim
  | some n =>
    rw [h] at k
    refine ⟨v, n, rfl, ?_, cont_ok s k rfl⟩
    cases d with
    | str x =>
      cases (show v = V.str x from r)
      have h' : (if x.length ≤ 1000000 then some x.length else none) = some n := h
      split at h'
      · rename_i hl; exact ⟨sz6 hl, (Option.some.inj h').symm⟩
      · cases h'
    | lst ds => obtain ⟨a, vs, rfl, h1, h2⟩ := r; cases h; exact .inl ⟨vs, SqL.of (s.ex _ _ h1), h2.len.symm⟩
    | sl ds => obtain ⟨a, vs, rfl, h1, h2⟩ := r; cases h; exact .inl ⟨vs, ex_l s.ex h1, h2.len.symm⟩
    | tup ds => obtain ⟨a, vs, rfl, h1, h2⟩ := r; cases h; exact .inr ⟨vs, ex_t s.ex h1.sq, h2.len.symm⟩
    | cell kk =>
      obtain ⟨a, rfl, hg⟩ := r
      have h' : (match c[kk]? with | some (.lst ds) => some ds.length | none => none) = some n := h
      cases hc : c[kk]? with
      | none => rw [hc] at h'; cases h'
      | some co =>
        cases co with
        | lst ds =>
          rw [hc] at h'
          obtain ⟨vs, hv, rv⟩ := s.cel kk a _ hg hc
          cases h'
          exact .inl ⟨vs, SqL.of hv, rv.len.symm⟩
    | _ => cases h
theorem sim_toInt : SimC K E (fun xs H Q => (∃ i, xs = [V.int i] ∧ Q (.int i) H) ∨ ∃ k, xs = [V.bl k] ∧ Q (.int (if k then 1 else 0)) H) (one gToInt) := sim_one fun B γ c H d v Q s r k => by
  cases d with
  | int i => cases (show v = V.int i from r); exact .inl ⟨i, rfl, cont_ok s k rfl⟩
  | bl b => cases (show v = V.bl b from r); exact .inr ⟨b, rfl, cont_ok s k rfl⟩
  | _ => exact k.elim
theorem sim_min : SimC K E (fun xs H Q => ∃ i j, xs = [V.int i, V.int j] ∧ Q (.int (if j < i then j else i)) H) (two gMin) := sim_two fun B γ c H d e v w Q s r1 r2 k => by
  cases d with
  | int i =>
    cases e with
    | int j => cases (show v = V.int i from r1); cases (show w = V.int j from r2); exact ⟨i, j, rfl, cont_ok s k rfl⟩
    | _ => exact k.elim
  | _ => exact k.elim
theorem sim_max : SimC K E (fun xs H Q => ∃ i j, xs = [V.int i, V.int j] ∧ Q (.int (if j > i then j else i)) H) (two gMax) := sim_two fun B γ c H d e v w Q s r1 r2 k => by
  cases d with
  | int i =>
    cases e with
    | int j => cases (show v = V.int i from r1); cases (show w = V.int j from r2); exact ⟨i, j, rfl, cont_ok s k rfl⟩
    | _ => exact k.elim
  | _ => exact k.elim
theorem intsD_of : ∀ {ds : List D} {ns : List Int}, intsD ds = some ns → ds = ns.map D.int
  | [], ns, h => by cases h; rfl
  | .int i :: r, ns, h => by
    obtain ⟨ms, h1, rfl⟩ := map_some h
    rw [intsD_of h1]
    rfl
theorem strsD_of : ∀ {ds : List D} {ns : List Str}, strsD ds = some ns → ds = ns.map D.str
  | [], ns, h => by cases h; rfl
  | .str i :: r, ns, h => by
    obtain ⟨ms, h1, rfl⟩ := map_some h
    rw [strsD_of h1]
    rfl
theorem blsD_of : ∀ {ds : List D} {ns : List Bool}, blsD ds = some ns → ds = ns.map D.bl
  | [], ns, h => by cases h; rfl
  | .bl i :: r, ns, h => by
    obtain ⟨ms, h1, rfl⟩ := map_some h
    rw [blsD_of h1]
    rfl
theorem fold_max : ∀ (ns : List Int) (n : Int), (ns.foldl max n ∈ n :: ns) ∧ ∀ y ∈ n :: ns, y ≤ ns.foldl max n
  | [], n => ⟨List.mem_cons_self, fun y hy => by simp at hy; rw [hy]; exact Int.le_refl _⟩
  | m :: ns, n => by
    obtain ⟨h1, h2⟩ := fold_max ns (max n m)
    refine ⟨?_, fun y hy => ?_⟩
    · rcases List.mem_cons.mp h1 with z | z
      · show ns.foldl max (max n m) ∈ _
        rw [z]
        by_cases hc : n ≤ m
        · rw [Int.max_eq_right hc]; simp
        · rw [Int.max_eq_left (by omega)]; simp
      · exact List.mem_cons_of_mem _ (List.mem_cons_of_mem _ z)
    · show y ≤ ns.foldl max (max n m)
      have h3 := h2 (max n m) List.mem_cons_self
      rcases List.mem_cons.mp hy with z | z
      · subst z; omega
      · rcases List.mem_cons.mp z with z | z
        · subst z; omega
        · exact h2 y (List.mem_cons_of_mem _ z)
theorem sim_maxL : SimC K E (rMax K) (one gMaxL) := sim_one fun B γ c H d v Q s r k => by
  cases d with
  | lst ds =>
    have k' : Cont K E B γ H (match intsD ds with | some (n :: ns) => .ok (.int (ns.foldl max n)) c | _ => .bad) Q := k
    cases h : intsD ds with
    | none => rw [h] at k'; exact k'.elim
    | some ns =>
      cases ns with
      | nil => rw [h] at k'; exact k'.elim
      | cons n ns =>
        rw [h] at k'
        obtain ⟨a, vs, rfl, h1, h2⟩ := r
        rw [intsD_of h] at h2
        rw [Reps.ints h2] at h1
        refine ⟨a, n :: ns, rfl, SqL.of (s.ex _ _ h1), Nat.succ_pos _, fun m hm hle => ?_⟩
        obtain ⟨q1, q2⟩ := fold_max ns n
        have e : ns.foldl max n = m := Int.le_antisymm (hle _ q1) (q2 m hm)
        exact cont_ok s k' (show V.int m = V.int (ns.foldl max n) by rw [e])
  | _ => exact k.elim
theorem sim_list : SimC K E (fun xs H Q => ∃ p ys, xs = [V.ref p] ∧ (SqL K H p ys ∨ SqT K H p ys) ∧ ∀ l, H l = none → Q (.ref l) (upd H l (.lst ys))) (one gList) := sim_one fun B γ c H d v Q s r k => by
  cases d with
  | lst ds =>
    obtain ⟨a, vs, rfl, h1, h2⟩ := r
    refine ⟨a, vs, rfl, .inl (SqL.of (s.ex _ _ h1)), fun p hp => ?_⟩
    obtain ⟨s4, e4⟩ := s.new (o := .lst vs) hp
    exact k _ _ _ e4 s4 _ ⟨p, _, rfl, upd_same, Reps.mono e4.ex e4.pre _ _ h2⟩
  | sl ds =>
    obtain ⟨a, vs, rfl, h1, h2⟩ := r
    refine ⟨a, vs, rfl, .inl (ex_l s.ex h1), fun p hp => ?_⟩
    obtain ⟨s4, e4⟩ := s.new (o := .lst vs) hp
    exact k _ _ _ e4 s4 _ ⟨p, _, rfl, upd_same, Reps.mono e4.ex e4.pre _ _ h2⟩
  | tup ds =>
    obtain ⟨a, vs, rfl, h1, h2⟩ := r
    refine ⟨a, vs, rfl, .inr (ex_t s.ex h1.sq), fun p hp => ?_⟩
    obtain ⟨s4, e4⟩ := s.new (o := .lst vs) hp
    exact k _ _ _ e4 s4 _ ⟨p, _, rfl, upd_same, Reps.mono e4.ex e4.pre _ _ h2⟩
  | _ => exact k.elim
theorem sim_all : SimC K E (rAll K) (one gAll) := sim_one fun B γ c H d v Q s r k => by
  cases d with
  | lst ds =>
    have k' : Cont K E B γ H (match blsD ds with | some bs => .ok (.bl (bs.all id)) c | none => .bad) Q := k
    cases h : blsD ds with
    | none => rw [h] at k'; exact k'.elim
    | some bs =>
      rw [h] at k'
      obtain ⟨a, vs, rfl, h1, h2⟩ := r
      rw [blsD_of h] at h2
      rw [Reps.bls h2] at h1
      exact ⟨a, bs, rfl, SqL.of (s.ex _ _ h1), cont_ok s k' rfl⟩
  | _ => exact k.elim
end
end T

set_option linter.all false
set_option maxRecDepth 100000
set_option maxHeartbeats 4000000
namespace T
open PySem L2 Evl

/-! ### isinstance -/
def tagD : D → Cs → Option String
  | .non, _ => some "NoneType"
  | .bl _, _ => some "bool"
  | .int _, _ => some "int"
  | .str _, _ => some "str"
  | .lst _, _ => some "list"
  | .tup _, _ => some "tuple"
  | .cell k, c => match c[k]? with
    | some (.lst _) => some "list"
    | none => none
  | _, _ => none
def isSub (a b : String) : Bool := a == b || (a == "bool" && b == "int")
def tags : List String := ["NoneType", "bool", "int", "str", "list", "tuple"]
def tyNames : List String := ["bool", "int", "str", "list", "tuple"]
theorem kit_tab : ∀ a ∈ tags, ∀ b ∈ tyNames, kitB a b = some (isSub a b) := by decide +kernel
def tyD : D → Option String
  | .ty n => if tyNames.contains n then some n else none
  | _ => none
def tysD : List D → Option (List String)
  | [] => some []
  | d :: r => match tyD d, tysD r with
    | some a, some b => some (a :: b)
    | _, _ => none
def gIsi : D → D → Cs → R D := fun d e c => match tagD d c, tyD e with
  | some a, some b => .ok (.bl (isSub a b)) c
  | _, _ => .bad
def gIsiT : D → D → Cs → R D := fun d e c => match e with
  | .tup ts => match tagD d c, tysD ts with
    | some a, some bs => .ok (.bl (bs.any (isSub a))) c
    | _, _ => .bad
  | _ => .bad
section
variable {K : PySem.W.Frag} {E : XK} {B H : Hp} {γ : List Addr}
theorem tag_ty {c : Cs} {d : D} {v : V} {a : String} (s : Stt K B γ c H) (r : Rep K B γ d v) (h : tagD d c = some a) : TyX K H v (.type a) ∧ a ∈ tags := by
  cases d with
  | non => cases (show v = V.non from r); cases h; exact ⟨.base .non, by decide⟩
  | bl b => cases (show v = V.bl b from r); cases h; exact ⟨.base (.bl b), by decide⟩
  | int b => cases (show v = V.int b from r); cases h; exact ⟨.base (.int b), by decide⟩
  | str b => cases (show v = V.str b from r); cases h; exact ⟨.base (.str b), by decide⟩
  | ty b => cases h
  | sl b => cases h
  | lst ds => obtain ⟨x, vs, rfl, h1, _⟩ := r; cases h; exact ⟨.base (.lst (s.ex _ _ h1)), by decide⟩
  | tup ds =>
    obtain ⟨x, vs, rfl, h1, _⟩ := r
    cases h
    refine ⟨?_, by decide⟩
    rcases h1 with z | (z | ⟨o, z⟩) | ⟨o, its, n, hk, hc, _⟩
    · exact .base (.tup (s.ex _ _ z))
    · cases z
    · cases z
    · exact .kTuple hk hc
  | cell k =>
    obtain ⟨x, rfl, hg⟩ := r
    have h' : (match c[k]? with | some (.lst _) => some "list" | none => none) = some a := h
    cases hc : c[k]? with
    | none => rw [hc] at h'; cases h'
    | some co =>
      cases co with
      | lst ds =>
        rw [hc] at h'
        cases h'
        obtain ⟨vs, hv, _⟩ := s.cel k x _ hg hc
        exact ⟨.base (.lst hv), by decide⟩
theorem tyD_of {d : D} {n : String} (h : tyD d = some n) : d = .ty n ∧ n ∈ tyNames := by
  cases d with
  | ty m =>
    have h' : (if tyNames.contains m then some m else none) = some n := h
    split at h'
    · rename_i hm
      cases h'
      exact ⟨rfl, by simpa using hm⟩
    · cases h'
  | _ => cases h
theorem sim_isi : SimC K E (rIsi K) (two gIsi) := sim_two fun B γ c H d e v w Q s r1 r2 k => by
  unfold gIsi at k
  cases h1 : tagD d c with
  | none => rw [h1] at k; exact k.elim
  | some a =>
    cases h2 : tyD e with
    | none => rw [h1, h2] at k; exact k.elim
    | some b =>
      rw [h1, h2] at k
      obtain ⟨t1, t2⟩ := tag_ty s r1 h1
      obtain ⟨rfl, t3⟩ := tyD_of h2
      cases (show w = V.ty b from r2)
      exact ⟨v, .ty b, _, _, _, rfl, .ty b, t1, kit_ty (kit_tab a t2 b t3), cont_ok s k rfl⟩
theorem tysD_rep {a : String} (ha : a ∈ tags) : ∀ {ds : List D} {bs : List String} {vs : List V}, tysD ds = some bs → Reps K B γ ds vs → vs = bs.map V.ty ∧ PySem.W.kitAny K (.type a) (bs.map Value.type) = some (bs.any (isSub a))
  | [], bs, vs, h, r => by cases h; exact ⟨r, kitAny_nil⟩
  | d :: ds, bs, vs, h, r => by
    obtain ⟨v, w, rfl, r1, r2⟩ := r
    unfold tysD at h
    cases h1 : tyD d with
    | none => rw [h1] at h; cases h
    | some b =>
      cases h2 : tysD ds with
      | none => rw [h1, h2] at h; cases h
      | some cs =>
        rw [h1, h2] at h
        cases h
        obtain ⟨rfl, t3⟩ := tyD_of h1
        obtain ⟨e1, e2⟩ := tysD_rep ha h2 r2
        refine ⟨by rw [e1, show v = V.ty b from r1]; rfl, ?_⟩
        refine kitAny_cons (kit_ty (kit_tab a ha b t3)) (fun hb => ?_) fun hb => ?_
        · rw [e2, List.any_cons, hb, Bool.false_or]
        · rw [List.any_cons, hb, Bool.true_or]
theorem clsv_tys : ∀ bs : List String, Paired ClsV (bs.map V.ty) (bs.map Value.type)
  | [] => .nil
  | b :: bs => .cons (.ty b) (clsv_tys bs)
theorem vals_tys : ∀ (bs : List String) (us : List Value), Vals (bs.map V.ty) us → us = bs.map Value.type
  | [], us, r => by cases r; rfl
  | b :: bs, us, r => by
    cases r with
    | cons r t => rw [vals_tys bs _ t, show _ = Value.type b from r]; rfl
theorem sim_isiT : SimC K E (fun xs H Q => rIsiT K xs H Q ∨ rIsiK K xs H Q) (two gIsiT) := sim_two fun B γ c H d e v w Q s r1 r2 k => by
  cases e with
  | tup ts =>
    have k' : Cont K E B γ H (match tagD d c, tysD ts with | some a, some bs => .ok (.bl (bs.any (isSub a))) c | _, _ => .bad) Q := k
    cases h1 : tagD d c with
    | none => rw [h1] at k'; exact k'.elim
    | some a =>
      cases h2 : tysD ts with
      | none => rw [h1, h2] at k'; exact k'.elim
      | some bs =>
        rw [h1, h2] at k'
        obtain ⟨t1, t2⟩ := tag_ty s r1 h1
        obtain ⟨x, vs, rfl, q1, q2⟩ := r2
        obtain ⟨e1, e2⟩ := tysD_rep t2 h2 q2
        rw [e1] at q1
        rcases q1 with z | (z | ⟨o, z⟩) | ⟨o, its, n, hk, hc, hs, hz, rr⟩
        · exact .inl ⟨v, x, _, _, _, _, rfl, s.ex _ _ z, clsv_tys bs, t1, e2, cont_ok s k' rfl⟩
        · cases z
        · cases z
        · refine .inr ⟨v, x, o.dict, bs.map Value.type, n, o.slots, _, _, rfl, ?_, t1, e2, cont_ok s k' rfl⟩
          have ev : its.toList = bs.map Value.type := vals_tys bs _ rr
          obtain ⟨oc, od, odt, osl⟩ := o
          simp only at hc hs
          rw [hk, hc, hs, ← ev, Array.toArray_toList]
  | _ => exact k.elim

/-! ### methods -/
/-- m(..) of a built-in type -/
structure TyIs (K : PySem.W.Frag) (T : String) (d : D) : Prop where
  ty : ∀ B γ c H v, Stt K B γ c H → Rep K B γ d v → tyV K T v H
end
def isStrD : D → Bool
  | .str _ => true
  | _ => false
def isLstD : D → Cs → Bool
  | .lst _, _ => true
  | .cell k, c => match c[k]? with
    | some (.lst _) => true
    | none => false
  | _, _ => false
def mMs (g : D → List D → Cs → R D) (f : ME) (fs : MA) : ME := fun σ c => (f σ c).bind fun x c => if isStrD x then (fs σ c).bind fun ds c => g x ds c else .bad
def mMl (g : D → List D → Cs → R D) (f : ME) (fs : MA) : ME := fun σ c => (f σ c).bind fun x c => if isLstD x c then (fs σ c).bind fun ds c => g x ds c else .bad
section
variable {X : Cx} {E : XK} {o e : Expr} {es : List Expr} {f : ME} {fs : MA} {name : Str} {apos cpos : Pos} {id : String} {r : V → List V → Hp → VK → Prop} {g : D → List D → Cs → R D}
/-- a text's method -/
theorem ie_ms (pa : PlainAttrs "str") (slot : Slot "str" name id) (hty : typeOf (.builtin id) = pure (.type "method_descriptor")) (hm : MtR X id r) (h : SimM X.K E r g) (ho : IE X E o f) (ha : IA X E (e :: es) fs)
    (hbase : attributeBase o name X.env (eval o X.env) = eval o X.env := by rfl)
    (hfew : ((backTo cpos (starEach (e :: es) X.env)).all (fun x => !x.1) && (backToKw cpos (keywordEach [] X.env)).all (fun x => x.1.isSome)
      && decide ((e :: es).length + ([] : List Keyword).length + (if ([] : List Keyword).isEmpty then 0 else 1) < 30)) = true := by rfl)
    (hline : (apos.endLine == cpos.line) = true := by rfl) (he : starEach (e :: es) X.env = (false, eval e X.env) :: starEach es X.env := by rfl) (hpl : (backTo cpos (starEach es X.env)).any (·.1) = false := by rfl) :
    IE X E (.Call (.Attribute o name apos) (e :: es) [] cpos) (mMs g f fs) := by
  refine PE.weak (pe_bm pa slot hty hm ho ha hbase hfew hline he hpl) fun σ H Q ⟨B, γ, c, σd, s, rs, k⟩ => ?_
  refine ⟨B, γ, c, σd, s, rs, cnt_bind k fun d c1 B1 γ1 H1 _ e1 s1 k1 v rv => ?_⟩
  cases d with
  | str x =>
    refine ⟨by cases (show v = V.str x from rv); exact rfl, B1, γ1, c1, σd, s1, rs.mono e1.ex e1.pre, cnt_bind (show Cnt X.K E B1 γ1 H1 ((fs σd c1).bind fun ds c => g (.str x) ds c) _ from k1) fun ds c2 B2 γ2 H2 _ e2 s2 k2 vs rvs => ?_⟩
    exact h B2 γ2 c2 H2 _ v ds vs Q s2 (Rep.mono e2.ex e2.pre _ _ rv) rvs k2
  | _ => exact k1.elim
/-- a list's method -/
theorem ie_ml (pa : PlainAttrs "list") (slot : Slot "list" name id) (hty : typeOf (.builtin id) = pure (.type "method_descriptor")) (hm : MtR X id r) (h : SimM X.K E r g) (ho : IE X E o f) (ha : IA X E (e :: es) fs)
    (hbase : attributeBase o name X.env (eval o X.env) = eval o X.env := by rfl)
    (hfew : ((backTo cpos (starEach (e :: es) X.env)).all (fun x => !x.1) && (backToKw cpos (keywordEach [] X.env)).all (fun x => x.1.isSome)
      && decide ((e :: es).length + ([] : List Keyword).length + (if ([] : List Keyword).isEmpty then 0 else 1) < 30)) = true := by rfl)
    (hline : (apos.endLine == cpos.line) = true := by rfl) (he : starEach (e :: es) X.env = (false, eval e X.env) :: starEach es X.env := by rfl) (hpl : (backTo cpos (starEach es X.env)).any (·.1) = false := by rfl) :
    IE X E (.Call (.Attribute o name apos) (e :: es) [] cpos) (mMl g f fs) := by
  refine PE.weak (pe_bm pa slot hty hm ho ha hbase hfew hline he hpl) fun σ H Q ⟨B, γ, c, σd, s, rs, k⟩ => ?_
  refine ⟨B, γ, c, σd, s, rs, cnt_bind k fun d c1 B1 γ1 H1 _ e1 s1 k1 v rv => ?_⟩
  by_cases hl : isLstD d c1 = true
  · simp only [hl, if_true] at k1
    refine ⟨?_, B1, γ1, c1, σd, s1, rs.mono e1.ex e1.pre, cnt_bind k1 fun ds c2 B2 γ2 H2 _ e2 s2 k2 vs rvs => h B2 γ2 c2 H2 _ v ds vs Q s2 (Rep.mono e2.ex e2.pre _ _ rv) rvs k2⟩
    cases d with
    | lst ds => obtain ⟨a, vs, rfl, h1, _⟩ := rv; exact .inl ⟨rfl, vs, SqL.of (s1.ex _ _ h1)⟩
    | cell kk =>
      obtain ⟨a, rfl, hg⟩ := rv
      have hl' : (match c1[kk]? with | some (.lst _) => true | none => false) = true := hl
      cases hc : c1[kk]? with
      | none => rw [hc] at hl'; cases hl'
      | some co =>
        cases co with
        | lst ds =>
          obtain ⟨vs, hv, _⟩ := s1.cel kk a _ hg hc
          exact .inl ⟨rfl, vs, SqL.of hv⟩
    | _ => cases hl
  · simp only [hl] at k1
    exact k1.elim
end
def gJoin : D → List D → Cs → R D := fun x ds c => match x, ds with
  | .str a, [.lst xs] => match strsD xs with
    | some ys => if (ys.map (·.length)).sum + ys.length * a.length ≤ 1000000 then .ok (.str (Txt.join a ys)) c else .bad
    | none => .bad
  | _, _ => .bad
def gStrip : D → List D → Cs → R D := fun x ds c => match x, ds with
  | .str a, [.str b] => if a.length ≤ 1000000 then .ok (.str (Txt.stripChars a b)) c else .bad
  | _, _ => .bad
def gApp : D → List D → Cs → R D := fun x ds c => match x, ds with
  | .cell k, [d] => match c[k]? with
    | some (.lst xs) => if xs.length < 1000000 then .ok .non (c.set k (.lst (xs ++ [d]))) else .bad
    | none => .bad
  | _, _ => .bad
def gExt : D → List D → Cs → R D := fun x ds c => match x, ds with
  | .cell k, [.lst ys] => match c[k]? with
    | some (.lst xs) => if xs.length + ys.length ≤ 1000000 then .ok .non (c.set k (.lst (xs ++ ys))) else .bad
    | none => .bad
  | _, _ => .bad
section
variable {K : PySem.W.Frag} {E : XK} {B H : Hp} {γ : List Addr}
theorem sim_join : SimM K E (fun x xs H Q => ∃ a p, ∃ ys : List Str, x = .str a ∧ xs = [.ref p] ∧ (SqL K H p (ys.map V.str) ∨ SqT K H p (ys.map V.str)) ∧ (ys.map (·.length)).sum + ys.length * a.length ≤ 16777216 ∧ Q (.str (Txt.join a ys)) H) gJoin := by
  intro B γ c H d v ds vs Q s r1 r2 k
  unfold gJoin at k
  split at k
  · rename_i a xs
    obtain ⟨w, rfl, rw'⟩ := reps1 r2
    cases h : strsD xs with
    | none => rw [h] at k; exact k.elim
    | some ys =>
      simp only [h] at k
      by_cases hl : (ys.map (·.length)).sum + ys.length * a.length ≤ 1000000
      · rw [if_pos hl] at k
        obtain ⟨p, us, rfl, h1, h2⟩ := rw'
        rw [strsD_of h] at h2
        rw [Reps.strs h2] at h1
        exact ⟨a, p, ys, r1, rfl, .inl (SqL.of (s.ex _ _ h1)), by omega, cont_ok s k rfl⟩
      · rw [if_neg hl] at k; exact k.elim
  · exact k.elim
theorem sim_strip : SimM K E (fun x xs H Q => ∃ a b, x = .str a ∧ xs = [.str b] ∧ a.length ≤ sizeLine ∧ Q (.str (Txt.stripChars a b)) H) gStrip := by
  intro B γ c H d v ds vs Q s r1 r2 k
  unfold gStrip at k
  split at k
  · rename_i a b
    obtain ⟨w, rfl, rw'⟩ := reps1 r2
    by_cases hl : a.length ≤ 1000000
    · rw [if_pos hl] at k
      exact ⟨a, b, r1, by rw [show w = V.str b from rw'], sz6 hl, cont_ok s k rfl⟩
    · rw [if_neg hl] at k; exact k.elim
  · exact k.elim
theorem sim_app : SimM K E rAppend gApp := by
  intro B γ c H d v ds vs Q s r1 r2 k
  unfold gApp at k
  split at k
  · rename_i kk d
    obtain ⟨w, rfl, rw'⟩ := reps1 r2
    obtain ⟨a, rfl, hg⟩ := r1
    cases hc : c[kk]? with
    | none => rw [hc] at k; exact k.elim
    | some co =>
      cases co with
      | lst xs =>
        simp only [hc] at k
        by_cases hl : xs.length < 1000000
        · rw [if_pos hl] at k
          obtain ⟨us, hv, ru⟩ := s.cel kk a _ hg hc
          have r1 : Reps K B γ [d] [w] := ⟨w, [], rfl, rw', rfl⟩
          obtain ⟨s3, e3⟩ := s.write hg (Reps.app ru r1)
          refine ⟨a, us, w, rfl, rfl, hv, by rw [ru.len]; exact Nat.lt_of_lt_of_le hl (by decide), ?_⟩
          exact k _ _ _ e3 s3 _ rfl
        · rw [if_neg hl] at k; exact k.elim
  · exact k.elim
theorem sim_ext : SimM K E rExtend gExt := by
  intro B γ c H d v ds vs Q s r1 r2 k
  unfold gExt at k
  split at k
  · rename_i kk ys
    obtain ⟨w, rfl, rw'⟩ := reps1 r2
    obtain ⟨a, rfl, hg⟩ := r1
    cases hc : c[kk]? with
    | none => rw [hc] at k; exact k.elim
    | some co =>
      cases co with
      | lst xs =>
        simp only [hc] at k
        by_cases hl : xs.length + ys.length ≤ 1000000
        · rw [if_pos hl] at k
          obtain ⟨us, hv, ru⟩ := s.cel kk a _ hg hc
          obtain ⟨b, ws, rfl, hb, rb⟩ := rw'
          obtain ⟨s3, e3⟩ := s.write hg (Reps.app ru rb)
          refine ⟨a, b, us, ws, rfl, rfl, hv, s.ex _ _ hb, by rw [ru.len, rb.len]; exact sz6 hl, ?_⟩
          exact k _ _ _ e3 s3 _ rfl
        · rw [if_neg hl] at k; exact k.elim
  · exact k.elim
end

/-! ### list(text), text * n -/
def gListS : D → Cs → R D := fun d c => match d with
  | .str x => if x.length ≤ 1000000 then .ok (.lst (signs x)) c else .bad
  | _ => .bad
def repS (x : Str) (n : Nat) : Str := ⟨(List.replicate n x.cps).foldl (· ++ ·) #[]⟩
def gMulS : D → D → Cs → R D := fun d e c => match d, e with
  | .str x, .int n => if 1 ≤ n ∧ n ≤ 100000 ∧ x.length ≤ 100 then .ok (.str (if (n == 1 || x.length == 0) = true then x else repS x n.toNat)) c else .bad
  | _, _ => .bad
theorem fold_size (xs : Array Nat) : ∀ (n : Nat) (acc : Array Nat), ((List.replicate n xs).foldl (· ++ ·) acc).size = acc.size + n * xs.size
  | 0, acc => by simp
  | n + 1, acc => by
    rw [List.replicate_succ, List.foldl_cons, fold_size xs n, Array.size_append, Nat.succ_mul]
    omega
theorem repS_size (x : Str) (n : Nat) : (repS x n).cps.size = n * x.cps.size := by
  show ((List.replicate n x.cps).foldl (· ++ ·) #[]).size = _
  rw [fold_size]
  simp
theorem signs_valsN : ∀ (cs : List Nat) (us : List Value), us.length = cs.length → (∀ (j : Nat) (v : Value), us[j]? = some v → ∃ c u, cs[j]? = some c ∧ v = .str ⟨#[c]⟩ u) → Vals (cs.map fun c => V.str ⟨#[c]⟩) us
  | [], [], _, _ => .nil
  | c :: cs, u :: us, hl, h => by
    obtain ⟨c', t, h1, h2⟩ := h 0 u rfl
    simp at h1
    subst h1
    exact .cons ⟨t, h2⟩ (signs_valsN cs us (by simpa using hl) fun j v hv => by simpa using h (j + 1) v (by simpa using hv))
theorem signs_vals (x : Str) (acc : Array Value) (h : ItemsOf (SignAt x) acc x.cps.size) : Vals (x.cps.toList.map fun c => V.str ⟨#[c]⟩) acc.toList :=
  signs_valsN _ _ (by simpa using h.1) fun j v hv => by
    obtain ⟨c, u, h1, h2⟩ := h.2 j v (by simpa using hv)
    exact ⟨c, u, by simpa using h1, h2⟩
section
variable {X : Cx}
theorem call_listS (hc : X.calm = true) : CallR X (.type "list") (fun xs H Q => ∃ x, xs = [V.str x] ∧ x.length ≤ sizeLine ∧ ∀ l, H l = none → Q (.ref l) (upd H l (.lst (x.cps.toList.map fun c => V.str ⟨#[c]⟩)))) := by
  intro pins s σ H xs us Q I r h
  obtain ⟨x, rfl, hl, q⟩ := h
  obtain ⟨u, rfl, t, rfl⟩ := vals1 r
  refine call_list_str (I.ok.hd hc) x t (fun h' tk acc' c' hk hS hacc => ?_) hl
  have hp : H s.heap.objs.size = none := I.hok.fresh (Nat.le_refl _)
  refine ⟨.ref s.heap.objs.size, _, I.laid (t' := tk) (o := .lst (x.cps.toList.map fun c => V.str ⟨#[c]⟩)) hk (Nat.le_refl _) ⟨by rw [List.length_map, Array.length_toList]; exact hl, acc'.toList, c', ?_, by simpa using hS⟩, rfl, q _ hp⟩
  exact signs_vals x acc' hacc
abbrev rLists (K : PySem.W.Frag) : List V → Hp → VK → Prop := fun xs H Q => (∃ p ys, xs = [V.ref p] ∧ (SqL K H p ys ∨ SqT K H p ys) ∧ ∀ l, H l = none → Q (.ref l) (upd H l (.lst ys))) ∨ (∃ x, xs = [V.str x] ∧ x.length ≤ sizeLine ∧ ∀ l, H l = none → Q (.ref l) (upd H l (.lst (x.cps.toList.map fun c => V.str ⟨#[c]⟩))))
theorem call_lists (hc : X.calm = true) : CallR X (.type "list") (rLists X.K) := call_list_of.or (call_listS hc)
/-- text * n, 1 ≤ n -/
def rMulS : R2 := fun x y H Q => ∃ (z : Str) (n : Int), x = .str z ∧ y = .int n ∧ 1 ≤ n ∧ n ≤ 100000 ∧ z.length ≤ 100 ∧ Q (.str (if (n == 1 || z.length == 0) = true then z else repS z n.toNat)) H
theorem op_mulS : OpR X (binaryOp .Mult) rMulS := by
  intro pins s σ H x y v u Q I rx ry h
  obtain ⟨z, n, rfl, rfl, h1, h2, h3, q⟩ := h
  obtain ⟨t, rfl⟩ := rx
  obtain ⟨t', rfl⟩ := ry
  have hlen : z.length * n.toNat ≤ 10000000 := Nat.le_trans (Nat.mul_le_mul h3 (show n.toNat ≤ 100000 by omega)) (by decide)
  refine P.mul_str ?_ (fun _ _ hgt => ?_) (fun _ _ => ?_) ?_
  · have a1 : ¬ n < -(2 ^ 63 : Int) := by omega
    have a2 : ¬ n ≥ 2 ^ 63 := by omega
    rw [decide_eq_false a1, decide_eq_false a2]
    rfl
  · have hd : (2 ^ 63 - 1 : Int) / n ≥ 100 := (Int.le_ediv_iff_mul_le (by omega)).mpr (by omega)
    omega
  · show decide (z.length * n.toNat > sizeLine) = false
    refine decide_eq_false ?_
    have : (10000000 : Nat) ≤ sizeLine := by decide
    omega
  · rw [if_neg (by omega)]
    by_cases hb : (n == 1 || z.length == 0) = true
    · rw [if_pos hb] at q ⊢
      exact ⟨.str z, H, I, ⟨_, rfl⟩, q⟩
    · rw [if_neg hb] at q ⊢
      refine ⟨?_, .str (repS z n.toNat), H, I.tok _, ⟨_, rfl⟩, q⟩
      show (repS z n.toNat).cps.size ≤ sizeLine
      have : (repS z n.toNat).cps.size = n.toNat * z.cps.size := repS_size z n.toNat
      rw [this]
      have h5 : z.cps.size * n.toNat ≤ 10000000 := hlen
      have : (10000000 : Nat) ≤ sizeLine := by decide
      rw [Nat.mul_comm]
      omega
end
section
variable {K : PySem.W.Frag} {E : XK}
theorem reps_signs {B : Hp} {γ : List Addr} (cs : List Nat) : Reps K B γ (cs.map fun c => D.str ⟨#[c]⟩) (cs.map fun c => V.str ⟨#[c]⟩) := by
  induction cs with
  | nil => exact rfl
  | cons c cs ih => exact ⟨_, _, rfl, rfl, ih⟩
def gLists : D → Cs → R D := fun d c => match d with
  | .str x => gListS (.str x) c
  | d => gList d c
theorem sim_lists : SimC K E (rLists K) (one gLists) := sim_one fun B γ c H d v Q s r k => by
  have back : ∀ (hk : Cont K E B γ H (gList d c) Q), rLists K [v] H Q := fun hk => .inl (sim_list B γ c H [d] [v] Q s ⟨v, [], rfl, r, rfl⟩ hk)
  cases d with
  | str x =>
    cases (show v = V.str x from r)
    have k' : Cont K E B γ H (if x.length ≤ 1000000 then .ok (.lst (signs x)) c else .bad) Q := k
    by_cases hl : x.length ≤ 1000000
    · rw [if_pos hl] at k'
      refine .inr ⟨x, rfl, sz6 hl, fun p hp => ?_⟩
      obtain ⟨s4, e4⟩ := s.new (o := .lst (x.cps.toList.map fun c => V.str ⟨#[c]⟩)) hp
      exact k' _ _ _ e4 s4 _ ⟨p, _, rfl, upd_same, reps_signs _⟩
    · rw [if_neg hl] at k'; exact k'.elim
  | lst ds => exact back k
  | sl ds => exact back k
  | tup ds => exact back k
  | _ => exact k.elim
theorem sim_mulS : Sim2 K E rMulS gMulS := by
  intro B γ c H dx dy x y Q s rx ry k
  unfold gMulS at k
  split at k
  · rename_i z n
    by_cases hl : 1 ≤ n ∧ n ≤ 100000 ∧ z.length ≤ 100
    · rw [if_pos hl] at k
      exact ⟨z, n, rx, ry, hl.1, hl.2.1, hl.2.2, cont_ok s k rfl⟩
    · rw [if_neg hl] at k; exact k.elim
  · exact k.elim
end
end T

set_option linter.all false
set_option maxRecDepth 100000
set_option maxHeartbeats 4000000
/-! What the generator's terms name besides. -/
namespace T
open PySem L2 Evl

theorem ie_gs {X : Cx} {E : XK} {x : Str} {z : Str} {pos : Pos} (hg : Gl X x) (hm : ∃ t, X.mg x = some (.str z t)) (hd : (x == ("__debug__" : Str)) = false := by decide) : IE X E (.Name x pos) (mC (.str z)) := by
  obtain ⟨t, h⟩ := hm
  exact ie_gstr hg h hd
theorem ie_gi {X : Cx} {E : XK} {x : Str} {z : Int} {pos : Pos} (hg : Gl X x) (hm : ∃ t, X.mg x = some (.int z t)) (hd : (x == ("__debug__" : Str)) = false := by decide) : IE X E (.Name x pos) (mC (.int z)) := by
  obtain ⟨t, h⟩ := hm
  exact ie_gint hg h hd
/-- a def of the text as callers see it -/
structure Callee (P : Program) (w : World) (K : PySem.W.Frag) (mg : Str → Option Value) (base : Heap) (x : Str) (ps : List Str) (k : Nat) (F : List D → Cs → R D) (f : Addr) (fd : FuncData) : Prop where
  ok : FnOk P w K mg base CX0 k f fd ps (spI K ps.length F)
  at' : mg x = some (.ref f)
  kp : PySem.W.keepIn K (.ref f) = true
  bd : Binds K fd ps []
/-- the defaults that fill up -/
def DflB (K : PySem.W.Frag) (fd : FuncData) (ps : List Str) (dds : List D) : Prop := ∃ dvs ds, Vals dvs ds ∧ Binds K fd ps ds ∧ ∀ B γ, Reps K B γ dds dvs
def mKw (m : Nat) (n : Nat) (gD : List D → List D) (F : List D → Cs → R D) (fs : MA) : ME := mCall (fun ds c => if ds.length = m ∧ (gD ds).length = n then (F (gD ds) c).ne else .bad) fs
section
variable {X : Cx} {E : XK} {k n : Nat} {f : Addr} {fd : FuncData} {ps : List Str} {x : Str} {p pos : Pos} {e : Expr} {es : List Expr} {fs : MA} {F : List D → Cs → R D} {dds : List D}
theorem Callee.call (C : Callee X.prog X.w X.K X.mg X.base x ps k F f fd) (hn : ps.length = n) (hr : Room k X.A) (ha : IA X E (e :: es) fs) (hg : Gl X x := by rfl)
    (hdb : (x == ("__debug__" : Str)) = false := by decide) (he : starEach (e :: es) X.env = (false, eval e X.env) :: starEach es X.env := by rfl) (hpl : (backTo pos (starEach es X.env)).any (·.1) = false := by rfl) :
    IE X E (.Call (.Name x p) (e :: es) [] pos) (mFn n F [] fs) := by
  subst hn
  exact ie_fn (dvs := []) C.ok hr hg C.at' C.kp C.bd .nil (fun _ _ => rfl) ha hdb he hpl
theorem Callee.dfl (C : Callee X.prog X.w X.K X.mg X.base x ps k F f fd) (D : DflB X.K fd ps dds) (hn : ps.length = n) (hr : Room k X.A) (ha : IA X E (e :: es) fs) (hg : Gl X x := by rfl)
    (hdb : (x == ("__debug__" : Str)) = false := by decide) (he : starEach (e :: es) X.env = (false, eval e X.env) :: starEach es X.env := by rfl) (hpl : (backTo pos (starEach es X.env)).any (·.1) = false := by rfl) :
    IE X E (.Call (.Name x p) (e :: es) [] pos) (mFn n F dds fs) := by
  subst hn
  obtain ⟨dvs, ds, h1, h2, h3⟩ := D
  exact ie_fn C.ok hr hg C.at' C.kp h2 h1 h3 ha hdb he hpl
theorem Callee.kw {m : Nat} {ks : List Str} {kws : List Keyword} {g : List Value → List Value → List Value} {gV : List V → List V → List V} {gD : List D → List D} (C : Callee X.prog X.w X.K X.mg X.base x ps k F f fd) (hb : KBn X.K fd ps 0 ks g gV) (hn : ps.length = n) (hm2 : ks.length = m)
    (hgD : ∀ B γ ds vs, ds.length = m → Reps X.K B γ ds vs → Reps X.K B γ (gD ds) (gV [] vs)) (hr : Room k X.A) (hkw : IK X E kws fs) (hg : Gl X x := by rfl) (hall : (backToKw pos (keywordEach kws X.env)).all (·.1.isSome) = true := by rfl) (hks : (backToKw pos (keywordEach kws X.env)).filterMap (·.1) = ks := by rfl)
    (hdb : (x == ("__debug__" : Str)) = false := by decide)
    (hpl : ((backTo pos (starEach [] X.env)).any (·.1) || (backToKw pos (keywordEach kws X.env)).any (·.1.isNone)) = false := by rfl) :
    IE X E (.Call (.Name x p) [] kws pos) (mKw m n gD F fs) := by
  subst hn
  exact ie_fnK0 C.ok hr hg C.at' C.kp hb hm2 hgD hkw hall hks hdb hpl
end
theorem kd_2_10 {K : PySem.W.Frag} : ∀ (B : Hp) (γ : List Addr) (ds : List D) (vs : List V), ds.length = 2 → Reps K B γ ds vs → Reps K B γ [ds.getD 1 D.non, ds.getD 0 D.non] [vs.getD 1 .non, vs.getD 0 .non] := by
  intro B γ ds vs hl r
  match ds, hl, r with
  | [a, b], _, r =>
    obtain ⟨v, w, rfl, r1, r2⟩ := reps2 r
    exact ⟨w, [v], rfl, r2, ⟨v, [], rfl, r1, rfl⟩⟩
section
variable {K : PySem.W.Frag} {x qual : Str} {params : Arguments} {body : List Stmt} {scope : Scope} {dvs : List V} {f : Addr} {fd : FuncData} {ps : List Str}
theorem kbn_def (F : FunD K x qual params body scope dvs [] f fd) (hd : dvs ≠ []) (n : Nat) (ks : List Str) (g : List Value → List Value → List Value) (gV : List V → List V → List V)
    (hrel : ∀ {vs : List V} {us : List Value} {zs : List V} {ws : List Value}, Vals vs us → Vals zs ws → Vals (gV vs zs) (g us ws))
    (h : ∀ (T : Addr) (kV doc pm : Value) (an : Option Addr) (cdv ct : Value) (us its ws : List Value), us.length = n → its.length = dvs.length → ws.length = ks.length →
      ∃ k, bindArgs (PySem.W.fnOf x qual params body scope (.ref T) kV doc pm an cdv ct) ⟨us, ks.zip ws⟩ = seqItems? (.ref T) >>= k ∧ k (some its.toArray) = pure (ps.zip (g us ws))) : KBn K fd ps n ks g gV := by
  obtain ⟨oc, od, dV, kV, doc, pm, an, cdv, ct, osl, rfl, lk, hcd, hD, hK⟩ := F.ex
  rcases hD with ⟨e, _⟩ | ⟨_, T, o, its, m, rfl, lT, oT, rT⟩
  · exact absurd e hd
  · refine ⟨fun s us ws X l1 l2 => ?_, hrel⟩
    obtain ⟨k, e1, e2⟩ := h T kV doc pm an cdv ct us its ws l1 rT.length.symm l2
    refine BindsTo.of_looks fun M => ?_
    rw [e1]
    exact looks_items X lT oT (.of_pure e2)
theorem kbn_nod (F : FunD K x qual params body scope [] [] f fd) (n : Nat) (ks : List Str) (g : List Value → List Value → List Value) (gV : List V → List V → List V)
    (hrel : ∀ {vs : List V} {us : List Value} {zs : List V} {ws : List Value}, Vals vs us → Vals zs ws → Vals (gV vs zs) (g us ws))
    (h : ∀ (kV doc pm : Value) (an : Option Addr) (cdv ct : Value) (us ws : List Value), us.length = n → ws.length = ks.length →
      bindArgs (PySem.W.fnOf x qual params body scope .none kV doc pm an cdv ct) ⟨us, ks.zip ws⟩ = pure (ps.zip (g us ws))) : KBn K fd ps n ks g gV := by
  obtain ⟨oc, od, dV, kV, doc, pm, an, cdv, ct, osl, rfl, lk, hcd, hD, hK⟩ := F.ex
  rcases hD with ⟨_, rfl⟩ | ⟨e, _⟩
  · exact ⟨fun s us ws X l1 l2 => .of_eq (h kV doc pm an cdv ct us ws l1 l2), hrel⟩
  · exact absurd rfl e
theorem Vals.getD : ∀ {vs : List V} {us : List Value} (i : Nat), Vals vs us → RelV (vs.getD i .non) (us.getD i .none)
  | _, _, _, .nil => rfl
  | _, _, 0, .cons r t => r
  | _, _, i + 1, .cons r t => Vals.getD i t
end
/-- nothing is promised -/
theorem fn_bad {P : Program} {w : World} {K : PySem.W.Frag} {mg : Str → Option Value} {base : Heap} {k n : Nat} {f : Addr} {fd : FuncData} {ps : List Str} (hn : ps.length = n) : FnOk P w K mg base CX0 k f fd ps (spI K n fun _ _ => .bad) :=
  ⟨fun vs H Q E h => by rw [hn]; exact h.1, fun A outer s H args us vs Q E hr he hb hv h => by
    obtain ⟨_, B, γ, c, ds, st, r, k⟩ := h
    exact k.elim⟩
/-! ### a sign in a text -/
def gInS : D → D → Cs → R D := fun a b c => match a, b with
  | .str x, .str z => match x.cps.toList with
    | [n] => .ok (.bl (decide (n ∈ z.cps.toList))) c
    | _ => .bad
  | _, _ => .bad
def gNotInS : D → D → Cs → R D := fun a b c => match a, b with
  | .str x, .str z => match x.cps.toList with
    | [n] => .ok (.bl (!decide (n ∈ z.cps.toList))) c
    | _ => .bad
  | _, _ => .bad
theorem str_one {x : Str} {n : Nat} (h : x.cps.toList = [n]) : x = ⟨#[n]⟩ := by
  obtain ⟨a⟩ := x
  have : a = #[n] := by
    rw [← Array.toArray_toList (xs := a), show a.toList = [n] from h]
  rw [this]
section
variable {K : PySem.W.Frag} {E : XK}
theorem sim_inS : Sim2 K E (fun x y H Q => ∃ (c : Nat) (z : Str), x = .str ⟨#[c]⟩ ∧ y = .str z ∧ Q (.bl (decide (c ∈ z.cps.toList))) H) gInS := by
  intro B γ c H dx dy x y Q s rx ry k
  unfold gInS at k
  split at k
  · rename_i a z
    cases h : a.cps.toList with
    | nil => rw [h] at k; exact k.elim
    | cons n r =>
      cases r with
      | nil =>
        rw [h] at k
        rw [str_one h] at rx
        exact ⟨n, z, rx, ry, cont_ok s k rfl⟩
      | cons m r => rw [h] at k; exact k.elim
  · exact k.elim
theorem sim_notInS : Sim2 K E (fun x y H Q => ∃ (c : Nat) (z : Str), x = .str ⟨#[c]⟩ ∧ y = .str z ∧ Q (.bl (!decide (c ∈ z.cps.toList))) H) gNotInS := by
  intro B γ c H dx dy x y Q s rx ry k
  unfold gNotInS at k
  split at k
  · rename_i a z
    cases h : a.cps.toList with
    | nil => rw [h] at k; exact k.elim
    | cons n r =>
      cases r with
      | nil =>
        rw [h] at k
        rw [str_one h] at rx
        exact ⟨n, z, rx, ry, cont_ok s k rfl⟩
      | cons m r => rw [h] at k; exact k.elim
  · exact k.elim
end
/-! ### a, b = x, y -/
def sPar (i j : Nat) (f : MA) : MS := fun σ c => (f σ c).toS fun ds c => match ds with
  | [a, b] => .nx ((σ.set i (some a)).set j (some b)) c
  | _ => .bad
/-! ### two clauses -/
def lc2L (vs1 : List Nat) (g : MG) (w1 : MA) (g1 : MG) (f : ME) (σ : Sd) : List D → Cs → R (List D)
  | [], c => .ok [] c
  | d :: ds, c => (g d σ c).ne.bind fun σ1 c => (w1 σ1 c).ne.bind fun es c => if es.length ≤ 1000 then (lcL g1 tYesD f (wipeD σ1 vs1) es c).bind fun xs c => (lc2L vs1 g w1 g1 f σ ds c).bind fun ys c => .ok (xs ++ ys) c else .bad
def mLc2 (vs vs1 : List Nat) (w : MA) (g : MG) (w1 : MA) (g1 : MG) (f : ME) : ME := fun σ c => (w σ c).bind fun ds c => if ds.length ≤ 10000 then (lc2L vs1 g w1 g1 f (wipeD σ vs) ds c).bind fun xs c => .ok (.lst xs) c else .bad
end T

set_option linter.all false
set_option maxRecDepth 100000
set_option maxHeartbeats 4000000
/-! Comprehensions of two clauses. -/
namespace T
open PySem L2 Evl
section
variable {X : Cx} {E : XK} {w w1 : MA} {g g1 : MG} {f : ME}
theorem lc2_read {vs vs1 : List Nat} : ∀ σ H Q, tm X.K E (mLc2 vs vs1 w g w1 g1 f) σ H Q → tLc2 (ti X.K E w) (tgw X.K E0 vs g) (tt X.K E0 tYesD) (ti X.K E0 w1) (tgw X.K E0 vs1 g1) (tt X.K E0 tYesD) (tm X.K E0 f) vs vs1 σ H Q := by
  intro σ H Q ⟨B, γ, c, σd, s, rs, k⟩
  refine ⟨B, γ, c, σd, s, rs, cnt_bind k fun ds c1 B1 γ1 H1 _ e1 s1 k1 J wk L hL => ?_⟩
  by_cases hlen : ds.length ≤ 10000
  rotate_left
  · simp only [hlen, if_false] at k1; exact k1.elim
  simp only [hlen, if_true] at k1
  have rs1 := rs.mono e1.ex e1.pre
  have hsz : 10000 * 1000 + 1000 < sizeLine := by rw [sizeLine_eq]; decide
  refine ⟨fun i m H2 => m = ds.length - i ∧ i ≤ ds.length ∧ ∃ B2 γ2 c2 acc accD, Apart X.K B2 γ2 c2 H2 L acc ∧ Ext B1 γ1 H1 B2 γ2 H2 ∧ Reps X.K B2 γ2 accD acc ∧ acc.length ≤ i * 1000 ∧
    lc2L vs1 g w1 g1 f (wipeD σd vs) ds c1 = ((lc2L vs1 g w1 g1 f (wipeD σd vs) (ds.drop i) c2).bind fun xs c => .ok (accD ++ xs) c),
    ⟨_, rfl, Nat.zero_le _, B1, γ1, c1, [], [], Apart.new s1 hL, (Ext.refl _ _ _).put hL, rfl, Nat.zero_le _, ?_⟩, ?_⟩
  · cases h : lc2L vs1 g w1 g1 f (wipeD σd vs) ds c1 <;> simp [List.drop_zero, h, R.bind]
  rintro i m H2 ⟨rfl, hi, B2, γ2, c2, acc, accD, ap, e2, ra, hacc, eq⟩
  obtain ⟨wk1, wk2⟩ := wk B2 γ2 c2 H2 i e2.ex e2.pre ap.s
  by_cases hl : i < ds.length
  · obtain ⟨go1, go2⟩ := wk1 ds[i] (List.getElem?_eq_getElem hl)
    rw [List.drop_eq_getElem_cons hl] at eq
    have nbad : lc2L vs1 g w1 g1 f (wipeD σd vs) ds c1 ≠ .bad := fun z => by rw [z] at k1; exact k1.elim
    refine .inr ⟨go1, fun H3 => ∃ m', m' < ds.length - i ∧ (m' = ds.length - (i + 1) ∧ i + 1 ≤ ds.length ∧ ∃ B2 γ2 c2 acc accD, Apart X.K B2 γ2 c2 H3 L acc ∧ Ext B1 γ1 H1 B2 γ2 H3 ∧ Reps X.K B2 γ2 accD acc ∧ acc.length ≤ (i + 1) * 1000 ∧
      lc2L vs1 g w1 g1 f (wipeD σd vs) ds c1 = ((lc2L vs1 g w1 g1 f (wipeD σd vs) (ds.drop (i + 1)) c2).bind fun xs c => .ok (accD ++ xs) c)), fun H' h => h, fun x H' y => ?_⟩
    obtain ⟨B3, e3, s3, r3⟩ := go2 x H' y
    have ap3 := ap.next e3 s3
    have e13 := e2.trans e3
    refine ⟨B3, γ2, c2, wipeD σd vs, ds[i], s3, (rs1.mono e13.ex e13.pre).wipe vs, r3, ?_⟩
    rw [lc2L] at eq
    cases hg : g ds[i] (wipeD σd vs) c2 with
    | exc z cz => rw [hg] at eq; exact absurd eq nbad
    | bad => rw [hg] at eq; exact absurd eq nbad
    | ok σ4 c4 =>
      rw [hg] at eq
      intro B4 γ4 H4 e4 s4 σ' _ _ rs4 hw
      have hw' : wipe σ' vs = wipe σ vs := by rw [hw]; exact wipe_wipe σ vs
      refine ⟨hw', B4, γ4, c4, σ4, s4, rs4, ?_⟩
      have ap4 := ap3.next e4 s4
      intro B5 γ5 H5 e5 s5
      have ap5 := ap4.next e5 s5
      show ti X.K E0 w1 σ' H5 _
      refine ⟨B5, γ5, c4, σ4, s5, rs4.mono e5.ex e5.pre, ?_⟩
      cases hw1 : w1 σ4 c4 with
      | exc z cz => simp only [R.ne, R.bind, hw1] at eq; exact absurd eq nbad
      | bad => simp only [R.ne, R.bind, hw1] at eq; exact absurd eq nbad
      | ok es c6 =>
        simp only [R.ne, R.bind, hw1] at eq
        intro B6 γ6 H6 e6 s6 J1 wk3
        by_cases hes : es.length ≤ 1000
        rotate_left
        · simp only [hes, if_false] at eq; exact absurd eq nbad
        simp only [hes, if_true] at eq
        have ap6 := ap5.next e6 s6
        have e36 := e3.trans (e4.trans (e5.trans e6))
        have e16 := e2.trans e36
        have rs6 := rs4.mono (e5.trans e6).ex (e5.trans e6).pre
        refine ⟨fun j kk H7 => kk = es.length - j ∧ j ≤ es.length ∧ ∃ B7 γ7 c7 acc7 accD7, Apart X.K B7 γ7 c7 H7 L acc7 ∧ Ext B1 γ1 H1 B7 γ7 H7 ∧ (Ex B6 B7 ∧ γ6 <+: γ7) ∧ Reps X.K B7 γ7 accD7 acc7 ∧ acc7.length ≤ i * 1000 + j ∧
          lc2L vs1 g w1 g1 f (wipeD σd vs) ds c1 = ((lcL g1 tYesD f (wipeD σ4 vs1) (es.drop j) c7).bind fun xs c => (lc2L vs1 g w1 g1 f (wipeD σd vs) (ds.drop (i + 1)) c).bind fun ys c => .ok (accD7 ++ xs ++ ys) c),
          ⟨_, rfl, Nat.zero_le _, B6, γ6, c6, acc, accD, ap6, e16, ⟨Ex.refl _, List.prefix_refl _⟩, Reps.mono e36.ex e36.pre _ _ ra, by omega, ?_⟩, ?_⟩
        · rw [eq, List.drop_zero]
          cases lcL g1 tYesD f (wipeD σ4 vs1) es c6 with
          | ok xs c7 =>
            simp only [R.bind]
            cases lc2L vs1 g w1 g1 f (wipeD σd vs) (ds.drop (i + 1)) c7 <;> simp [R.bind]
          | exc z cz => rfl
          | bad => rfl
        rintro j kk H7 ⟨rfl, hj, B7, γ7, c7, acc7, accD7, ap7, e17, ⟨e67, p67⟩, ra7, hacc7, eq7⟩
        obtain ⟨wk4, wk5⟩ := wk3 B7 γ7 c7 H7 j e67 p67 ap7.s
        by_cases hjl : j < es.length
        · obtain ⟨go3, go4⟩ := wk4 es[j] (List.getElem?_eq_getElem hjl)
          rw [List.drop_eq_getElem_cons hjl] at eq7
          refine .inr ⟨go3, fun H8 => ∃ k', k' < es.length - j ∧ (k' = es.length - (j + 1) ∧ j + 1 ≤ es.length ∧ ∃ B7 γ7 c7 acc7 accD7, Apart X.K B7 γ7 c7 H8 L acc7 ∧ Ext B1 γ1 H1 B7 γ7 H8 ∧ (Ex B6 B7 ∧ γ6 <+: γ7) ∧ Reps X.K B7 γ7 accD7 acc7 ∧ acc7.length ≤ i * 1000 + (j + 1) ∧
            lc2L vs1 g w1 g1 f (wipeD σd vs) ds c1 = ((lcL g1 tYesD f (wipeD σ4 vs1) (es.drop (j + 1)) c7).bind fun xs c => (lc2L vs1 g w1 g1 f (wipeD σd vs) (ds.drop (i + 1)) c).bind fun ys c => .ok (accD7 ++ xs ++ ys) c)), fun H' h => h, fun x H' y => ?_⟩
          obtain ⟨B8, e8, s8, r8⟩ := go4 x H' y
          have ap8 := ap7.next e8 s8
          refine ⟨B8, γ7, c7, wipeD σ4 vs1, es[j], s8, (rs6.mono (e67.trans e8.ex) (p67.trans e8.pre)).wipe vs1, r8, ?_⟩
          rw [lcL] at eq7
          cases hg1 : g1 es[j] (wipeD σ4 vs1) c7 with
          | exc z cz => rw [hg1] at eq7; exact absurd eq7 nbad
          | bad => rw [hg1] at eq7; exact absurd eq7 nbad
          | ok σ9 c9 =>
            rw [hg1] at eq7
            simp only [R.ne, R.bind, tYesD, if_true] at eq7
            intro B9 γ9 H9 e9 s9 σ'' _ _ rs9 hw2
            have hw2' : wipe σ'' vs1 = wipe σ' vs1 := by rw [hw2]; exact wipe_wipe σ' vs1
            refine ⟨hw2', B9, γ9, c9, σ9, s9, rs9, ?_⟩
            have ap9 := ap8.next e9 s9
            intro Ba γa Ha ea sa
            have apa := ap9.next ea sa
            show tm X.K E0 f σ'' Ha _
            refine ⟨Ba, γa, c9, σ9, sa, rs9.mono ea.ex ea.pre, ?_⟩
            cases hf : f σ9 c9 with
            | exc z cz => simp only [hf] at eq7; exact absurd eq7 nbad
            | bad => simp only [hf] at eq7; exact absurd eq7 nbad
            | ok xb cb =>
              simp only [hf] at eq7
              intro Bb γb Hb eb sb v rv
              have apb := apa.next eb sb
              have e7b := e8.trans (e9.trans (ea.trans eb))
              have e1b := e17.trans e7b
              have rab := Reps.mono e7b.ex e7b.pre _ _ ra7
              refine ⟨acc7, apb.h, by omega, es.length - (j + 1), by omega, rfl, hjl, Bb, γb, cb, acc7 ++ [v], accD7 ++ [xb], apb.put, e1b.put hL, ⟨e67.trans e7b.ex, p67.trans e7b.pre⟩, Reps.app rab ⟨v, [], rfl, rv, rfl⟩, by simp; omega, ?_⟩
              rw [eq7]
              cases lcL g1 tYesD f (wipeD σ4 vs1) (es.drop (j + 1)) cb with
              | ok xs cc =>
                simp only [R.bind]
                cases lc2L vs1 g w1 g1 f (wipeD σd vs) (ds.drop (i + 1)) cc <;> simp [R.bind]
              | exc z cz => rfl
              | bad => rfl
        · have hn : es.drop j = [] := List.drop_eq_nil_of_le (by omega)
          rw [hn] at eq7
          simp only [lcL, R.bind, List.append_nil] at eq7
          exact .inl ⟨wk5 (by omega), ds.length - (i + 1), by omega, rfl, hl, B7, γ7, c7, acc7, accD7, ap7, e17, ra7, by omega, eq7⟩
  · have hn : ds.drop i = [] := List.drop_eq_nil_of_le (by omega)
    rw [hn] at eq
    simp only [lc2L, R.bind, List.append_nil] at eq
    refine .inl ⟨wk2 (by omega), ?_⟩
    rw [eq] at k1
    obtain ⟨sd, ed⟩ := ap.done
    exact k1 _ _ _ (e2.lay hL ap.nb) sd _ ⟨L, acc, rfl, upd_same, Reps.mono ed (List.prefix_refl γ2) _ _ ra⟩
end
end T

set_option linter.all false
set_option maxRecDepth 100000
set_option maxHeartbeats 2000000
/-! Sets of texts, with repeats: set(text), set(list of texts), sorted, len. -/
namespace SX
open PySem PySem.Spec PyProof.Rows L2 PySem.Froz
/-- the payload can be walked in order -/
def GoodD (w : World) (D : SD) : Prop := Ris D.2.2.place.toList ∧ (w.params.followText "set-order" = true ∨ D.2.2.led = true)
/-- the set at a holds the texts l, each once -/
structure SetS (P : Program) (w : World) (h : Heap) (a : Addr) (l : List Str) : Prop where
  ex : ∃ D : SD, h.get? a = some (sObj "set" D) ∧ TxOk P w D l ∧ GoodD w D
  nd : l.Nodup
section
variable {P : Program} {w : World} {A : Around} {E : Value → Shared → Prop} {s : Shared} {a : Addr} {l : List Str}
theorem SetS.keep {h h' : Heap} (R : SetS P w h a l) (k : ∀ o, h.get? a = some o → h'.get? a = some o) : SetS P w h' a l := by
  obtain ⟨⟨D, h1, h2⟩, h3⟩ := R
  exact ⟨⟨D, k _ h1, h2⟩, h3⟩
theorem tail_good {ep : Nat} {es : Array (Int × Value)} {t : SetTable} {b : Bool} (h : GoodD w (es, ep, t)) : GoodD w (tailTx ep es t b) := by
  unfold tailTx
  split
  · refine ⟨relayAll_ris t es _, h.2.imp id fun z => ?_⟩
    have q : (relayAll t es (SetTable.grown es.size)).2.1.led = t.led := relayAll_led t es _
    exact q.trans z
  · exact h
theorem add_good {D : SD} (h : Int) (v : Value) (g : GoodD w D) : GoodD w (addTx h v D) := by
  have r := layNew_ris D.2.2 D.1 h v g.1
  have q := layNew_led D.2.2 D.1 h v
  refine tail_good ?_
  split
  · exact ⟨r, g.2.imp id fun z => q.trans z⟩
  · exact ⟨r, g.2.imp id fun z => q.trans z⟩
theorem dup_x {D : SD} {k : Str} {u : Tok} {Q : Bool → Shared → Prop} (ho : s.heap.get? a = some (sObj "set" D)) (F : TxOk P w D l) (hk : k ∈ l) (hb : l.length < scanBound)
    (h : Q false s) : wpAny (model P w) A (setAddHashed a (.str k u) (hashStr w k)) Q E s := by
  obtain ⟨es, ep, t⟩ := D
  have hd : (sObj "set" (es, ep, t)).data = .set es ep t := rfl
  have hf : t.fits es.size = true := F.fit
  have hel : ElemsOf (strKind P w) es.toList := F.el
  have hsz : es.size = l.length := F.sz
  unfold setAddHashed setAddHashedIn
  refine wpAny_holding (wpAny_bind (wpAny_setState_of ho hd hf ?_))
  dsimp only
  rw [byScan_of rfl (by omega) hel]
  simp only [↓reduceIte]
  unfold setAddByScan
  refine wpAny_bind (wpAny_bind (wpAny_rule (wpAny_bind (wpAny_setScan_of (knd := strKind P w) (k := k) (is_str k u) ho hd hf hel ?_))))
  cases hr : List.findIdx? (fun e => (strKind P w).is k e.2) es.toList with
  | none =>
    obtain ⟨e, he, z⟩ := (F.mem k).mp hk
    have := List.findIdx?_eq_none_iff.mp hr e he
    rw [z] at this
    cases this
  | some j =>
    dsimp only
    exact wpAny_pure (wpAny_pure h)
/-- the texts behind one more -/
def insS (l : List Str) (k : Str) : List Str := if k ∈ l then l else k :: l
theorem mem_insS {l : List Str} {k x : Str} : x ∈ insS l k ↔ x = k ∨ x ∈ l := by
  unfold insS
  split
  · rename_i h
    exact ⟨.inr, fun z => z.elim (fun e => e ▸ h) id⟩
  · exact List.mem_cons
theorem len_insS {l : List Str} {k : Str} : (insS l k).length ≤ l.length + 1 := by
  unfold insS
  split
  · omega
  · exact Nat.le_refl _
theorem addS {k : Str} {u : Tok} {Q : Bool → Shared → Prop} (R : SetS P w s.heap a l) (hb : l.length + 1 < scanBound)
    (h : ∀ b h', (∀ c, c ≠ a → h'.get? c = s.heap.get? c) → SetS P w h' a (insS l k) → Q b { s with heap := h' }) : wpAny (model P w) A (setAddHashed a (.str k u) (hashStr w k)) Q E s := by
  obtain ⟨⟨D, h1, h2, h3⟩, nd⟩ := R
  by_cases hk : k ∈ l
  · refine dup_x h1 h2 hk (by omega) (h false s.heap (fun c _ => rfl) ?_)
    unfold insS
    rw [if_pos hk]
    exact ⟨⟨D, h1, h2, h3⟩, nd⟩
  · refine add_x h1 h2 hk hb (h true _ (fun c hc => Heap.get?_update_ne _ _ _ _ hc) ?_)
    unfold insS
    rw [if_neg hk]
    exact ⟨⟨_, get_upd _ h1 rfl, add_ok u h2, add_good _ _ h3⟩, List.nodup_cons.mpr ⟨hk, nd⟩⟩
end
section
variable {P : Program} {w : World} {A : Around} {I : Addr} {fp wr : List Addr} {G : Array GenState → Array GenState → Prop} {n : Nat} {Pv : Nat → Value → Prop} {St : Nat → Shared → Prop} {R : Result → Shared → Prop}
theorem upd_loop (W : WalksS P w A.in1 I fp wr G n Pv St) (S : Addr) (hSf : S ∉ fp) (xs : List Str) (hn : n = xs.length) (hb : xs.length < scanBound) (hval : ∀ i v, Pv i v → ∃ x t, xs[i]? = some x ∧ v = .str x t) :
    ∀ (k i : Nat) (s : Shared), n - i = k → i ≤ n → St i s → (∃ l, SetS P w s.heap S l ∧ (∀ x, x ∈ l ↔ x ∈ xs.take i) ∧ l.length ≤ i) →
      (∀ s' l, Moved (S :: wr) G s s' → SetS P w s'.heap S l → (∀ x, x ∈ l ↔ x ∈ xs) → l.length ≤ n → R (.ok (.ret .none)) s') →
      codeAny (model P w) A (.builtin "set.update.loop" ⟨[.ref S, .ref I], []⟩) R s := by
  have hSw : S ∉ wr := fun h => hSf (W.sub _ h)
  have hsub : ∀ b ∈ wr, b ∈ S :: wr := fun b hb => List.mem_cons_of_mem _ hb
  intro k
  induction k with
  | zero =>
    intro i s hk hi hst ⟨l, hS, hm, hl⟩ hR
    have hin : i = n := by omega
    subst hin
    refine codeAny_builtin F.entry_set_update_loop ?_
    rw [Around.under_plainId F.plain_set_update_loop _]
    show wpAny _ A.in1 (pyNext (.ref I) >>= _) _ _ s
    refine wpAny_bind (W.done s _ _ hst fun s' hmv => ?_)
    show wpAny _ A.in1 (ret Value.none) _ _ s'
    refine wpAny_pure (hR s' l (hmv.mono hsub) (hS.keep fun o e => hmv.heap S o hSw e) (fun x => ?_) hl)
    rw [hm x, hn, List.take_length]
  | succ k ih =>
    intro i s hk hi hst ⟨l, hS, hm, hl⟩ hR
    have hlt : i < n := by omega
    refine codeAny_builtin F.entry_set_update_loop ?_
    rw [Around.under_plainId F.plain_set_update_loop _]
    show wpAny _ A.in1 (pyNext (.ref I) >>= _) _ _ s
    refine wpAny_bind (W.item i s _ _ hlt hst fun v s' hP hst' hmv => ?_)
    obtain ⟨x, t, hx, rfl⟩ := hval i v hP
    have hS' : SetS P w s'.heap S l := hS.keep fun o e => hmv.heap S o hSw e
    show wpAny _ A.in1 (holding [Value.str x t] (setAdd S (.str x t)) >>= _) _ _ s'
    refine wpAny_bind (wpAny_holding ?_)
    unfold setAdd
    refine wpAny_holding ?_
    refine wpAny_bind ((strKind P w).pyHash (k := x) (is_str _ _) ?_)
    refine addS (s := { s' with toks := s'.toks + 1 }) hS' (by omega) fun b h' hsb hS2 => ?_
    have hi1 : i < xs.length := by omega
    have hx' : xs[i] = x := by
      rw [List.getElem?_eq_getElem hi1] at hx
      exact Option.some.inj hx
    have tk : ∀ y, y ∈ insS l x ↔ y ∈ xs.take (i + 1) := fun y => by
      rw [mem_insS, hm y, List.take_succ_eq_append_getElem hi1, List.mem_append, List.mem_singleton, hx']
      exact Or.comm
    refine wpAny_pure ⟨plainId_quiet F.plain_set_update_loop _, ih (i + 1) _ (by omega) hlt (W.frame _ s' _ _ hst' (Nat.le_succ _) fun b hb o e => ?_) ⟨_, hS2, tk, by have := len_insS (l := l) (k := x); omega⟩ fun s'' l2 hm2 hS3 hl2 hl3 => ?_⟩
    · rw [hsb b (fun z => hSf (z ▸ hb))]; exact e
    · refine hR s'' l2 (Moved.trans W.gtrans ((hmv.mono hsub).then_heap (Nat.le_succ _) fun b o hb e => ?_) hm2) hS3 hl2 hl3
      rw [hsb b (fun z => hb (by rw [z]; exact List.mem_cons_self))]; exact e
end
section
variable {P : Program} {w : World} {A : Around} {E : Value → Shared → Prop} {s : Shared}
/-- a new set -/
def fresh (w : World) : Obj := { cls := .type "set", dict := none, data := .set #[] 0 (.fresh 0 0 (!w.params.followText "set-order")) }
theorem setS_fresh {h : Heap} {a : Addr} (ho : h.get? a = some (fresh w)) : SetS P w h a [] := by
  refine ⟨⟨(#[], 0, .fresh 0 0 (!w.params.followText "set-order")), ho, TxOk.nil rfl, List.Pairwise.nil, ?_⟩, List.nodup_nil⟩
  show _ ∨ (!w.params.followText "set-order") = true
  cases w.params.followText "set-order"
  · exact .inr rfl
  · exact .inl rfl
/-- what set(v) does -/
def Fills (P : Program) (w : World) (s : Shared) (v : Value) (xs : List Str) : Prop := ∀ (A : Around) (E : Value → Shared → Prop) (Q : Unit → Shared → Prop), A.handled = none →
  (∀ h' tk l, SetS P w h' s.heap.objs.size l → (∀ x, x ∈ l ↔ x ∈ xs) → l.length ≤ xs.length → (∀ b o, s.heap.get? b = some o → h'.get? b = some o) → Q () { s with heap := h', toks := tk }) →
  wpAny (model P w) A (Builtin.Frozenset.updateFrom "set.__init__" s.heap.objs.size v) Q E { s with heap := s.heap.push (fresh w) }
set_option maxHeartbeats 3200000 in
theorem call_setS {v : Value} {xs : List Str} {Q : Value → Shared → Prop} (hh : A.handled = none) (hf : Fills P w s v xs)
    (h : ∀ h' tk l, SetS P w h' s.heap.objs.size l → (∀ x, x ∈ l ↔ x ∈ xs) → l.length ≤ xs.length → (∀ b o, s.heap.get? b = some o → h'.get? b = some o) → Q (.ref s.heap.objs.size) { s with heap := h', toks := tk }) :
    wpAny (model P w) A (call (.type "set") [v]) Q E s := by
  obtain ⟨c, tl, hmro⟩ := F.called_set.mro
  have hmade := F.called_set.made
  have hsub := F.called_set.sub
  refine wpAny_call (codeAny_of_tree ?_)
  show wpAny _ _ (callAny (.type "set") _) _ _ _
  refine wpAny_pure ⟨Code.quiet_builtin _ (by decide +kernel), codeAny_builtin F.entry_type_call ?_⟩
  rw [Around.under_plain (weight_type_call_type "set" [v] []) rfl]
  have h1 := F.called_set.notType
  have h2 := F.called_set.canCreate
  have hct := F.typeCall_set_1 v
  repeat (any_goals (first | assumption | wp_step))
  refine codeAny_mono (code_set_led1 v (E := E) (Q₁ := fun obj s₁ => obj = .ref s.heap.objs.size ∧ s₁ = { s with heap := s.heap.push (fresh w) }) ⟨rfl, rfl⟩) fun r s₁ hr => ?_
  cases r with
  | error e => exact hr
  | ok fl =>
    cases fl with
    | ret obj =>
      obtain ⟨rfl, rfl⟩ := hr
      have hS : (s.heap.push (fresh w)).get? s.heap.objs.size = some (fresh w) := Heap.get?_push_size _ rfl
      have hT : Shared.TypeIs { s with heap := s.heap.push (fresh w) } (.ref s.heap.objs.size) "set" := ⟨_, hS, rfl⟩
      have hli := F.called_set.init.lookup
      have hbi := F.called_set.init.bind (.ref s.heap.objs.size)
      repeat (any_goals (first | assumption | wp_step))
      refine codeAny_mono (codeAny_call_builtin (R := wants (fun r s₂ => r = .none ∧ ∃ h' tk l, s₂ = { s with heap := h', toks := tk } ∧ SetS P w h' s.heap.objs.size l ∧ (∀ x, x ∈ l ↔ x ∈ xs) ∧ l.length ≤ xs.length ∧
          (∀ b o, s.heap.get? b = some o → h'.get? b = some o)) E) F.called_set.init.plain F.entry_set_init (check_set_init_1 hT ?_)) fun r₂ s₂ hr₂ => ?_
      · have hd : (fresh w).data = .set #[] 0 (.fresh 0 0 (!w.params.followText "set-order")) := rfl
        have hc : (fresh w).cls = .type "set" := rfl
        unfold fresh at hS hT hd hc
        unfold Builtin.«set.__init__» noKeywords
        generalize hU : Builtin.Frozenset.updateFrom = U
        wp_walk
        subst hU
        exact hf _ _ _ (by simp [hh]) fun h' tk l a1 a2 a3 a4 => wpAny_pure ⟨rfl, h', tk, l, rfl, a1, a2, a3, a4⟩
      · cases r₂ with
        | error e => exact hr₂
        | ok fl₂ =>
          cases fl₂ with
          | ret r =>
            obtain ⟨rfl, h', tk, l, rfl, a1, a2, a3, a4⟩ := hr₂
            repeat (any_goals (first | assumption | wp_step))
            exact h _ _ _ a1 a2 a3 a4
          | _ => exact hr₂.elim
    | _ => exact hr.elim
theorem none_of {h : Heap} {b : Addr} (hb : h.objs.size ≤ b) : h.get? b = none := by
  cases q : h.get? b with
  | none => rfl
  | some o => exact absurd (Nat.lt_of_lt_of_le (Heap.lt_size q) hb) (Nat.lt_irrefl _)
def sgn (x : Str) : List Str := x.cps.toList.map fun c => ⟨#[c]⟩
theorem fills_str {x : Str} {t : Tok} (hb : x.cps.size < scanBound) : Fills P w s (.str x t) (sgn x) := by
  intro A E Q hh hQ
  unfold Builtin.Frozenset.updateFrom
  refine wpAny_bind (L2.Fz.anySet ?_)
  show wpAny _ _ (if false = true then _ else _) _ _ _
  rw [if_neg Bool.false_ne_true]
  refine wpAny_bind (wpAny_typeOf (typeIs_str _ _ _) ?_)
  show wpAny _ _ (if (Value.type "str" == Value.type "dict") = true then _ else _) _ _ _
  rw [if_neg (by decide)]
  refine wpAny_bind (wpAny_pyIter_str fun o St hW hst => ?_)
  have hl : (sgn x).length = x.cps.size := by simp [sgn]
  refine wpAny_bind (wpAny_runValue (upd_loop (hW _ (by simp [hh])).toS s.heap.objs.size ?_ (sgn x) hl.symm (by rw [hl]; exact hb) (fun i v ⟨c, t, hc, e⟩ => ?_) _ 0 _ rfl (Nat.zero_le _) hst ⟨[], setS_fresh ?_, fun x => by simp, Nat.le_refl _⟩ fun s' l hm hS hx hl2 => ?_))
  · rw [Heap.size_push]
    simp
  · refine ⟨⟨#[c]⟩, t, ?_, e⟩
    unfold sgn
    rw [List.getElem?_map, Array.getElem?_toList, hc]
    rfl
  · exact Heap.get?_push_of_some _ (Heap.get?_push_size _ rfl)
  · obtain ⟨h', g', d', tk', os'⟩ := s'
    have eg : g' = s.gens := hm.gens
    have ed : d' = s.drawn := hm.drawn
    have eo : os' = s.os := hm.os
    subst eg; subst ed; subst eo
    refine wpAny_pure (hQ h' tk' l hS hx (by rw [hl]; exact hl2) fun b o e => ?_)
    have hlt := Heap.lt_size e
    exact hm.heap b o (by
      rw [Heap.size_push]
      simp only [List.mem_cons, List.not_mem_nil, or_false, not_or]
      exact ⟨Nat.ne_of_lt hlt, Nat.ne_of_lt (Nat.lt_succ_of_lt hlt)⟩) (Heap.get?_push_of_some _ (Heap.get?_push_of_some _ e))
theorem fills_list {l : Addr} {us : List Value} {xs : List Str} (hl : s.heap.IsList l us.toArray) (hi : StrsAre us xs) (hb : xs.length < scanBound) : Fills P w s (.ref l) xs := by
  intro A E Q hh hQ
  have hl1 : (s.heap.push (fresh w)).IsList l us.toArray := hl.push _
  have hT : Shared.TypeIs { s with heap := s.heap.push (fresh w) } (.ref l) "list" := by
    obtain ⟨o, ho, hc, r⟩ := hl1
    exact ⟨o, ho, hc⟩
  have hlS : l < s.heap.objs.size := by
    obtain ⟨o, ho, r⟩ := hl
    exact Heap.lt_size ho
  unfold Builtin.Frozenset.updateFrom Builtin.Frozenset.isAnySet orM
  refine wpAny_bind (wpAny_bind (wpAny_isInstance hT PySem.F.sub_list_set ?_))
  show wpAny _ _ (isInstance (.ref l) (.type "frozenset")) _ _ _
  refine wpAny_isInstance hT PySem.F.sub_list_frozenset ?_
  show wpAny _ _ (if false = true then _ else _) _ _ _
  rw [if_neg Bool.false_ne_true]
  refine wpAny_bind (wpAny_typeOf hT ?_)
  show wpAny _ _ (if (Value.type "list" == Value.type "dict") = true then _ else _) _ _ _
  rw [if_neg (by decide)]
  refine wpAny_bind (wpAny_pyIter_list hl1 ?_)
  have hneI : l ≠ (s.heap.push (fresh w)).objs.size := by
    rw [Heap.size_push]; exact Nat.ne_of_lt (Nat.lt_succ_of_lt hlS)
  have hn : us.toArray.size = xs.length := by rw [List.size_toArray]; exact StrsAre.len_eq hi
  refine wpAny_bind (wpAny_runValue (upd_loop ((Walks.list (by simp [hh]) _ l hneI us.toArray).toS) s.heap.objs.size ?_ xs hn hb (fun i v hv => ?_) _ 0 _ rfl (Nat.zero_le _)
    ⟨⟨_, Heap.get?_push_size _ rfl, rfl, rfl⟩, (hl1.push _)⟩ ⟨[], setS_fresh ?_, fun x => by simp, Nat.le_refl _⟩ fun s' k hm hS hx hl2 => ?_))
  · rw [Heap.size_push]
    simp only [List.mem_cons, List.not_mem_nil, or_false, not_or]
    exact ⟨Nat.ne_of_lt (Nat.lt_succ_self _), Nat.ne_of_gt hlS⟩
  · obtain ⟨t, e⟩ := SS.strs_at hi i v (by simpa using hv)
    have hi2 : i < us.length := by
      have q : us[i]? = some v := by simpa using hv
      exact (List.getElem?_eq_some_iff.mp q).1
    have hi3 : i < xs.length := by rw [← hn]; simpa using hi2
    refine ⟨xs.getD i Str.empty, t, ?_, e⟩
    rw [List.getElem?_eq_getElem hi3, List.getD_eq_getElem?_getD, List.getElem?_eq_getElem hi3]
    rfl
  · exact Heap.get?_push_of_some _ (Heap.get?_push_size _ rfl)
  · obtain ⟨h', g', d', tk', os'⟩ := s'
    have eg : g' = s.gens := hm.gens
    have ed : d' = s.drawn := hm.drawn
    have eo : os' = s.os := hm.os
    subst eg; subst ed; subst eo
    refine wpAny_pure (hQ h' tk' k hS hx (by rw [← hn]; exact hl2) fun b o e => ?_)
    have hlt := Heap.lt_size e
    exact hm.heap b o (by
      rw [Heap.size_push]
      simp only [List.mem_cons, List.not_mem_nil, or_false, not_or]
      exact ⟨Nat.ne_of_lt hlt, Nat.ne_of_lt (Nat.lt_succ_of_lt hlt)⟩) (Heap.get?_push_of_some _ (Heap.get?_push_of_some _ e))
end
section
variable {P : Program} {w : World} {A : Around} {E : Value → Shared → Prop} {s : Shared} {a : Addr} {l : List Str}
theorem strs_of : ∀ (vs : List Value), (∀ v ∈ vs, ∃ k tk, v = Value.str k tk) → ∃ bs : List Str, PySem.W.EachIs (fun v b => ∃ t, v = Value.str b t) vs bs
  | [], _ => ⟨[], .nil⟩
  | v :: vs, h => by
    obtain ⟨k, tk, rfl⟩ := h v List.mem_cons_self
    obtain ⟨bs, hb⟩ := strs_of vs fun u hu => h u (List.mem_cons_of_mem _ hu)
    exact ⟨k :: bs, .cons ⟨tk, rfl⟩ hb⟩
theorem perm_of_sub : ∀ (l m : List Str), l.Nodup → (∀ x ∈ l, x ∈ m) → m.length ≤ l.length → l.Perm m
  | [], m, _, _, h => by
    have : m = [] := List.eq_nil_of_length_eq_zero (by simpa using h)
    rw [this]
  | x :: l, m, nd, hs, h => by
    obtain ⟨n1, n2⟩ := List.nodup_cons.mp nd
    have hx := hs x List.mem_cons_self
    have p := List.perm_cons_erase hx
    have hl := p.length_eq
    simp only [List.length_cons] at hl h
    refine ((perm_of_sub l (m.erase x) n2 (fun y hy => ?_) (by omega)).cons x).trans p.symm
    exact (List.mem_erase_of_ne (fun z => n1 (by rw [← z]; exact hy))).mpr (hs y (List.mem_cons_of_mem _ hy))
/-- the order of texts -/
def leS (a b : Str) : Bool := decide (a.cps.toList ≤ b.cps.toList)
def sortS (l : List Str) : List Str := l.mergeSort leS
theorem leS_trans (a b c : Str) (h1 : leS a b = true) (h2 : leS b c = true) : leS a c = true := by
  unfold leS at *
  rw [decide_eq_true_eq] at *
  exact List.le_trans h1 h2
theorem leS_total (a b : Str) : (leS a b || leS b a) = true := by
  unfold leS
  rw [Bool.or_eq_true, decide_eq_true_eq, decide_eq_true_eq]
  exact List.le_total _ _
theorem leS_anti {a b : Str} (h1 : leS a b = true) (h2 : leS b a = true) : a = b := by
  unfold leS at *
  rw [decide_eq_true_eq] at *
  exact PySem.W.str_of_cps (List.le_antisymm h1 h2)
theorem sorted_eq : ∀ {l m : List Str}, l.Perm m → l.Pairwise (fun a b => leS a b = true) → m.Pairwise (fun a b => leS a b = true) → l = m
  | [], m, p, _, _ => by rw [p.nil_eq]
  | a :: l, [], p, _, _ => by have := p.length_eq; simp at this
  | a :: l, b :: m, p, h1, h2 => by
    obtain ⟨x1, y1⟩ := List.pairwise_cons.mp h1
    obtain ⟨x2, y2⟩ := List.pairwise_cons.mp h2
    have e : a = b := by
      have ha : a ∈ b :: m := p.mem_iff.mp List.mem_cons_self
      have hb : b ∈ a :: l := p.mem_iff.mpr List.mem_cons_self
      rcases List.mem_cons.mp ha with z | z
      · exact z
      · rcases List.mem_cons.mp hb with z2 | z2
        · exact z2.symm
        · exact leS_anti (x1 b z2) (x2 a z)
    subst e
    rw [sorted_eq (p.cons_inv) y1 y2]
theorem sortS_perm {l m : List Str} (p : l.Perm m) : sortS l = sortS m :=
  sorted_eq ((List.mergeSort_perm l leS).trans (p.trans (List.mergeSort_perm m leS).symm)) (List.pairwise_mergeSort leS_trans leS_total l) (List.pairwise_mergeSort leS_trans leS_total m)
theorem sorted_setS {Q : Value → Shared → Prop} (R : SetS P w s.heap a l) (hh : A.handled = none) (hu : A.units + 5 < cLine) (hb : l.length < 4000)
    (hQ : ∀ s' p (out : Array Value) (c : Nat), (∀ b o, s.heap.get? b = some o → s'.heap.get? b = some o) → s'.gens = s.gens → s'.os = s.os → s.heap.objs.size ≤ p →
      s'.heap.get? p = some (seqObj "list" out c) → PySem.W.EachIs (fun v b => ∃ t, v = Value.str b t) out.toList (sortS l) → Q (.ref p) s') :
    wpAny (model P w) A (call (.builtin "sorted") [.ref a]) Q E s := by
  obtain ⟨⟨⟨es, ep, t⟩, ho, F, hr, hl⟩, nd⟩ := R
  have hsz : es.size = l.length := F.sz
  have hel : ElemsOf (strKind P w) es.toList := F.el
  have shape : ∀ e ∈ es.toList, ∃ k tk, e.2 = Value.str k tk := fun e he => by
    obtain ⟨⟨k, hk, _⟩, _⟩ := hel e he
    obtain ⟨tk, z⟩ := Value.isStrOf_shape hk
    exact ⟨k, tk, z⟩
  refine Calls.call_function_entry kind_sorted plain_sorted entry_sorted (args_sorted1 _) ?_
  unfold Builtin.«sorted»
  refine wpAny_bind (m := checkCount "sorted" 1 1 _) (wpAny_pure ?_)
  refine wpAny_bind (collect_set (A := A.in1) hh ⟨_, ho, rfl, rfl⟩ F.fit (show es.size < scanBound by unfold scanBound; omega) hr hl fun s1 vs k1 hz g1 o1 pm => ?_)
  obtain ⟨bs, hbs⟩ := strs_of vs fun v hv => by
    obtain ⟨e, he, z⟩ := List.mem_map.mp (pm.mem_iff.mp hv)
    obtain ⟨k, tk, z2⟩ := shape e he
    exact ⟨k, tk, by rw [← z]; exact z2⟩
  have hvl : vs.length = l.length := by rw [pm.length_eq, List.length_map, Array.length_toList, hsz]
  have hpl : l.Perm bs := by
    refine perm_of_sub l bs nd (fun x hx => ?_) (by rw [← hbs.length, hvl]; exact Nat.le_refl _)
    obtain ⟨e, he, z⟩ := (F.mem x).mp hx
    obtain ⟨tk, z2⟩ := Value.isStrOf_shape z
    obtain ⟨b, hb1, t2, z3⟩ := hbs.left e.2 (pm.mem_iff.mpr (List.mem_map.mpr ⟨e, he, rfl⟩))
    rw [z2] at z3
    injection z3 with z3 z4
    rw [z3]
    exact hb1
  refine wpAny_bind (wpAny_newList ?_ (by rw [hvl, sizeLine_eq]; omega))
  have hoL : (s1.heap.push (seqObj "list" vs.toArray 0)).get? s1.heap.objs.size = some (seqObj "list" vs.toArray 0) := Heap.get?_push_size _ rfl
  refine wpAny_bind (wpAny_holding (PySem.W.list_sort_data (s := { s1 with heap := s1.heap.push (seqObj "list" vs.toArray 0) }) (bs := bs) (enc := fun b => .str b) hoL hbs (hbs.mono fun v b ⟨t, z⟩ => ⟨[], by rw [z]; exact .str _ _, by simp⟩)
    (PySem.W.AllAlike.of fun b b' => by simp [PySem.W.alike]) (PySem.W.Sortable.others fun b => ⟨by simp, by simp⟩) (by rw [← hbs.length, hvl, sizeLine_eq]; omega) (fun b hb => ?_) fun out ho2 eo => ?_))
  · show A.in1.units + 1 + PyData.depth (.str b) < cLine
    have : PyData.depth (.str b) = 0 := by simp [PyData.depth]
    rw [this]
    show A.units + 1 + 1 + 0 < cLine
    omega
  obtain ⟨c, hc⟩ := sortedHeap_at (vs := vs) (out := out.toArray) hoL
  have es2 : bs.mergeSort (PySem.W.dataLe false fun b => .str b) = sortS l := by
    rw [PySem.W.dataLe_str (fun b => b)]
    exact (sortS_perm hpl).symm
  rw [es2] at eo
  refine wpAny_pure ⟨_, rfl, hQ _ s1.heap.objs.size out.toArray c (fun b u e => ?_) g1 o1 hz hc (by simpa using eo)⟩
  have q := k1 b u e
  have hlt := Heap.lt_size q
  show (sortedHeap (s1.heap.push (seqObj "list" vs.toArray 0)) s1.heap.objs.size vs out.toArray).get? b = some u
  rw [sortedHeap_old (Nat.ne_of_lt hlt) (by rw [size_push']; exact Nat.lt_succ_of_lt hlt)]
  exact Heap.get?_push_of_some _ q
end
end SX
namespace L2
open PySem PySem.Spec PyProof.Rows
section
variable {X : Cx}
/-- sorted(set(text)) -/
def tSortSet (te : TE) : TE := fun σ H Q => te σ H fun v H1 => ∃ x : Str, v = .str x ∧ x.length ≤ 1000 ∧ ∀ (l : List Str) (p : Addr), l.Nodup → (∀ y, y ∈ l ↔ y ∈ SX.sgn x) → H1 p = none → Q (.ref p) (upd H1 p (.lst ((SX.sortS l).map V.str)))
theorem vals_each : ∀ {vs : List Value} {bs : List Str}, PySem.W.EachIs (fun v b => ∃ t, v = Value.str b t) vs bs → Vals (bs.map V.str) vs
  | _, _, .nil => .nil
  | _, _, .cons ⟨t, e⟩ r => by
    subst e
    exact .cons ⟨t, rfl⟩ (vals_each r)
theorem pe_sortSet {a : Expr} {ta : TE} {p p2 q pos : Pos} (hu : X.A.units + 64 < cLine) (hc : X.calm = true) (hg : Gl X "sorted") (hm : X.mg "sorted" = none) (hg2 : Gl X "set") (hm2 : X.mg "set" = none) (ha : PE X a ta)
    (na : starEach [a] X.env = (false, eval a X.env) :: starEach [] X.env := by rfl)
    (na2 : starEach [.Call (.Name "set" p2) [a] [] q] X.env = (false, eval (.Call (.Name "set" p2) [a] [] q) X.env) :: starEach [] X.env := by rfl) :
    PE X (.Call (.Name "sorted" p) [.Call (.Name "set" p2) [a] [] q] [] pos) (tSortSet ta) := by
  refine ⟨fun pins s σ H Q I h => ?_⟩
  refine Call_ (ld_blt I hg hm PyProof.Rows.boot_sorted ?_)
  refine PyProof.Rows.callWith_builtin1 (PyProof.Rows.args_cons ?_ na2) na2 rfl
  refine Call_ (ld_blt I hg2 hm2 boot_set ?_)
  refine PyProof.Rows.callWith_type1 (PyProof.Rows.args_cons (thn (ha.run pins s σ H _ I h) fun v s1 ⟨x, H1, I1, r1, q1⟩ => PyProof.Rows.args_nil ?_) na) na rfl
  obtain ⟨y, rfl, hy, q1⟩ := q1
  obtain ⟨t, rfl⟩ := r1
  have hl0 : (SX.sgn y).length = y.cps.size := by simp [SX.sgn]
  refine SX.call_setS (xs := SX.sgn y) (I1.ok.hd hc) (SX.fills_str (Nat.lt_of_le_of_lt hy (by unfold scanBound; omega))) fun h' tk l hS hm3 hlen k => ?_
  refine PyProof.Rows.args_nil ?_
  have hll : l.length ≤ 1000 := Nat.le_trans hlen (by rw [hl0]; exact hy)
  refine SX.sorted_setS hS (I1.ok.hd hc) (by omega) (by omega) fun s' p out c k2 g o hp hg3 eo => ?_
  have hp' : s1.heap.objs.size ≤ p := Nat.le_trans (by
    rcases Nat.lt_or_ge h'.objs.size s1.heap.objs.size with z | z
    · obtain ⟨⟨D, h1, _⟩, _⟩ := hS
      exact Nat.le_of_lt (Nat.lt_of_le_of_lt (Nat.le_refl _) (Heap.lt_size h1))
    · exact z) hp
  have kk : ∀ b o, s1.heap.get? b = some o → s'.heap.get? b = some o := fun b o e => k2 b o (k b o e)
  have hn : H1 p = none := I1.hok.fresh hp'
  have hv : Vals ((SX.sortS l).map V.str) out.toList := vals_each eo
  have hlen2 : ((SX.sortS l).map V.str).length ≤ sizeLine := by
    rw [List.length_map, show (SX.sortS l).length = l.length from List.length_mergeSort _, sizeLine_eq]
    omega
  have J : Inv X pins σ (upd H1 p (.lst ((SX.sortS l).map V.str))) s' :=
    I1.call' (ch := []) o (Un.laid kk hp' hn) (I1.hok.laid kk hp' ⟨hlen2, out.toList, c, hv, hg3⟩) (by rw [g]; exact I1.bare) (fun _ z => nomatch z)
  exact ⟨.ref p, _, J, rfl, q1 l p hS.nd hm3 hn⟩
/-- len(set(texts)) -/
def tLenSetS (K : PySem.W.Frag) (te : TE) : TE := fun σ H Q => te σ H fun v H1 => ∃ (l : Addr) (xs : List Str), v = .ref l ∧ SqL K H1 l (xs.map V.str) ∧ xs.length ≤ 1000 ∧ ∀ m : List Str, m.Nodup → (∀ y, y ∈ m ↔ y ∈ xs) → Q (.int (m.length : Int)) H1
theorem pe_lenSetS {a : Expr} {ta : TE} {p p2 q pos : Pos} (hc : X.calm = true) (hg : Gl X "len") (hm : X.mg "len" = none) (hg2 : Gl X "set") (hm2 : X.mg "set" = none) (ha : PE X a ta)
    (na : starEach [a] X.env = (false, eval a X.env) :: starEach [] X.env := by rfl)
    (na2 : starEach [.Call (.Name "set" p2) [a] [] q] X.env = (false, eval (.Call (.Name "set" p2) [a] [] q) X.env) :: starEach [] X.env := by rfl) :
    PE X (.Call (.Name "len" p) [.Call (.Name "set" p2) [a] [] q] [] pos) (tLenSetS X.K ta) := by
  refine ⟨fun pins s σ H Q I h => ?_⟩
  refine Call_ (ld_blt I hg hm boot_len ?_)
  refine PyProof.Rows.callWith_builtin1 (PyProof.Rows.args_cons ?_ na2) na2 rfl
  refine Call_ (ld_blt I hg2 hm2 boot_set ?_)
  refine PyProof.Rows.callWith_type1 (PyProof.Rows.args_cons (thn (ha.run pins s σ H _ I h) fun v s1 ⟨x, H1, I1, r1, q1⟩ => PyProof.Rows.args_nil ?_) na) na rfl
  obtain ⟨l, xs, rfl, hq, h1, q1⟩ := q1
  cases r1
  obtain ⟨its, r, pl, hz⟩ := I1.list hq
  refine SX.call_setS (xs := xs) (I1.ok.hd hc) (SX.fills_list pl.isList (by simpa using strsAre_of r) (by unfold scanBound; omega)) fun h' tk m hS hm3 hlen k => ?_
  refine PyProof.Rows.args_nil ?_
  obtain ⟨⟨⟨es, ep, t⟩, ho, F, hr, hl⟩, nd⟩ := hS
  have I2 : Inv X pins σ H1 { s1 with heap := h', toks := tk } := I1.kept fun b o e => k b o e
  have hsz : es.size = m.length := F.sz
  refine call_len_set ho ⟨rfl, rfl, rfl⟩ rfl F.fit (by show ((es.size : Nat) : Int) < 2 ^ 63; omega) ⟨.int m.length, H1, I2.tok _, ⟨_, by rw [hsz]⟩, q1 m nd hm3⟩
/-- sorted(xs), xs pairs of an int and a text, in order already -/
def leP (p q : Addr × Int × Str) : Prop := p.2.1 < q.2.1 ∨ (p.2.1 = q.2.1 ∧ p.2.2.cps.toList ≤ q.2.2.cps.toList)
theorem dataLe_is {p q : Addr × Int × Str} (h : leP p q) : PySem.W.dataLe false (fun b : Addr × Int × Str => .tuple [.int b.2.1, .str b.2.2]) p q = true := by
  show (!PySem.W.dataLt (.tuple [.int q.2.1, .str q.2.2]) (.tuple [.int p.2.1, .str p.2.2])) = true
  rw [PySem.W.dataLt_pair (by simp [PySem.W.alike]) (by simp [PySem.W.alike]), PySem.W.dataLt_int, PySem.W.dataLt_str]
  simp only [PyData.eqv, beq_iff_eq]
  rcases h with h | ⟨h1, h2⟩
  · rw [if_neg (by omega), decide_eq_false (by omega)]
    rfl
  · rw [if_pos h1.symm]
    split
    · rfl
    · rw [decide_eq_false (fun z => List.not_lt.mpr h2 z)]
      rfl
def rSortedIS (K : PySem.W.Frag) : List V → Hp → VK → Prop := fun xs H Q => ∃ (a : Addr) (ps : List (Addr × Int × Str)), xs = [V.ref a] ∧ SqL K H a (ps.map fun p => V.ref p.1) ∧ (∀ p ∈ ps, SqT K H p.1 [.int p.2.1, .str p.2.2]) ∧ ps.length ≤ 1000 ∧ ps.Pairwise leP ∧
  ∀ q, H q = none → Q (.ref q) (upd H q (.lst (ps.map fun p => V.ref p.1)))
theorem each_refs {h : Heap} : ∀ {ps : List (Addr × Int × Str)} {us : List Value}, Vals (ps.map fun p => V.ref p.1) us → PySem.W.EachIs (fun v b => v = Value.ref b.1) us ps
  | [], _, .nil => .nil
  | p :: ps, _, .cons r t => by
    cases r
    exact .cons rfl (each_refs (h := h) t)
theorem refs_each : ∀ {ps : List (Addr × Int × Str)} {us : List Value}, PySem.W.EachIs (fun v b => v = Value.ref b.1) us ps → Vals (ps.map fun p => V.ref p.1) us
  | [], _, .nil => .nil
  | p :: ps, _, .cons r t => by
    subst r
    exact .cons rfl (refs_each t)
theorem each_with {R S : Value → Addr × Int × Str → Prop} : ∀ {us : List Value} {ps : List (Addr × Int × Str)}, PySem.W.EachIs R us ps → (∀ v p, p ∈ ps → R v p → S v p) → PySem.W.EachIs S us ps
  | _, _, .nil, _ => .nil
  | _, _, .cons r t, h => .cons (h _ _ List.mem_cons_self r) (each_with t fun v p hp => h v p (List.mem_cons_of_mem _ hp))
theorem cr_sortedIS (hu : X.A.units + 64 < cLine) : CallR X (.builtin "sorted") (rSortedIS X.K) := by
  intro pins s σ H xs us Q I r h
  obtain ⟨a, ps, rfl, hl, hk, hf, hs, q⟩ := h
  rw [Vals.ref1 r]
  obtain ⟨its, rv, pl, hz⟩ := I.list hl
  have e1 := each_refs (h := s.heap) rv
  have e2 : PySem.W.EachIs (fun v b => ∃ as, Reads s.heap v (.tuple [.int b.2.1, .str b.2.2]) as) its ps := each_with e1 fun v p hp e => by
    obtain ⟨its2, r2, ⟨o, ho, hc, n, hd⟩, _⟩ := I.tuple (hk p hp)
    obtain ⟨u1, u2, rfl, ri, rj⟩ := vals2 r2
    obtain ⟨t1, rfl⟩ := ri
    obtain ⟨t2, rfl⟩ := rj
    rw [e]
    exact ⟨_, .tuple ho hc hd (.cons (.int _ _) (.cons (.str _ _) .nil))⟩
  refine PySem.W.sorted_data pl.isList e1 e2 (PySem.W.AllAlike.of fun b b' => by simp [PySem.W.alike, PySem.W.alikeAll]) (PySem.W.Sortable.tuples fun b => ⟨_, _, rfl⟩) (by rw [sizeLine_eq]; omega) (fun b hb => ?_) fun out ho eo => ?_
  · have : PyData.depth (.tuple [.int b.2.1, .str b.2.2]) ≤ 1 := by simp [PyData.depth, PyData.depthAll]
    omega
  rw [List.mergeSort_of_pairwise (hs.imp fun h => dataLe_is h)] at eo
  obtain ⟨c, hc⟩ := sortedAll_at s.heap its out.toArray
  refine ⟨.ref (s.heap.objs.size + 1), _, I.laid (t' := s.toks) (o := .lst (ps.map fun p => V.ref p.1)) (fun b o e => sortedAll_old e) (Nat.le_succ _) ⟨?_, out, c, refs_each eo, hc⟩, rfl, q _ (I.hok.fresh (Nat.le_succ _))⟩
  rw [List.length_map, sizeLine_eq]
  omega
end
end L2

set_option linter.all false
set_option maxRecDepth 100000
set_option maxHeartbeats 2000000
namespace L2
open PySem PySem.Spec PyProof.Rows
theorem rev_txt (x : Str) (u : Tok) : Txt.sliceBy x none none (-1, u) = ⟨x.cps.reverse⟩ := by
  apply PySem.W.str_of_cps
  rw [step_rev_list]
  show _ = x.cps.reverse.toList
  rw [Array.toList_reverse]
  apply List.ext_getElem
  · simp [Str.length]
  · intro i h1 h2
    simp only [List.getElem_map, List.getElem_range, List.getElem_reverse, Array.getElem_toList]
    have h3 : i < x.cps.size := by simpa using h2
    have h4 : x.cps.size - 1 - i < x.cps.size := by omega
    show x.cps.getD (x.cps.size - 1 - i) 0 = _
    simp [Array.getD, h4]
section
variable {X : Cx}
def tRevS (te : TE) : TE := fun σ H Q => te σ H fun x H1 => ∃ z : Str, x = .str z ∧ z.length ≤ sizeLine ∧ Q (.str ⟨z.cps.reverse⟩) H1
theorem pe_revS {e : Expr} {te : TE} {k : Nat} {p1 p2 p3 pos : Pos} (he : PE X e te) : PE X (.Subscript e (.Slice none none (some (.UnaryOp .USub (.Constant (.int 1) k p1) p2)) p3) pos) (tRevS te) := by
  refine ⟨fun pins s σ H Q I h => ?_⟩
  refine Subscript_ (thn (he.run pins s σ H _ I h) fun v s1 ⟨x, H1, I1, r1, q1⟩ => ?_)
  obtain ⟨z, rfl, hz, q⟩ := q1
  obtain ⟨t, rfl⟩ := r1
  have hst : PO X (some (.UnaryOp .USub (.Constant (.int 1) k p1) p2)) (tPart (tUn (rU fun i => .int (-i)) (tC (.int 1)))) := po_some (pe_un un_neg pe_int)
  refine wpAny_Slice (thn (po_none.run pins s1 σ H1 (fun o H2 => o = none ∧ H2 = H1) I1 ⟨rfl, rfl⟩) fun vl s2 ⟨l, H2, I2, pl, el, e2⟩ => ?_)
  subst el e2
  refine thn (po_none.run pins s2 σ H2 (fun o H3 => o = none ∧ H3 = H2) I2 ⟨rfl, rfl⟩) fun vu s3 ⟨u, H3, I3, pu, eu, e3⟩ => ?_
  subst eu e3
  refine thn (hst.run pins s3 σ H3 (fun o H4 => o = some (-1) ∧ H4 = H3) I3 ⟨1, rfl, -1, rfl, rfl, rfl⟩) fun vs s4 ⟨o, H4, I4, ps, eo, e4⟩ => ?_
  subst eo e4
  have I5 : Inv X pins σ H4 { s4 with heap := s4.heap.push { cls := .type "slice", data := .fields #[vl, vu, vs] } } := I4.kept (t' := s4.toks) fun b ob q => Heap.get?_push_of_some _ q
  obtain ⟨l, rfl, hl⟩ := IsPart.raw pl
  obtain ⟨u, rfl, hu⟩ := IsPart.raw pu
  obtain ⟨st, rfl, hs⟩ := IsPart.raw ps
  cases l with
  | some a => cases hl
  | none =>
  cases u with
  | some a => cases hu
  | none =>
  cases st with
  | none => cases hs
  | some a =>
  obtain ⟨i, ti⟩ := a
  cases hs
  show wpAny (model X.prog X.w) X.A (subscriptTail e (.Slice none none (some (.UnaryOp .USub (.Constant (.int 1) k p1) p2)) p3) (.str z t) (.ref s4.heap.objs.size)) (EP X pins σ Q) X.xe _
  refine tail_any (ops := [.str z t, .ref s4.heap.objs.size]) (typeIs_str _ _ _) (PySem.F.slot_str_getitem.lookup) ?_ (by with_unfolding_all rfl)
  refine wpAny_getItem_str_slice (l := none) (u := none) (st := some (-1, ti)) ⟨_, Heap.get?_push_size _ rfl, rfl, rfl⟩ rfl ?_
  have e := rev_txt z ti
  unfold Txt.sliceBy at e
  unfold sliceMade
  rw [if_neg (fun h => by cases h)] at e ⊢
  rw [e]
  refine ⟨?_, .str _, H4, I5.tok _, ⟨_, rfl⟩, q⟩
  show z.cps.reverse.size ≤ sizeLine
  rw [Array.size_reverse]
  exact hz
end
end L2

set_option linter.all false
set_option maxRecDepth 100000
set_option maxHeartbeats 4000000
/-! Reversed texts, sets of texts, pairs in order, two clauses, comprehensions over what changes. -/
namespace T
open PySem L2 Evl
def revS : D → Cs → R D := fun d c => match d with
  | .str x => if x.length ≤ 1000000 then .ok (.str ⟨x.cps.reverse⟩) c else .bad
  | _ => .bad
def dd (l : List Str) : List Str := l.foldl SX.insS []
theorem dd_ok : ∀ (l m : List Str), m.Nodup → (l.foldl SX.insS m).Nodup ∧ ∀ y, y ∈ l.foldl SX.insS m ↔ y ∈ l ∨ y ∈ m
  | [], m, h => ⟨h, fun y => by simp⟩
  | x :: l, m, h => by
    have hn : (SX.insS m x).Nodup := by
      unfold SX.insS
      split
      · exact h
      · rename_i q
        exact List.nodup_cons.mpr ⟨q, h⟩
    obtain ⟨h1, h2⟩ := dd_ok l (SX.insS m x) hn
    refine ⟨h1, fun y => ?_⟩
    show y ∈ l.foldl SX.insS (SX.insS m x) ↔ _
    rw [h2 y, SX.mem_insS, List.mem_cons]
    constructor
    · rintro (z | z | z)
      · exact .inl (.inr z)
      · exact .inl (.inl z)
      · exact .inr z
    · rintro ((z | z) | z)
      · exact .inr (.inl z)
      · exact .inl z
      · exact .inr (.inr z)
theorem dd_nd (l : List Str) : (dd l).Nodup := (dd_ok l [] List.nodup_nil).1
theorem dd_mem (l : List Str) (y : Str) : y ∈ dd l ↔ y ∈ l := by
  rw [show y ∈ dd l ↔ _ from (dd_ok l [] List.nodup_nil).2 y]
  simp
theorem dd_perm {l m : List Str} (nd : m.Nodup) (h : ∀ y, y ∈ m ↔ y ∈ l) : m.Perm (dd l) := (List.perm_ext_iff_of_nodup nd (dd_nd l)).mpr fun y => (h y).trans (dd_mem l y).symm
def gSortSet : D → Cs → R D := fun d c => match d with
  | .str x => if x.length ≤ 1000 then .ok (.lst ((SX.sortS (dd (SX.sgn x))).map D.str)) c else .bad
  | _ => .bad
/-- what a list stands for, also one that changes -/
def seqD : D → Cs → Option (List D)
  | .lst ds, _ => some ds
  | .cell k, c => match c[k]? with
    | some (.lst ds) => some ds
    | none => none
  | _, _ => none
def gLenSet : D → Cs → R D := fun d c => match (seqD d c).bind strsD with
  | some xs => if xs.length ≤ 1000 then .ok (.int ((dd xs).length : Int)) c else .bad
  | none => .bad
section
variable {K : PySem.W.Frag} {B H : Hp} {γ : List Addr} {c : Cs}
theorem seqD_at {d : D} {v : V} {ds : List D} (s : Stt K B γ c H) (r : Rep K B γ d v) (h : seqD d c = some ds) : ∃ a vs, v = .ref a ∧ SqL K H a vs ∧ Reps K B γ ds vs := by
  cases d with
  | lst es =>
    cases h
    obtain ⟨a, vs, rfl, h1, h2⟩ := r
    exact ⟨a, vs, rfl, SqL.of (s.ex _ _ h1), h2⟩
  | cell k =>
    obtain ⟨a, rfl, hg⟩ := r
    have h' : (match c[k]? with | some (.lst ds) => some ds | none => none) = some ds := h
    cases hc : c[k]? with
    | none => rw [hc] at h'; cases h'
    | some co =>
      cases co with
      | lst es =>
        rw [hc] at h'
        cases h'
        obtain ⟨vs, hv, rv⟩ := s.cel k a _ hg hc
        exact ⟨a, vs, rfl, SqL.of hv, rv⟩
  | _ => cases h
theorem reps_of_strs : ∀ (xs : List Str), Reps K B γ (xs.map D.str) (xs.map V.str)
  | [] => rfl
  | x :: xs => ⟨_, _, rfl, rfl, reps_of_strs xs⟩
end
section
variable {X : Cx} {E : XK} {e : Expr} {f : ME}
theorem ie_revS {kk : Nat} {p1 p2 p3 pos : Pos} (h : IE X E e f) : IE X E (.Subscript e (.Slice none none (some (.UnaryOp .USub (.Constant (.int 1) kk p1) p2)) p3) pos) (m1 revS f) :=
  (pe_revS h).weak fun σ H Q ⟨B, γ, c, σd, s, rs, k⟩ => by
    refine ⟨B, γ, c, σd, s, rs, cnt_bind k fun d c1 B1 γ1 H1 _ e1 s1 k1 v rv => ?_⟩
    unfold revS at k1
    split at k1
    · rename_i x _
      by_cases hl : x.length ≤ 1000000
      · rw [if_pos hl] at k1
        exact ⟨x, rv, sz6 hl, cont_ok s1 k1 rfl⟩
      · rw [if_neg hl] at k1; exact k1.elim
    · exact k1.elim
theorem ie_sortSet {p p2 q pos : Pos} (hu : X.A.units + 64 < cLine) (hm : X.mg "sorted" = none) (hm2 : X.mg "set" = none) (h : IE X E e f) (hg : Gl X "sorted" := by rfl) (hg2 : Gl X "set" := by rfl) (hc : X.calm = true := by rfl)
    (na : starEach [e] X.env = (false, eval e X.env) :: starEach [] X.env := by rfl)
    (na2 : starEach [.Call (.Name "set" p2) [e] [] q] X.env = (false, eval (.Call (.Name "set" p2) [e] [] q) X.env) :: starEach [] X.env := by rfl) :
    IE X E (.Call (.Name "sorted" p) [.Call (.Name "set" p2) [e] [] q] [] pos) (m1 gSortSet f) :=
  (pe_sortSet hu hc hg hm hg2 hm2 h na na2).weak fun σ H Q ⟨B, γ, c, σd, s, rs, k⟩ => by
    refine ⟨B, γ, c, σd, s, rs, cnt_bind k fun d c1 B1 γ1 H1 _ e1 s1 k1 v rv => ?_⟩
    unfold gSortSet at k1
    split at k1
    · rename_i x _
      by_cases hl : x.length ≤ 1000
      · rw [if_pos hl] at k1
        refine ⟨x, rv, hl, fun l p nd hm hp => ?_⟩
        rw [SX.sortS_perm (dd_perm nd hm)]
        obtain ⟨s4, e4⟩ := s1.new (o := .lst ((SX.sortS (dd (SX.sgn x))).map V.str)) hp
        exact k1 _ _ _ e4 s4 _ ⟨p, _, rfl, upd_same, reps_of_strs _⟩
      · rw [if_neg hl] at k1; exact k1.elim
    · exact k1.elim
theorem ie_lenSet {p p2 q pos : Pos} (hm : X.mg "len" = none) (hm2 : X.mg "set" = none) (h : IE X E e f) (hg : Gl X "len" := by rfl) (hg2 : Gl X "set" := by rfl) (hc : X.calm = true := by rfl)
    (na : starEach [e] X.env = (false, eval e X.env) :: starEach [] X.env := by rfl)
    (na2 : starEach [.Call (.Name "set" p2) [e] [] q] X.env = (false, eval (.Call (.Name "set" p2) [e] [] q) X.env) :: starEach [] X.env := by rfl) :
    IE X E (.Call (.Name "len" p) [.Call (.Name "set" p2) [e] [] q] [] pos) (m1 gLenSet f) :=
  (pe_lenSetS hc hg hm hg2 hm2 h na na2).weak fun σ H Q ⟨B, γ, c, σd, s, rs, k⟩ => by
    refine ⟨B, γ, c, σd, s, rs, cnt_bind k fun d c1 B1 γ1 H1 _ e1 s1 k1 v rv => ?_⟩
    unfold gLenSet at k1
    cases h1 : seqD d c1 with
    | none => rw [h1] at k1; exact k1.elim
    | some ds =>
      cases h2 : strsD ds with
      | none => simp only [h1, h2, Option.bind] at k1; exact k1.elim
      | some xs =>
        simp only [h1, h2, Option.bind] at k1
        by_cases hl : xs.length ≤ 1000
        · rw [if_pos hl] at k1
          obtain ⟨a, vs, rfl, hs, hr⟩ := seqD_at s1 rv h1
          rw [strsD_of h2] at hr
          rw [Reps.strs hr] at hs
          refine ⟨a, xs, rfl, hs, hl, fun m nd hm3 => ?_⟩
          rw [(dd_perm nd hm3).length_eq]
          exact cont_ok s1 k1 rfl
        · rw [if_neg hl] at k1; exact k1.elim
end
/-! ### pairs (int, text) in order -/
def pairD : D → Option (Int × Str)
  | .tup [.int i, .str x] => some (i, x)
  | _ => none
def pairsD : List D → Option (List (Int × Str))
  | [] => some []
  | d :: r => (pairD d).bind fun p => (pairsD r).map (p :: ·)
def leQ (p q : Int × Str) : Prop := p.1 < q.1 ∨ (p.1 = q.1 ∧ p.2.cps.toList ≤ q.2.cps.toList)
open Classical in
noncomputable def gSorted : D → Cs → R D := fun d c => match (match d with | .lst ds => some ds | _ => none) with
  | some ds => match pairsD ds with
    | some ps => if ps.length ≤ 1000 ∧ ps.Pairwise leQ then .ok (.lst ds) c else .bad
    | none => .bad
  | none => .bad
section
variable {K : PySem.W.Frag} {B H : Hp} {γ : List Addr} {c : Cs} {E : XK}
theorem pairD_of {d : D} {p : Int × Str} (h : pairD d = some p) : d = .tup [.int p.1, .str p.2] := by
  unfold pairD at h
  split at h
  · cases h; rfl
  · cases h
theorem pairs_at (s : Stt K B γ c H) : ∀ {ds : List D} {ps : List (Int × Str)} {vs : List V}, pairsD ds = some ps → Reps K B γ ds vs → ∃ as : List Addr, as.length = ps.length ∧ vs = (as.zip ps).map (fun p => V.ref p.1) ∧ ∀ p ∈ as.zip ps, SqT K H p.1 [.int p.2.1, .str p.2.2]
  | [], ps, vs, h, r => by
    cases h
    rw [show vs = [] from r]
    exact ⟨[], rfl, rfl, fun p hp => by simp at hp⟩
  | d :: ds, ps, vs, h, r => by
    unfold pairsD at h
    cases h1 : pairD d with
    | none => rw [h1] at h; cases h
    | some p =>
      cases h2 : pairsD ds with
      | none => rw [h1, h2] at h; cases h
      | some qs =>
        rw [h1, h2] at h
        cases h
        rw [pairD_of h1] at r
        obtain ⟨v, w, rfl, ⟨a, us, rfl, ha, hu⟩, r2⟩ := r
        obtain ⟨as, e1, e2, e3⟩ := pairs_at s h2 r2
        obtain ⟨v1, v2, rfl, x1, x2⟩ := reps2 hu
        rw [show v1 = V.int p.1 from x1, show v2 = V.str p.2 from x2] at ha
        refine ⟨a :: as, by simp [e1], by simp [e2], fun z hz => ?_⟩
        rw [List.zip_cons_cons] at hz
        rcases List.mem_cons.mp hz with q | q
        · rw [q]; exact ex_t s.ex ha.sq
        · exact e3 z q
theorem zip_snd : ∀ {as : List Addr} {ps : List (Int × Str)}, as.length = ps.length → ps.Pairwise leQ → (as.zip ps).Pairwise leP
  | [], [], _, _ => .nil
  | a :: as, p :: ps, h, hp => by
    obtain ⟨h1, h2⟩ := List.pairwise_cons.mp hp
    refine List.pairwise_cons.mpr ⟨fun z hz => h1 z.2 (List.of_mem_zip (a := z.1) (b := z.2) hz).2, zip_snd (by simpa using h) h2⟩
theorem sim_sorted : SimC K E (rSortedIS K) (one gSorted) := sim_one fun B γ c H d v Q s r k => by
  unfold gSorted at k
  cases d with
  | lst ds =>
    cases h : pairsD ds with
    | none => simp only [h] at k; exact k.elim
    | some ps =>
      simp only [h] at k
      by_cases hc : ps.length ≤ 1000 ∧ ps.Pairwise leQ
      · rw [if_pos hc] at k
        obtain ⟨a, vs, rfl, h1, h2⟩ := r
        obtain ⟨as, e1, e2, e3⟩ := pairs_at s h h2
        refine ⟨a, as.zip ps, rfl, by rw [← e2]; exact SqL.of (s.ex _ _ h1), e3, by rw [List.length_zip]; omega, zip_snd e1 hc.2, fun q hq => ?_⟩
        rw [← e2]
        obtain ⟨s4, e4⟩ := s.new (o := .lst vs) hq
        exact k _ _ _ e4 s4 _ ⟨q, _, rfl, upd_same, Reps.mono e4.ex e4.pre _ _ h2⟩
      · rw [if_neg hc] at k; exact k.elim
  | _ => exact k.elim
theorem call_sorted {X : Cx} (hu : X.A.units + 64 < cLine) : CallR X (.builtin "sorted") (rSortedIS X.K) := cr_sortedIS hu
end
section
variable {X : Cx} {E : XK} {f : ME} {tg0 elt iter tg1 iter1 : Expr} {scope : Scope} {pos : Pos} {w w1 : MA} {g g1 : MG}
theorem ie_lc2 (own : List (Str × Nat)) (vs1 : List Nat) (hc : X.calm = true) (hN : X.N.Nodup) (hi : II X E tg0 iter w) (ok : blkC X.N X.env.scope scope own = true) (hv : ∀ i ∈ vs1, i ∈ own.map (·.2)) (hg : Blk X scope fun Y => PG Y tg0 (tgw Y.K E0 (own.map (·.2)) g)) (hi1 : Blk X scope fun Y => II Y E0 tg1 iter1 w1)
    (hg1 : Blk X scope fun Y => PG Y tg1 (tgw Y.K E0 vs1 g1)) (he : Blk X scope fun Y => IE Y E0 elt f) (hs : ∀ x, foldedSetIterable iter X.env x = pure x := by intro _; rfl) (hs1 : ∀ env x, foldedSetIterable iter1 env x = pure x := by intro _ _; rfl) :
    IE X E (.ListComp elt [⟨tg0, iter, [], 0⟩, ⟨tg1, iter1, [], 0⟩] scope pos) (mLc2 (own.map (·.2)) vs1 w g w1 g1 f) :=
  (pe_lc2 (g := tgw X.K E0 (own.map (·.2)) g) (tt := tt X.K E0 tYesD) (wi1 := ti X.K E0 w1) (g1 := tgw X.K E0 vs1 g1) (tt1 := tt X.K E0 tYesD) (te := tm X.K E0 f) hc hN hi (blkOk_by ok) hv hg (fun _ _ _ _ _ => its_nil) hi1 hg1 (fun _ _ _ _ _ => its_nil) he hs hs1).weak lc2_read
theorem is_setLc2 {i : Nat} {y : Str} {py spos : Pos} (own : List (Str × Nat)) (vs1 : List Nat) (hc : X.calm = true) (hN : X.N.Nodup) (hy : X.N[i]? = some y) (hyl : X.env.scope.names.lookup y = some .local) (hk : X.env.scope.kind = .function) (hl : (py.line == pos.line) = true)
    (hsw : (scope.names.any fun (n, k) => n == y && (k == .local || k == .cell)) = false) (hi : II X E tg0 iter w) (ok : blkC X.N X.env.scope scope own = true) (hv : ∀ i ∈ vs1, i ∈ own.map (·.2)) (hg : Blk X scope fun Y => PG Y tg0 (tgw Y.K E0 (own.map (·.2)) g)) (hi1 : Blk X scope fun Y => II Y E0 tg1 iter1 w1)
    (hg1 : Blk X scope fun Y => PG Y tg1 (tgw Y.K E0 vs1 g1)) (he : Blk X scope fun Y => IE Y E0 elt f) (hs : ∀ x, foldedSetIterable iter X.env x = pure x := by intro _; rfl) (hs1 : ∀ env x, foldedSetIterable iter1 env x = pure x := by intro _ _; rfl) :
    IS X E (.Assign [.Name y py] (.ListComp elt [⟨tg0, iter, [], 0⟩, ⟨tg1, iter1, [], 0⟩] scope pos) spos) (sAsg (mLc2 (own.map (·.2)) vs1 w g w1 g1 f) (gNm i)) := by
  refine (ps_setLc2 (g := tgw X.K E0 (own.map (·.2)) g) (tt := tt X.K E0 tYesD) (wi1 := ti X.K E0 w1) (g1 := tgw X.K E0 vs1 g1) (tt1 := tt X.K E0 tYesD) (te := tm X.K E0 f) hc hN hy hyl (sw_true hk hyl hl hsw) hi (blkOk_by ok) hv hg (fun _ _ _ _ _ => its_nil) hi1 hg1 (fun _ _ _ _ _ => its_nil) he hs hs1).weak fun De σ H ⟨B, γ, c, σd, s, rs, k⟩ => ?_
  refine lc2_read (E := E) (w := w) (g := g) (w1 := w1) (g1 := g1) (f := f) σ H _ ⟨B, γ, c, σd, s, rs, cntS_bind k fun d c1 B1 γ1 H1 _ e1 s1 k1 vx rx => ?_⟩
  exact k1 B1 γ1 H1 _ (Ext.refl _ _ _) s1 ((rs.mono e1.ex e1.pre).set rx)
end
end T

set_option linter.all false
set_option maxRecDepth 100000
set_option maxHeartbeats 4000000
/-! Comprehensions over a list that may change, and does not meanwhile. -/
namespace T
open PySem L2 Evl
section
open Classical
noncomputable def lcCL (n : Nat) (ds0 : List D) (g : MG) (t : MT) (f : ME) (σ : Sd) : List D → Cs → R (List D)
  | [], c => if c[n]? = some (CO.lst ds0) then .ok [] c else .bad
  | d :: ds, c => if c[n]? = some (CO.lst ds0) then (g d σ c).ne.bind fun σ1 c => (t σ1 c).ne.bind fun b c => if b then (f σ1 c).ne.bind fun x c => (lcCL n ds0 g t f σ ds c).bind fun xs c => .ok (x :: xs) c else lcCL n ds0 g t f σ ds c else .bad
noncomputable def mLcC (vs : List Nat) (e : ME) (g : MG) (t : MT) (f : ME) : ME := fun σ c => (e σ c).bind fun d c => match d with
  | .cell n => match c[n]? with
    | some (.lst ds) => if ds.length ≤ 100000 then (lcCL n ds g t f (wipeD σ vs) ds c).bind fun xs c => .ok (.lst xs) c else .bad
    | none => .bad
  | _ => .bad
/-- where the list stays as it is, it is as any other -/
theorem lcC_eq {n : Nat} {ds0 : List D} {g : MG} {t : MT} {f : ME} {σ : Sd} {c : Cs} (hc : c[n]? = some (CO.lst ds0)) : ∀ (ds : List D), (∀ d ∈ ds, ∃ σ1 x, g d σ c = .ok σ1 c ∧ t σ1 c = .ok true c ∧ f σ1 c = .ok x c) → lcCL n ds0 g t f σ ds c = lcL g t f σ ds c
  | [], _ => by rw [lcCL, if_pos hc, lcL]
  | d :: ds, h => by
    obtain ⟨σ1, x, h1, h2, h3⟩ := h d List.mem_cons_self
    rw [lcCL, if_pos hc, lcL, h1]
    simp only [R.ne, R.bind, h2, h3, if_true]
    rw [lcC_eq hc ds fun d hd => h d (List.mem_cons_of_mem _ hd)]
end
def WalksC (K : PySem.W.Frag) (B0 : Hp) (γ0 : List Addr) (n : Nat) (ds : List D) (J : It) : Prop := ∀ B γ c H (i : Nat), Ex B0 B → γ0 <+: γ → Stt K B γ c H → c[n]? = some (CO.lst ds) →
  (∀ d, ds[i]? = some d → J.go i H ∧ ∀ x H', J.yld i H x H' → ∃ B', Ext B γ H B' γ H' ∧ Stt K B' γ c H' ∧ Rep K B' γ d x) ∧ (ds.length ≤ i → J.stop i H)
theorem walksC {K : PySem.W.Frag} {B0 : Hp} {γ0 : List Addr} {a : Addr} {n : Nat} {ds : List D} (h : γ0[n]? = some a) : WalksC K B0 γ0 n ds (Itl K a) := by
  intro B γ c H i e g s hc
  obtain ⟨vs, hv, rv⟩ := s.cel n a _ (pre_get g h) hc
  have hH : SqL K H a vs := SqL.of hv
  refine ⟨fun d hd => ?_, fun hl => ⟨vs, hH, by rw [rv.len]; exact hl⟩⟩
  obtain ⟨v, hv2, rv2⟩ := rv.get hd
  refine ⟨⟨vs, v, hH, hv2⟩, fun x H' ⟨e1, e2⟩ => ?_⟩
  subst e1
  have := e2 vs hH
  rw [hv2] at this
  cases this
  exact ⟨B, Ext.refl _ _ _, s, rv2⟩
def tiC (K : PySem.W.Frag) (E : XK) (f : ME) : TI := fun σ H R => ∃ B γ c σd, Stt K B γ c H ∧ RepS K B γ σd σ ∧ Cnt K E B γ H (f σd c) fun B' γ' d c' H' => Stt K B' γ' c' H' ∧ ∃ n ds, d = .cell n ∧ c'[n]? = some (CO.lst ds) ∧ ∀ J, WalksC K B' γ' n ds J → R J H'
section
variable {X : Cx} {E : XK} {tg0 e elt iter : Expr} {ifs : List Expr} {scope : Scope} {own : List (Str × Nat)} {pos : Pos} {f : ME} {g : MG} {t : MT} {fe : ME}
theorem ii_cell (h : IE X E e f) : PI X tg0 e (tiC X.K E f) := (pi_list h).weak fun σ H Rr ⟨B, γ, c, σd, s, rs, k⟩ => by
  refine ⟨B, γ, c, σd, s, rs, ?_⟩
  cases hf : f σd c with
  | exc z cz => rw [hf] at k; exact k
  | bad => rw [hf] at k; exact k.elim
  | ok d c1 =>
    rw [hf] at k
    intro B1 γ1 H1 e1 s1 v rv
    obtain ⟨_, n, ds, rfl, hc, k1⟩ := k B1 γ1 H1 e1 s1
    obtain ⟨a, rfl, hg⟩ := rv
    obtain ⟨vs, hv, rv⟩ := s1.cel n a _ hg hc
    exact ⟨a, rfl, ⟨vs, SqL.of hv⟩, k1 _ (walksC hg)⟩
theorem lcC_read {vs : List Nat} : ∀ σ H Q, tm X.K E (mLcC vs fe g t f) σ H Q → tLc (tiC X.K E fe) (tgw X.K E0 vs g) (tt X.K E0 t) (tm X.K E0 f) vs σ H Q := by
  intro σ H Q ⟨B, γ, c, σd, s, rs, k⟩
  refine ⟨B, γ, c, σd, s, rs, cnt_bind k fun dd c1 B1 γ1 H1 _ e1 s1 k1 => ⟨s1, ?_⟩⟩
  cases dd with
  | cell n => ?_
  | _ => exact k1.elim
  cases hcn : c1[n]? with
  | none => simp only [hcn] at k1; exact k1.elim
  | some co =>
  cases co with
  | lst ds =>
  simp only [hcn] at k1
  refine ⟨n, ds, rfl, hcn, fun J wk L hL => ?_⟩
  by_cases hlen : ds.length ≤ 100000
  rotate_left
  · simp only [hlen, if_false] at k1; exact k1.elim
  simp only [hlen, if_true] at k1
  have rs1 := rs.mono e1.ex e1.pre
  refine ⟨fun i m H2 => m = ds.length - i ∧ i ≤ ds.length ∧ ∃ B2 γ2 c2 acc accD, Apart X.K B2 γ2 c2 H2 L acc ∧ Ext B1 γ1 H1 B2 γ2 H2 ∧ Reps X.K B2 γ2 accD acc ∧ acc.length ≤ i ∧
    lcCL n ds g t f (wipeD σd vs) ds c1 = ((lcCL n ds g t f (wipeD σd vs) (ds.drop i) c2).bind fun xs c => .ok (accD ++ xs) c),
    ⟨_, rfl, Nat.zero_le _, B1, γ1, c1, [], [], Apart.new s1 hL, (Ext.refl _ _ _).put hL, rfl, Nat.le_refl _, ?_⟩, ?_⟩
  · cases h : lcCL n ds g t f (wipeD σd vs) ds c1 <;> simp [List.drop_zero, h, R.bind]
  rintro i m H2 ⟨rfl, hi, B2, γ2, c2, acc, accD, ap, e2, ra, hacc, eq⟩
  have nbad : lcCL n ds g t f (wipeD σd vs) ds c1 ≠ .bad := fun z => by rw [z] at k1; exact k1.elim
  have hc2 : c2[n]? = some (CO.lst ds) := by
    apply Classical.byContradiction
    intro hne
    refine nbad ?_
    rw [eq]
    cases ds.drop i with
    | nil => rw [lcCL, if_neg hne]; rfl
    | cons d r => rw [lcCL, if_neg hne]; rfl
  obtain ⟨w1, w2⟩ := wk B2 γ2 c2 H2 i e2.ex e2.pre ap.s hc2
  by_cases hl : i < ds.length
  · obtain ⟨g1, g2⟩ := w1 ds[i] (List.getElem?_eq_getElem hl)
    rw [List.drop_eq_getElem_cons hl] at eq
    refine .inr ⟨g1, fun H3 => ∃ m', m' < ds.length - i ∧ (m' = ds.length - (i + 1) ∧ i + 1 ≤ ds.length ∧ ∃ B2 γ2 c2 acc accD, Apart X.K B2 γ2 c2 H3 L acc ∧ Ext B1 γ1 H1 B2 γ2 H3 ∧ Reps X.K B2 γ2 accD acc ∧ acc.length ≤ i + 1 ∧
      lcCL n ds g t f (wipeD σd vs) ds c1 = ((lcCL n ds g t f (wipeD σd vs) (ds.drop (i + 1)) c2).bind fun xs c => .ok (accD ++ xs) c)), fun H' h => h, fun x H' y => ?_⟩
    obtain ⟨B3, e3, s3, r3⟩ := g2 x H' y
    have ap3 := ap.next e3 s3
    have e13 := e2.trans e3
    refine ⟨B3, γ2, c2, wipeD σd vs, ds[i], s3, (rs1.mono e13.ex e13.pre).wipe vs, r3, ?_⟩
    rw [lcCL, if_pos hc2] at eq
    cases hg : g ds[i] (wipeD σd vs) c2 with
    | exc z cz => rw [hg] at eq; exact absurd eq nbad
    | bad => rw [hg] at eq; exact absurd eq nbad
    | ok σ4 c4 =>
      rw [hg] at eq
      intro B4 γ4 H4 e4 s4 σ' _ _ rs4 hw
      have hw' : wipe σ' vs = wipe σ vs := by rw [hw]; exact wipe_wipe σ vs
      refine ⟨hw', B4, γ4, c4, σ4, s4, rs4, ?_⟩
      have ap4 := ap3.next e4 s4
      cases ht : t σ4 c4 with
      | exc z cz => simp only [R.ne, R.bind, ht] at eq; exact absurd eq nbad
      | bad => simp only [R.ne, R.bind, ht] at eq; exact absurd eq nbad
      | ok b c5 =>
        intro B5 γ5 H5 e5 s5
        have ap5 := ap4.next e5 s5
        have e15 := (e13.trans e4).trans e5
        cases b with
        | false =>
          simp only [R.ne, R.bind, ht, if_false, Bool.false_eq_true] at eq
          show ∃ m', _
          exact ⟨ds.length - (i + 1), by omega, rfl, hl, B5, γ5, c5, acc, accD, ap5, e15, Reps.mono (e3.ex.trans (e4.ex.trans e5.ex)) ((e3.pre.trans e4.pre).trans e5.pre) _ _ ra, by omega, eq⟩
        | true =>
          simp only [R.ne, R.bind, ht, if_true] at eq
          refine ⟨B5, γ5, c5, σ4, s5, rs4.mono e5.ex e5.pre, ?_⟩
          cases hf : f σ4 c5 with
          | exc z cz => simp only [hf] at eq; exact absurd eq nbad
          | bad => simp only [hf] at eq; exact absurd eq nbad
          | ok x6 c6 =>
            simp only [hf] at eq
            intro B6 γ6 H6 e6 s6 v rv
            have ap6 := ap5.next e6 s6
            have e16 := e15.trans e6
            have ra6 := Reps.mono (e3.ex.trans (e4.ex.trans (e5.ex.trans e6.ex))) (((e3.pre.trans e4.pre).trans e5.pre).trans e6.pre) _ _ ra
            refine ⟨acc, ap6.h, Nat.lt_of_le_of_lt hacc (Nat.lt_of_lt_of_le hl (Nat.le_trans hlen (by decide))), ds.length - (i + 1), by omega, rfl, hl, B6, γ6, c6, acc ++ [v], accD ++ [x6], ap6.put, e16.put hL, Reps.app ra6 ⟨v, [], rfl, rv, rfl⟩, by simp; omega, ?_⟩
            rw [eq]
            cases lcCL n ds g t f (wipeD σd vs) (ds.drop (i + 1)) c6 <;> simp [R.bind]
  · have hn : ds.drop i = [] := List.drop_eq_nil_of_le (by omega)
    rw [hn] at eq
    rw [lcCL, if_pos hc2] at eq
    simp only [R.bind, List.append_nil] at eq
    refine .inl ⟨w2 (by omega), ?_⟩
    rw [eq] at k1
    obtain ⟨sd, ed⟩ := ap.done
    exact k1 _ _ _ (e2.lay hL ap.nb) sd _ ⟨L, acc, rfl, upd_same, Reps.mono ed (List.prefix_refl γ2) _ _ ra⟩
theorem ie_lcC (own : List (Str × Nat)) (hc : X.calm = true) (hN : X.N.Nodup) (hi : IE X E iter fe) (ok : blkC X.N X.env.scope scope own = true) (hg : Blk X scope fun Y => PG Y tg0 (tgw Y.K E0 (own.map (·.2)) g)) (ht : Blk X scope fun Y => ITs Y E0 ifs t)
    (he : Blk X scope fun Y => IE Y E0 elt f) (hs : ∀ x, foldedSetIterable iter X.env x = pure x := by intro _; rfl) : IE X E (.ListComp elt [⟨tg0, iter, ifs, 0⟩] scope pos) (mLcC (own.map (·.2)) fe g t f) :=
  (pe_lc hc hN (ii_cell hi) (blkOk_by ok) hg ht he hs).weak lcC_read
theorem is_setLcC {i : Nat} {y : Str} {py spos : Pos} (own : List (Str × Nat)) (hc : X.calm = true) (hN : X.N.Nodup) (hy : X.N[i]? = some y) (hyl : X.env.scope.names.lookup y = some .local) (hk : X.env.scope.kind = .function) (hl : (py.line == pos.line) = true)
    (hsw : (scope.names.any fun (n, k) => n == y && (k == .local || k == .cell)) = false) (hi : IE X E iter fe) (ok : blkC X.N X.env.scope scope own = true) (hg : Blk X scope fun Y => PG Y tg0 (tgw Y.K E0 (own.map (·.2)) g)) (ht : Blk X scope fun Y => ITs Y E0 ifs t)
    (he : Blk X scope fun Y => IE Y E0 elt f) (hs : ∀ x, foldedSetIterable iter X.env x = pure x := by intro _; rfl) : IS X E (.Assign [.Name y py] (.ListComp elt [⟨tg0, iter, ifs, 0⟩] scope pos) spos) (sAsg (mLcC (own.map (·.2)) fe g t f) (gNm i)) := by
  refine (ps_setLc (g := tgw X.K E0 (own.map (·.2)) g) (tt := tt X.K E0 t) (te := tm X.K E0 f) hc hN hy hyl (sw_true hk hyl hl hsw) (ii_cell hi) (blkOk_by ok) hg ht he hs).weak fun De σ H ⟨B, γ, c, σd, s, rs, k⟩ => ?_
  refine lcC_read (E := E) (fe := fe) (g := g) (t := t) (f := f) σ H _ ⟨B, γ, c, σd, s, rs, cntS_bind k fun d c1 B1 γ1 H1 _ e1 s1 k1 vx rx => ?_⟩
  exact k1 B1 γ1 H1 _ (Ext.refl _ _ _) s1 ((rs.mono e1.ex e1.pre).set rx)
end
end T

set_option linter.all false
set_option maxRecDepth 100000
set_option maxHeartbeats 4000000
/-! Reckoning with denotations. -/
namespace T
open PySem L2 Evl
section
variable {f g : MS} {t : MT} {σ σ' : Sd} {c c' : Cs} {fe : ME} {mg : MG} {d : D} {fs : MA} {ds : List D}
theorem seq_nx (h : f σ c = .nx σ' c') : sSeq f g σ c = g σ' c' := by simp [sSeq, h]
theorem seq_rt (h : f σ c = .rt d c') : sSeq f g σ c = .rt d c' := by simp [sSeq, h]
theorem sif_t (h : t σ c = .ok true c') : sIf t f g σ c = f σ c' := by simp [sIf, h, R.toS]
theorem sif_f (h : t σ c = .ok false c') : sIf t f g σ c = g σ c' := by simp [sIf, h, R.toS]
theorem sret (h : fe σ c = .ok d c') : sRet fe σ c = .rt d c' := by simp [sRet, h, R.toS]
theorem sdrop (h : fe σ c = .ok d c') : sDrop fe σ c = .nx σ c' := by simp [sDrop, h, R.toS]
theorem sasg {i : Nat} (h : fe σ c = .ok d c') : sAsg fe (gNm i) σ c = .nx (σ.set i (some d)) c' := by simp [sAsg, h, R.toS, gNm]
theorem m2_ok {g : D → D → Cs → R D} {f1 f2 : ME} {x y : D} {c1 c2 : Cs} (h1 : f1 σ c = .ok x c1) (h2 : f2 σ c1 = .ok y c2) : m2 g f1 f2 σ c = g x y c2 := by simp [m2, h1, h2, R.bind]
theorem m1_ok {g : D → Cs → R D} {x : D} {c1 : Cs} (h1 : fe σ c = .ok x c1) : m1 g fe σ c = g x c1 := by simp [m1, h1, R.bind]
theorem acons {x : D} {c1 c2 : Cs} (h1 : fe σ c = .ok x c1) (h2 : fs σ c1 = .ok ds c2) : aCons fe fs σ c = .ok (x :: ds) c2 := by simp [aCons, h1, h2, R.bind]
theorem anil : aNil σ c = .ok [] c := rfl
theorem mcall {g : List D → Cs → R D} (h1 : fs σ c = .ok ds c') : mCall g fs σ c = g ds c' := by simp [mCall, h1, R.bind]
theorem mfn {n : Nat} {F : List D → Cs → R D} {dds : List D} {c2 : Cs} (h1 : fs σ c = .ok ds c') (hn : (ds ++ dds).length = n) (h2 : F (ds ++ dds) c' = .ok d c2) : mFn n F dds fs σ c = .ok d c2 := by
  unfold mFn
  rw [mcall h1]
  show (if (ds ++ dds).length = n then (F (ds ++ dds) c').ne else .bad) = _
  rw [if_pos hn, h2]
  rfl
theorem mand_t {a b : ME} {r : R D} (h1 : a σ c = .ok (.bl true) c') (h2 : b σ c' = r) : mAndV a b σ c = r := by simp [mAndV, h1, h2, R.bind]
theorem mand_f {a b : ME} (h1 : a σ c = .ok (.bl false) c') : mAndV a b σ c = .ok (.bl false) c' := by simp [mAndV, h1, R.bind]
theorem mb_ok {b : Bool} (h : fe σ c = .ok (.bl b) c') : mB fe σ c = .ok b c' := by simp [mB, h, R.bind]
theorem mnot_ok {b : Bool} (h : t σ c = .ok b c') : mNot t σ c = .ok (!b) c' := by simp [mNot, h, R.bind]
theorem mnotv_ok {b : Bool} (h : fe σ c = .ok (.bl b) c') : mNotV fe σ c = .ok (.bl (!b)) c' := by simp [mNotV, h, R.bind]
theorem mor_f {a b : MT} {r : R Bool} (h1 : a σ c = .ok false c') (h2 : b σ c' = r) : mOr a b σ c = r := by simp [mOr, h1, h2, R.bind]
theorem mor_t {a b : MT} (h1 : a σ c = .ok true c') : mOr a b σ c = .ok true c' := by simp [mOr, h1, R.bind]
theorem mandt_t {a b : MT} {r : R Bool} (h1 : a σ c = .ok true c') (h2 : b σ c' = r) : mAnd a b σ c = r := by simp [mAnd, h1, h2, R.bind]
theorem mandt_f {a b : MT} (h1 : a σ c = .ok false c') : mAnd a b σ c = .ok false c' := by simp [mAnd, h1, R.bind]
theorem callB_rt {n : Nat} {fb : MS} (h : fb (startD n ds) c = .rt d c') : callB n fb ds c = .ok d c' := by simp [callB, h]
theorem mlst_ok (h : fs σ c = .ok ds c') (hl : ds.length ≤ 1000) : mLst fs σ c = .ok (.lst ds) c' := by simp [mLst, h, R.bind, hl]
theorem mtup_ok (h : fs σ c = .ok ds c') (hl : ds.length ≤ 1000) : mTup fs σ c = .ok (.tup ds) c' := by simp [mTup, h, R.bind, hl]
end
theorem geq_int (a b : Int) (c : Cs) : gEq (.int a) (.int b) c = .ok (.bl (a == b)) c := by
  have h1 : SeqAt.shaped (.int a) = true := by rfl
  have h2 : SeqAt.shaped (.int b) = true := by rfl
  simp [gEq, eqD, toP, h1, h2, PyData.eqv]
theorem gmul_r {i j : Int} {c : Cs} (h : small j = true) : gMul (.int i) (.int j) c = .ok (.int (i * j)) c := by
  show (if (small i || small j) = true then R.ok (D.int (i * j)) c else .bad) = _
  rw [h, Bool.or_true, if_pos rfl]
theorem gmul_l {i j : Int} {c : Cs} (h : small i = true) : gMul (.int i) (.int j) c = .ok (.int (i * j)) c := by
  show (if (small i || small j) = true then R.ok (D.int (i * j)) c else .bad) = _
  rw [h, Bool.true_or, if_pos rfl]
theorem gmod_ok {i j : Int} {c : Cs} (h : j ≠ 0) : gMod (.int i) (.int j) c = .ok (.int (i.fmod j)) c := by
  show (if j ≠ 0 then R.ok (D.int (i.fmod j)) c else .bad) = _
  rw [if_pos h]
theorem gfdiv_ok {i j : Int} {c : Cs} (h : j ≠ 0) (h2 : j.natAbs < 1073741824) : gFdiv (.int i) (.int j) c = .ok (.int (i.fdiv j)) c := by
  show (if j ≠ 0 ∧ j.natAbs < 1073741824 then R.ok (D.int (i.fdiv j)) c else .bad) = _
  rw [if_pos ⟨h, h2⟩]
theorem gpow_ok {i j : Int} {c : Cs} (h : 0 ≤ j ∧ j ≤ 100 ∧ small i = true) : gPow (.int i) (.int j) c = .ok (.int (i ^ j.toNat)) c := by
  show (if 0 ≤ j ∧ j ≤ 100 ∧ small i = true then R.ok (D.int (i ^ j.toNat)) c else .bad) = _
  rw [if_pos h]
theorem gadd_int {i j : Int} {c : Cs} : gAdd (.int i) (.int j) c = .ok (.int (i + j)) c := rfl
theorem gsub_int {i j : Int} {c : Cs} : gSub (.int i) (.int j) c = .ok (.int (i - j)) c := rfl
theorem small_of {i : Int} (h1 : -1000000000000000000 ≤ i) (h2 : i ≤ 1000000000000000000) : small i = true := by
  unfold small
  simp [h1, h2]
theorem fmod_pos {i j : Int} (h : 0 < j) : 0 ≤ i.fmod j ∧ i.fmod j < j := by
  rw [Int.fmod_eq_emod_of_nonneg _ (by omega)]
  exact ⟨Int.emod_nonneg _ (by omega), Int.emod_lt_of_pos _ h⟩
theorem fdiv_nn {i j : Int} (hi : 0 ≤ i) (h : 0 < j) : 0 ≤ i.fdiv j := by
  rw [Int.fdiv_eq_ediv_of_nonneg _ (by omega)]
  exact Int.ediv_nonneg hi (by omega)
theorem gix_at {ds : List D} {j : Nat} {d : D} {c : Cs} (h : ds[j]? = some d) : gIx (.lst ds) (.int (j : Int)) c = .ok d c := by
  show (match L2.atI ds (j : Int) with | some d => R.ok d c | none => R.bad) = _
  rw [atI_nat h]
end T

set_option linter.all false
set_option maxRecDepth 100000
set_option maxHeartbeats 4000000
noncomputable section
namespace K02
open PySem L2 Evl T
def top (i : Nat) : Stmt := PySem.Challenge.pw_lastslip_k02_words_and_alphabets.main.body.getD i (.Pass ⟨0, 0, 0, 0⟩)

structure Txt (K : PySem.W.Frag) (mg : Str → Option Value) : Prop where
  n_all : mg "all" = none
  n_bool : mg "bool" = none
  n_int : mg "int" = none
  n_isinstance : mg "isinstance" = none
  n_len : mg "len" = none
  n_list : mg "list" = none
  n_max : mg "max" = none
  n_min : mg "min" = none
  n_range : mg "range" = none
  n_set : mg "set" = none
  n_sorted : mg "sorted" = none
  n_str : mg "str" = none
  n_tuple : mg "tuple" = none
  n_zip : mg "zip" = none
  c_LETTERS : ∃ t, mg "LETTERS" = some (.str "abcdefghijklmnopqrstuvwxyz" t)
  c_LONGEST_WORD : ∃ t, mg "LONGEST_WORD" = some (.int 200 t)

def b_draws : MS :=
  sSeq (sAsg (mC (.int 12013)) (gNm 1)) (sSeq (sFor (mIt (mSl (mVar 0) (oNone) (oSome (mC (.int 63))))) (gNm 2) (sAsg (m2 gMod (mCall (one gToInt) (aCons (m2 gAdd (m2 gAdd (m2 gMul (mVar 1) (mC (.int 44017))) (m2 gMod (mCall (one gToInt) (aCons (mVar 2) (aNil))) (mC (.int 2147483353)))) (mC (.int 91))) (aNil))) (mC (.int 2147483549))) (gNm 1))) (sRet (mLstC (aCons (mCall (one gLists) (aCons (mSl (mVar 0) (oNone) (oSome (mC (.int 63)))) (aNil))) (aCons (mC (.int 0)) (aCons (mC (.int 0)) (aCons (mVar 1) (aCons (mC (.int 0)) (aNil)))))))))
def b_pull : MS :=
  sSeq (sAsg (m2 gAdd (m2 gIx (mVar 0) (mC (.int 4))) (mC (.int 1))) (gSb (mVar 0) (mC (.int 4)))) (sSeq (sIf (mAnd (mB (m2 gEq (m2 gIx (mVar 0) (mC (.int 2))) (mC (.int 0)))) (mB (m2 gLt (m2 gIx (mVar 0) (mC (.int 1))) (mCall (one gLen) (aCons (m2 gIx (mVar 0) (mC (.int 0))) (aNil)))))) (sSeq (sAsg (mTup (aCons (m2 gIx (m2 gIx (mVar 0) (mC (.int 0))) (m2 gIx (mVar 0) (mC (.int 1)))) (aCons (m2 gAdd (m2 gIx (mVar 0) (mC (.int 1))) (mC (.int 1))) (aNil)))) (gTp 2 (gsCons (gNm 2) (gsCons (gSb (mVar 0) (mC (.int 1))) (gsNil))))) (sSeq (sIf (mB (m2 gGe (mVar 2) (m2 gPow (mC (.int 10)) (mC (.int 18))))) (sAsg (mVar 2) (gSb (mVar 0) (mC (.int 2)))) (sNx)) (sAsg (m2 gMod (mCall (one gToInt) (aCons (m2 gAdd (m2 gAdd (m2 gMul (m2 gIx (mVar 0) (mC (.int 3))) (mC (.int 39217))) (m2 gMul (m2 gMod (mCall (one gToInt) (aCons (mVar 2) (aNil))) (mC (.int 2147483353))) (mC (.int 41231)))) (mC (.int 71))) (aNil))) (mC (.int 2147483549))) (gSb (mVar 0) (mC (.int 3)))))) (sNx)) (sSeq (sIf (mB (m2 gGt (m2 gIx (mVar 0) (mC (.int 2))) (mC (.int 0)))) (sSeq (sAsg (mTup (aCons (m2 gMod (mCall (one gToInt) (aCons (m2 gIx (mVar 0) (mC (.int 2))) (aNil))) (mVar 1)) (aCons (m2 gFdiv (m2 gIx (mVar 0) (mC (.int 2))) (mVar 1)) (aNil)))) (gTp 2 (gsCons (gNm 3) (gsCons (gSb (mVar 0) (mC (.int 2))) (gsNil))))) (sRet (mVar 3))) (sNx)) (sSeq (sAsg (m2 gIx (mVar 0) (mC (.int 3))) (gNm 4)) (sSeq (sAsg (m2 gMod (mCall (one gToInt) (aCons (m2 gAdd (m2 gAdd (m2 gAdd (m2 gPow (mVar 4) (mC (.int 3))) (m2 gMul (mVar 4) (mC (.int 36979)))) (m2 gMul (m2 gIx (mVar 0) (mC (.int 4))) (mC (.int 1299827)))) (mC (.int 50021))) (aNil))) (mC (.int 2147483549))) (gSb (mVar 0) (mC (.int 3)))) (sRet (m2 gMod (mCall (one gToInt) (aCons (m2 gAdd (m2 gFdiv (m2 gIx (mVar 0) (mC (.int 3))) (mC (.int 89))) (m2 gMul (m2 gMod (mCall (one gToInt) (aCons (m2 gIx (mVar 0) (mC (.int 3))) (aNil))) (mC (.int 7907))) (mC (.int 61)))) (aNil))) (mVar 1)))))))
def b_any (F_pull : List D → Cs → R D) : MS :=
  sRet (m2 gIx (mVar 1) (mFn 2 F_pull [] (aCons (mVar 0) (aCons (mCall (one gLen) (aCons (mVar 1) (aNil))) (aNil)))))
def b_word (F_any F_pull : List D → Cs → R D) : MS :=
  sRet (mMs gJoin (mC (.str "")) (aCons (mLc [4] (mItR1 (aCons (m2 gAdd (mVar 2) (mFn 2 F_pull [] (aCons (mVar 0) (aCons (m2 gAdd (m2 gSub (mVar 3) (mVar 2)) (mC (.int 1))) (aNil))))) (aNil))) (gNm 4) (tYesD) (mFn 2 F_any [] (aCons (mVar 0) (aCons (mVar 1) (aNil))))) (aNil)))
def b_words_of : MS :=
  sSeq (sAsg (mLstC (aCons (mC (.str "")) (aNil))) (gNm 2)) (sSeq (sAsg (mLst (aCons (mC (.str "")) (aNil))) (gNm 3)) (sSeq (sFor (mItR1 (aCons (mCall (two gMin) (aCons (mVar 1) (aCons (mC (.int 200)) (aNil)))) (aNil))) (gNm 4) (sSeq (sAsg (mLc2 [5, 6] [6] (mIt (mVar 3)) (gNm 5) (mItS (mVar 0)) (gNm 6) (m2 gAdd (mVar 5) (mVar 6))) (gNm 3)) (sDrop (mMl gExt (mVar 2) (aCons (mVar 3) (aNil)))))) (sRet (mVar 2))))
def b_alphabet (F_pull F_any : List D → Cs → R D) : MS :=
  sSeq (sAsg (mC (.str "abcdefghijklmnopqrstuvwxyz")) (gNm 2)) (sSeq (sAsg (mCall (two gMin) (aCons (mVar 1) (aCons (mFn 2 F_any [] (aCons (mVar 0) (aCons (mLst (aCons (mC (.int 2)) (aCons (mC (.int 1)) (aCons (mC (.int 2)) (aCons (mC (.int 3)) (aCons (mC (.int 2)) (aCons (mC (.int 3)) (aNil)))))))) (aNil)))) (aNil)))) (gNm 3)) (sSeq (sAsg (mFn 2 F_pull [] (aCons (mVar 0) (aCons (mC (.int 20)) (aNil)))) (gNm 4)) (sSeq (sAsg (m2 gAdd (m2 gAdd (mVar 4) (mC (.int 1))) (mFn 2 F_pull [] (aCons (mVar 0) (aCons (mC (.int 3)) (aNil))))) (gNm 5)) (sRet (mMs gJoin (mC (.str "")) (aCons (mLc [6] (mIt (mSl (mLst (aCons (mVar 4) (aCons (mVar 5) (aCons (m2 gAdd (m2 gAdd (mVar 5) (mC (.int 1))) (mFn 2 F_pull [] (aCons (mVar 0) (aCons (mC (.int 2)) (aNil))))) (aNil))))) (oNone) (oSome (mVar 3)))) (gNm 6) (tYesD) (m2 gIx (mVar 2) (mVar 6))) (aNil)))))))
def b_is_word : MS :=
  sRet (mAndV (mCall (two gIsi) (aCons (mVar 0) (aCons (mC (.ty "str")) (aNil)))) (mAndV (m2 gLe (mCall (one gLen) (aCons (mVar 0) (aNil))) (mVar 1)) (m2 gEq (mMs gStrip (mVar 0) (aCons (mC (.str "abcdefghijklmnopqrstuvwxyz")) (aNil))) (mC (.str "")))))
def b_like (F_like : List D → Cs → R D) : MS :=
  sSeq (sIf (mB (mCall (two gIsiT) (aCons (mVar 1) (aCons (mTup (aCons (mC (.ty "list")) (aCons (mC (.ty "tuple")) (aNil)))) (aNil))))) (sSeq (sAsg (mAndV (m2 gEq (mCall (two gIsi) (aCons (mVar 0) (aCons (mC (.ty "list")) (aNil)))) (mCall (two gIsi) (aCons (mVar 1) (aCons (mC (.ty "list")) (aNil))))) (m2 gEq (mCall (two gIsi) (aCons (mVar 0) (aCons (mC (.ty "tuple")) (aNil)))) (mCall (two gIsi) (aCons (mVar 1) (aCons (mC (.ty "tuple")) (aNil)))))) (gNm 2)) (sRet (mAndV (mVar 2) (mAndV (m2 gEq (mCall (one gLen) (aCons (mVar 0) (aNil))) (mCall (one gLen) (aCons (mVar 1) (aNil)))) (mCall (one gAll) (aCons (mLc [3, 4] (mItZT (aCons (mVar 0) (aCons (mVar 1) (aNil)))) (gTp 2 (gsCons (gNm 3) (gsCons (gNm 4) (gsNil)))) (tYesD) (mFn 2 F_like [] (aCons (mVar 3) (aCons (mVar 4) (aNil))))) (aNil))))))) (sNx)) (sSeq (sIf (mOr (mB (m2 gIsN (mVar 0) (mC .non))) (mOr (mB (m2 gIsN (mVar 1) (mC .non))) (mB (m2 gNe (mCall (two gIsi) (aCons (mVar 0) (aCons (mC (.ty "bool")) (aNil)))) (mCall (two gIsi) (aCons (mVar 1) (aCons (mC (.ty "bool")) (aNil)))))))) (sRet (mAndV (m2 gIsN (mVar 0) (mC .non)) (m2 gIsN (mVar 1) (mC .non)))) (sNx)) (sRet (mAndV (m2 gEq (mCall (two gIsi) (aCons (mVar 0) (aCons (mC (.ty "int")) (aNil)))) (mCall (two gIsi) (aCons (mVar 1) (aCons (mC (.ty "int")) (aNil))))) (mAndV (m2 gEq (mCall (two gIsi) (aCons (mVar 0) (aCons (mC (.ty "str")) (aNil)))) (mCall (two gIsi) (aCons (mVar 1) (aCons (mC (.ty "str")) (aNil))))) (m2 gEq (mVar 0) (mVar 1))))))
def b_is_number : MS :=
  sRet (mAndV (mCall (two gIsi) (aCons (mVar 0) (aCons (mC (.ty "int")) (aNil)))) (mAndV (mNotV (mCall (two gIsi) (aCons (mVar 0) (aCons (mC (.ty "bool")) (aNil))))) (mChain gLe gLe (mVar 1) (mVar 0) (mVar 2))))
def b_is_alphabet (F_is_word : List D → Cs → R D) : MS :=
  sRet (mAndV (mFn 2 F_is_word [] (aCons (mVar 0) (aCons (mC (.int 3)) (aNil)))) (mAndV (m2 gNe (mVar 0) (mC (.str ""))) (m2 gEq (mCall (one gLists) (aCons (mVar 0) (aNil))) (m1 gSortSet (mVar 0)))))
def b_law (F_draws F_pull F_word F_any F_words_of F_alphabet F_is_word F_like F_is_number F_is_alphabet : List D → Cs → R D) : MS :=
  sSeq (sAsg (mFn 1 F_draws [] (aCons (mVar 0) (aNil))) (gNm 1)) (sSeq (sFor (mItR1 (aCons (mC (.int 2)) (aNil))) (gNm 2) (sSeq (sAsg (mTup (aCons (mFn 2 F_alphabet [] (aCons (mVar 1) (aCons (mC (.int 3)) (aNil)))) (aCons (m2 gSub (mFn 2 F_pull [] (aCons (mVar 1) (aCons (mC (.int 9)) (aNil)))) (mC (.int 4))) (aNil)))) (gTp 2 (gsCons (gNm 3) (gsCons (gNm 4) (gsNil))))) (sSeq (sAsg (m2 gAdd (mVar 4) (mFn 2 F_pull [] (aCons (mVar 1) (aCons (mC (.int 5)) (aNil))))) (gNm 5)) (sSeq (sFor (mItR2 (aCons (m2 gSub (mVar 4) (mC (.int 2))) (aCons (m2 gAdd (mVar 5) (mC (.int 3))) (aNil)))) (gNm 6) (sIf (mNot (mB (mFn 2 F_like [] (aCons (mFn 3 F_is_number [] (aCons (mVar 6) (aCons (mVar 4) (aCons (mVar 5) (aNil))))) (aCons (mChain gLe gLe (mVar 4) (mVar 6) (mVar 5)) (aNil)))))) (sRet (mC (.bl false))) (sNx))) (sSeq (sIf (mB (m2 gNe (mLc [7] (mIt (mLst (aCons (mC (.bl true)) (aCons (mC (.bl false)) (aCons (mC .non) (aCons (mC (.str "1")) (aCons (mTup (aCons (mC (.int 1)) (aNil))) (aCons (mLst (aCons (mC (.int 1)) (aNil))) (aNil))))))))) (gNm 7) (tYesD) (mFn 3 F_is_number [] (aCons (mVar 7) (aCons (m2 gSub (mC (.int 0)) (mC (.int 5))) (aCons (mC (.int 5)) (aNil)))))) (m2 gMul (mLst (aCons (mC (.bl false)) (aNil))) (mC (.int 6))))) (sRet (mC (.bl false))) (sNx)) (sSeq (sAsg (mFn 2 F_pull [] (aCons (mVar 1) (aCons (mC (.int 12)) (aNil)))) (gNm 8)) (sSeq (sAsg (mFn 4 F_word [] (aCons (mVar 1) (aCons (mVar 3) (aCons (mVar 8) (aCons (mVar 8) (aNil)))))) (gNm 9)) (sSeq (sAsg (mFn 2 F_any [] (aCons (mVar 1) (aCons (mLst (aCons (mC (.str "A")) (aCons (mC (.str " ")) (aCons (mC (.str "1")) (aCons (mC (.str "-")) (aCons (mC (.str "\n")) (aCons (mC (.str "_")) (aNil)))))))) (aNil)))) (gNm 10)) (sSeq (sAsg (mFn 2 F_pull [] (aCons (mVar 1) (aCons (m2 gAdd (mVar 8) (mC (.int 1))) (aNil)))) (gNm 11)) (sSeq (sAsg (mLst (aCons (mFn 2 F_is_word [(.int 200)] (aCons (mVar 9) (aNil))) (aCons (mFn 2 F_is_word [] (aCons (mVar 9) (aCons (mVar 8) (aNil)))) (aCons (mKw 2 2 (fun l => [l.getD 1 D.non, l.getD 0 D.non]) F_is_word (aCons (m2 gAdd (mVar 8) (mC (.int 1))) (aCons (mVar 9) (aNil)))) (aCons (mFn 2 F_is_word [] (aCons (m2 gAdd (mVar 9) (mC (.str "q"))) (aCons (mVar 8) (aNil)))) (aCons (mFn 2 F_is_word [(.int 200)] (aCons (m2 gAdd (m2 gAdd (mSl (mVar 9) (oNone) (oSome (mVar 11))) (mVar 10)) (mSl (mVar 9) (oSome (mVar 11)) (oNone))) (aNil))) (aCons (mFn 2 F_is_word [(.int 200)] (aCons (m2 gMulS (mC (.str "z")) (mC (.int 200))) (aNil))) (aCons (mFn 2 F_is_word [(.int 200)] (aCons (m2 gMulS (mC (.str "z")) (mC (.int 201))) (aNil))) (aCons (mFn 2 F_is_word [(.int 200)] (aCons (mC (.str "")) (aNil))) (aNil)))))))))) (gNm 12)) (sSeq (sIf (mNot (mB (mFn 2 F_like [] (aCons (mVar 12) (aCons (mLst (aCons (mC (.bl true)) (aCons (mC (.bl true)) (aCons (mC (.bl true)) (aCons (mC (.bl false)) (aCons (mC (.bl false)) (aCons (mC (.bl true)) (aCons (mC (.bl false)) (aCons (mC (.bl true)) (aNil)))))))))) (aNil)))))) (sRet (mC (.bl false))) (sNx)) (sSeq (sIf (mOr (mB (m2 gNe (mLc [7] (mIt (mLst (aCons (mC .non) (aCons (mC (.bl true)) (aCons (mC (.int 3)) (aCons (mTup (aCons (mC (.str "a")) (aNil))) (aCons (mLst (aCons (mC (.str "a")) (aNil))) (aNil)))))))) (gNm 7) (tYesD) (mFn 2 F_is_word [(.int 200)] (aCons (mVar 7) (aNil)))) (m2 gMul (mLst (aCons (mC (.bl false)) (aNil))) (mC (.int 5))))) (mB (m2 gNe (mLc [7] (mIt (mLst (aCons (mC .non) (aCons (mC (.bl true)) (aCons (mC (.str "")) (aCons (mC (.str "A")) (aCons (mTup (aCons (mC (.str "a")) (aNil))) (aCons (mLst (aCons (mC (.str "a")) (aNil))) (aCons (mC (.str "abcd")) (aCons (mC (.str "a b")) (aCons (mC (.str "a1")) (aNil)))))))))))) (gNm 7) (tYesD) (mFn 1 F_is_alphabet [] (aCons (mVar 7) (aNil)))) (m2 gMul (mLst (aCons (mC (.bl false)) (aNil))) (mC (.int 9)))))) (sRet (mC (.bl false))) (sNx)) (sSeq (sIf (mNot (mB (mFn 2 F_like [] (aCons (mLst (aCons (mFn 1 F_is_alphabet [] (aCons (mVar 3) (aNil))) (aCons (mFn 1 F_is_alphabet [] (aCons (m1 revS (mVar 3)) (aNil))) (aCons (mFn 1 F_is_alphabet [] (aCons (m2 gAdd (m2 gIx (mVar 3) (mC (.int 0))) (mVar 3)) (aNil))) (aNil))))) (aCons (mLst (aCons (mC (.bl true)) (aCons (m2 gEq (mCall (one gLen) (aCons (mVar 3) (aNil))) (mC (.int 1))) (aCons (mC (.bl false)) (aNil))))) (aNil)))))) (sRet (mC (.bl false))) (sNx)) (sSeq (sAsg (mFn 2 F_pull [] (aCons (mVar 1) (aCons (mC (.int 4)) (aNil)))) (gNm 13)) (sSeq (sAsg (mFn 2 F_words_of [] (aCons (mVar 3) (aCons (mVar 13) (aNil)))) (gNm 14)) (sSeq (sAsg (mCall (one gLen) (aCons (mVar 3) (aNil))) (gNm 15)) (sSeq (sAsg (mLst (aCons (mC (.int 1)) (aCons (m2 gAdd (mC (.int 1)) (mVar 15)) (aCons (m2 gAdd (m2 gAdd (mC (.int 1)) (mVar 15)) (m2 gMul (mVar 15) (mVar 15))) (aCons (m2 gAdd (m2 gAdd (m2 gAdd (mC (.int 1)) (mVar 15)) (m2 gMul (mVar 15) (mVar 15))) (m2 gMul (m2 gMul (mVar 15) (mVar 15)) (mVar 15))) (aNil)))))) (gNm 16)) (sSeq (sIf (mOr (mNot (mB (mCall (two gIsi) (aCons (mVar 14) (aCons (mC (.ty "list")) (aNil)))))) (mOr (mB (m2 gNe (mCall (one gLen) (aCons (mVar 14) (aNil))) (m2 gIx (mVar 16) (mVar 13)))) (mB (m2 gNe (m2 gIx (mVar 14) (mC (.int 0))) (mC (.str "")))))) (sRet (mC (.bl false))) (sNx)) (sSeq (sAsg (mLcC [18] (mVar 14) (gNm 18) (tYesD) (mTup (aCons (mCall (one gLen) (aCons (mVar 18) (aNil))) (aCons (mVar 18) (aNil))))) (gNm 17)) (sSeq (sIf (mOr (mB (m2 gNe (mVar 17) (mCall (one gSorted) (aCons (mVar 17) (aNil))))) (mOr (mB (m2 gNe (m1 gLenSet (mVar 14)) (mCall (one gLen) (aCons (mVar 14) (aNil))))) (mNot (mB (mCall (one gAll) (aCons (mLcC [18] (mVar 14) (gNm 18) (tYesD) (mAndV (mCall (two gIsi) (aCons (mVar 18) (aCons (mC (.ty "str")) (aNil)))) (mCall (one gAll) (aCons (mLc [19] (mItS (mVar 18)) (gNm 19) (tYesD) (m2 gInS (mVar 19) (mVar 3))) (aNil))))) (aNil))))))) (sRet (mC (.bl false))) (sNx)) (sSeq (sIf (mB (m2 gNe (mCall (one gMaxL) (aCons (mLcC [18] (mVar 14) (gNm 18) (tYesD) (mCall (one gLen) (aCons (mVar 18) (aNil)))) (aNil))) (mVar 13))) (sRet (mC (.bl false))) (sNx)) (sSeq (sDrop (mMl gApp (mVar 14) (aCons (mC (.str "x")) (aNil)))) (sIf (mB (m2 gNe (mCall (one gLen) (aCons (mKw 2 2 (fun l => [l.getD 1 D.non, l.getD 0 D.non]) F_words_of (aCons (mVar 13) (aCons (mVar 3) (aNil)))) (aNil))) (m2 gSub (mCall (one gLen) (aCons (mVar 14) (aNil))) (mC (.int 1))))) (sRet (mC (.bl false))) (sNx)))))))))))))))))))))))) (sRet (mC (.bl true))))

def g_is_word_most_value : List Value → List Value → List Value := fun _ ws => [ws.getD 1 .none, ws.getD 0 .none]
def gV_is_word_most_value : List V → List V → List V := fun _ ws => [ws.getD 1 .non, ws.getD 0 .non]
theorem kd_is_word_most_value {K : PySem.W.Frag} : ∀ (B : Hp) (γ : List Addr) (ds : List D) (vs : List V), ds.length = 2 → Reps K B γ ds vs → Reps K B γ ((fun l => [l.getD 1 D.non, l.getD 0 D.non]) ds) (gV_is_word_most_value [] vs) := kd_2_10
def g_words_of_most_alphabet : List Value → List Value → List Value := fun _ ws => [ws.getD 1 .none, ws.getD 0 .none]
def gV_words_of_most_alphabet : List V → List V → List V := fun _ ws => [ws.getD 1 .non, ws.getD 0 .non]
theorem kd_words_of_most_alphabet {K : PySem.W.Frag} : ∀ (B : Hp) (γ : List Addr) (ds : List D) (vs : List V), ds.length = 2 → Reps K B γ ds vs → Reps K B γ ((fun l => [l.getD 1 D.non, l.getD 0 D.non]) ds) (gV_words_of_most_alphabet [] vs) := kd_2_10
section
variable {P : Program} {w : World} {K : PySem.W.Frag} {mg : Str → Option Value} {base : Heap}
abbrev s_draws : Stmt := top 8
abbrev n_draws : List Str := ["_law_script", "_law_seed", "_law_cell"]
abbrev p_draws : List Str := ["_law_script"]
theorem sc_draws : FnScope n_draws p_draws (defScope s_draws) := ⟨rfl, rfl, rfl, by decide +kernel, rfl, by decide +kernel, by decide +kernel⟩
theorem bd_draws (T : Txt K mg) {qual : Str} {f : Addr} : Body P w K mg base n_draws qual s_draws f 0 fun Y => ISs Y E0 (defBody s_draws) (b_draws ) := by
  intro cdv A outer s H E hr
  exact (iss_cons (is_set (i := 1) sc_draws.nd rfl (.inl rfl) ie_int)
    (iss_cons (is_for PySem.PassesOwn.never rfl (ii_list (ie_sl (ie_var 0) io_none (io_some ie_int))) (ig_name (i := 2) sc_draws.nd rfl (.inl rfl)) (iss_one (is_set (i := 1) sc_draws.nd rfl (.inl rfl) (ie_op op_modN sim_mod (ie_callTy call_int1 sim_toInt (by rfl) T.n_int (by decide +kernel) (ia_cons (ie_op op_adds sim_add (ie_op op_adds sim_add (ie_op op_muls sim_mul (ie_var 1) ie_int) (ie_op op_modN sim_mod (ie_callTy call_int1 sim_toInt (by rfl) T.n_int (by decide +kernel) (ia_cons (ie_var 2) ia_nil)) ie_int)) ie_int) ia_nil)) ie_int))))
    (iss_one (is_ret (ie_lstC (ia_cons (ie_callTy (call_lists rfl) sim_lists (by rfl) T.n_list (by decide +kernel) (ia_cons (ie_sl (ie_var 0) io_none (io_some ie_int)) ia_nil)) (ia_cons ie_int (ia_cons ie_int (ia_cons (ie_var 1) (ia_cons ie_int ia_nil))))))))))
abbrev s_pull : Stmt := top 9
abbrev n_pull : List Str := ["_law_bag", "_law_sides", "_law_cell", "_law_digit", "_law_seed"]
abbrev p_pull : List Str := ["_law_bag", "_law_sides"]
theorem sc_pull : FnScope n_pull p_pull (defScope s_pull) := ⟨rfl, rfl, rfl, by decide +kernel, rfl, by decide +kernel, by decide +kernel⟩
theorem bd_pull (T : Txt K mg) {qual : Str} {f : Addr} : Body P w K mg base n_pull qual s_pull f 0 fun Y => ISs Y E0 (defBody s_pull) (b_pull ) := by
  intro cdv A outer s H E hr
  exact (iss_cons (is_asg (ie_op op_adds sim_add (ie_ix ix_seq sim_ix (ie_var 0) ie_int (fun _ _ => rfl)) ie_int) (ig_sub (ie_var 0) ie_int))
    (iss_cons (is_if (IW.it (iw_and (it_cmp (op_eqD hr.units) sim_eq (ie_ix ix_seq sim_ix (ie_var 0) ie_int (fun _ _ => rfl)) ie_int (nomark _)) (iw_and1 (it_cmp op_lt sim_lt (ie_ix ix_seq sim_ix (ie_var 0) ie_int (fun _ _ => rfl)) (ie_callB call_len sim_len (by rfl) T.n_len (by decide +kernel) (ia_cons (ie_ix ix_seq sim_ix (ie_var 0) ie_int (fun _ _ => rfl)) ia_nil)) (nomark _))))) (iss_cons (is_asg (ie_tup (ia_cons (ie_ix ix_seq sim_ix (ie_ix ix_seq sim_ix (ie_var 0) ie_int (fun _ _ => rfl)) (ie_ix ix_seq sim_ix (ie_var 0) ie_int (fun _ _ => rfl)) (fun _ _ => rfl)) (ia_cons (ie_op op_adds sim_add (ie_ix ix_seq sim_ix (ie_var 0) ie_int (fun _ _ => rfl)) ie_int) ia_nil))) (ig_tup rfl (igs_cons (ig_name (i := 2) sc_pull.nd rfl (.inl rfl)) (igs_cons (ig_sub (ie_var 0) ie_int) igs_nil))))
    (iss_cons (is_if (it_cmp op_ge sim_ge (ie_var 2) (ie_op op_pow sim_pow ie_int ie_int) (nomark _)) (iss_one (is_asg (ie_var 2) (ig_sub (ie_var 0) ie_int))) iss_nil)
    (iss_one (is_asg (ie_op op_modN sim_mod (ie_callTy call_int1 sim_toInt (by rfl) T.n_int (by decide +kernel) (ia_cons (ie_op op_adds sim_add (ie_op op_adds sim_add (ie_op op_muls sim_mul (ie_ix ix_seq sim_ix (ie_var 0) ie_int (fun _ _ => rfl)) ie_int) (ie_op op_muls sim_mul (ie_op op_modN sim_mod (ie_callTy call_int1 sim_toInt (by rfl) T.n_int (by decide +kernel) (ia_cons (ie_var 2) ia_nil)) ie_int) ie_int)) ie_int) ia_nil)) ie_int) (ig_sub (ie_var 0) ie_int))))) iss_nil)
    (iss_cons (is_if (it_cmp op_gt sim_gt (ie_ix ix_seq sim_ix (ie_var 0) ie_int (fun _ _ => rfl)) ie_int (nomark _)) (iss_cons (is_asg (ie_tup (ia_cons (ie_op op_modN sim_mod (ie_callTy call_int1 sim_toInt (by rfl) T.n_int (by decide +kernel) (ia_cons (ie_ix ix_seq sim_ix (ie_var 0) ie_int (fun _ _ => rfl)) ia_nil)) (ie_var 1)) (ia_cons (ie_op op_fdivN sim_fdiv (ie_ix ix_seq sim_ix (ie_var 0) ie_int (fun _ _ => rfl)) (ie_var 1)) ia_nil))) (ig_tup rfl (igs_cons (ig_name (i := 3) sc_pull.nd rfl (.inl rfl)) (igs_cons (ig_sub (ie_var 0) ie_int) igs_nil))))
    (iss_one (is_ret (ie_var 3)))) iss_nil)
    (iss_cons (is_set (i := 4) sc_pull.nd rfl (.inl rfl) (ie_ix ix_seq sim_ix (ie_var 0) ie_int (fun _ _ => rfl)))
    (iss_cons (is_asg (ie_op op_modN sim_mod (ie_callTy call_int1 sim_toInt (by rfl) T.n_int (by decide +kernel) (ia_cons (ie_op op_adds sim_add (ie_op op_adds sim_add (ie_op op_adds sim_add (ie_op op_pow sim_pow (ie_var 4) ie_int) (ie_op op_muls sim_mul (ie_var 4) ie_int)) (ie_op op_muls sim_mul (ie_ix ix_seq sim_ix (ie_var 0) ie_int (fun _ _ => rfl)) ie_int)) ie_int) ia_nil)) ie_int) (ig_sub (ie_var 0) ie_int))
    (iss_one (is_ret (ie_op op_modN sim_mod (ie_callTy call_int1 sim_toInt (by rfl) T.n_int (by decide +kernel) (ia_cons (ie_op op_adds sim_add (ie_op op_fdivN sim_fdiv (ie_ix ix_seq sim_ix (ie_var 0) ie_int (fun _ _ => rfl)) ie_int) (ie_op op_muls sim_mul (ie_op op_modN sim_mod (ie_callTy call_int1 sim_toInt (by rfl) T.n_int (by decide +kernel) (ia_cons (ie_ix ix_seq sim_ix (ie_var 0) ie_int (fun _ _ => rfl)) ia_nil)) ie_int) ie_int)) ia_nil)) (ie_var 1)))))))))
abbrev s_any : Stmt := top 10
abbrev n_any : List Str := ["_law_bag", "_law_rows"]
abbrev p_any : List Str := ["_law_bag", "_law_rows"]
theorem sc_any : FnScope n_any p_any (defScope s_any) := ⟨rfl, rfl, rfl, by decide +kernel, rfl, by decide +kernel, by decide +kernel⟩
theorem bd_any (T : Txt K mg) {F_pull : List D → Cs → R D} {f_pull : Addr} {fd_pull : FuncData} (C_pull : Callee P w K mg base "_law_pull" p_pull 1 F_pull f_pull fd_pull) {qual : Str} {f : Addr} : Body P w K mg base n_any qual s_any f 1 fun Y => ISs Y E0 (defBody s_any) (b_any F_pull) := by
  intro cdv A outer s H E hr
  have hr_pull : Room 1 _ := hr.mono (by decide)
  exact (iss_one (is_ret (ie_ix ix_seq sim_ix (ie_var 1) (C_pull.call rfl hr_pull (ia_cons (ie_var 0) (ia_cons (ie_callB call_len sim_len (by rfl) T.n_len (by decide +kernel) (ia_cons (ie_var 1) ia_nil)) ia_nil))) (fun _ _ => rfl))))
abbrev s_word : Stmt := top 13
abbrev n_word : List Str := ["_law_bag", "_law_alphabet_z", "_law_low", "_law_high", "_law_k"]
abbrev p_word : List Str := ["_law_bag", "_law_alphabet_z", "_law_low", "_law_high"]
theorem sc_word : FnScope n_word p_word (defScope s_word) := ⟨rfl, rfl, rfl, by decide +kernel, rfl, by decide +kernel, by decide +kernel⟩
theorem bd_word (T : Txt K mg) {F_any : List D → Cs → R D} {f_any : Addr} {fd_any : FuncData} (C_any : Callee P w K mg base "_law_any" p_any 2 F_any f_any fd_any) {F_pull : List D → Cs → R D} {f_pull : Addr} {fd_pull : FuncData} (C_pull : Callee P w K mg base "_law_pull" p_pull 1 F_pull f_pull fd_pull) {qual : Str} {f : Addr} : Body P w K mg base n_word qual s_word f 2 fun Y => ISs Y E0 (defBody s_word) (b_word F_any F_pull) := by
  intro cdv A outer s H E hr
  have hr_any : Room 2 _ := hr.mono (by decide)
  have hr_pull : Room 1 _ := hr.mono (by decide)
  exact (iss_one (is_ret (ie_ms PySem.F.plainAttrs_str PySem.F.slot_str_join PySem.F.type_str_join mt_join sim_join ie_str (ia_cons (ie_lc [("_law_k", 4)] rfl sc_word.nd (ii_range1 (by rfl) T.n_range (ia_cons (ie_op op_adds sim_add (ie_var 2) (C_pull.call rfl hr_pull (ia_cons (ie_var 0) (ia_cons (ie_op op_adds sim_add (ie_op op_sub sim_sub (ie_var 3) (ie_var 2)) ie_int) ia_nil)))) ia_nil)) (by kernel_rfl) (fun _ _ _ _ _ => (igw_name (i := 4) sc_word.nd rfl (by first | exact .inl rfl | exact .inr rfl) (by simp))) (fun _ _ _ _ _ => its_nil) (fun _ _ _ _ _ => (C_any.call rfl hr_any (ia_cons (ie_var 0) (ia_cons (ie_var 1) ia_nil))))) ia_nil))))
abbrev s_words_of : Stmt := top 6
abbrev n_words_of : List Str := ["alphabet", "most", "words", "longest", "_", "word", "letter"]
abbrev p_words_of : List Str := ["alphabet", "most"]
theorem sc_words_of : FnScope n_words_of p_words_of (defScope s_words_of) := ⟨rfl, rfl, rfl, by decide +kernel, rfl, by decide +kernel, by decide +kernel⟩
theorem bd_words_of (T : Txt K mg) {qual : Str} {f : Addr} : Body P w K mg base n_words_of qual s_words_of f 0 fun Y => ISs Y E0 (defBody s_words_of) (b_words_of ) := by
  intro cdv A outer s H E hr
  exact (iss_cons (is_set (i := 2) sc_words_of.nd rfl (.inl rfl) (ie_lstC (ia_cons ie_str ia_nil)))
    (iss_cons (is_set (i := 3) sc_words_of.nd rfl (.inl rfl) (ie_lst (ia_cons ie_str ia_nil)))
    (iss_cons (is_for PySem.PassesOwn.never rfl (ii_range1 (by rfl) T.n_range (ia_cons (ie_callB (call_min2 rfl) sim_min (by rfl) T.n_min (by decide +kernel) (ia_cons (ie_var 1) (ia_cons (ie_gi (by rfl) T.c_LONGEST_WORD) ia_nil))) ia_nil)) (ig_name (i := 4) sc_words_of.nd rfl (.inl rfl)) (iss_cons (is_setLc2 (i := 3) [("word", 5), ("letter", 6)] [6] rfl sc_words_of.nd rfl rfl rfl rfl (by decide +kernel) (ii_list (ie_var 3)) (by kernel_rfl) (by decide) (fun _ _ _ _ _ => (igw_name (i := 5) sc_words_of.nd rfl (by first | exact .inl rfl | exact .inr rfl) (by simp))) (fun _ _ _ _ _ => (ii_str (ie_var 0))) (fun _ _ _ _ _ => (igw_name (i := 6) sc_words_of.nd rfl (by first | exact .inl rfl | exact .inr rfl) (by simp))) (fun _ _ _ _ _ => (ie_op op_adds sim_add (ie_var 5) (ie_var 6))))
    (iss_one (is_expr (ie_ml PySem.F.plainAttrs_list PySem.F.slot_list_extend PySem.F.type_list_extend mt_extend sim_ext (ie_var 2) (ia_cons (ie_var 3) ia_nil))))))
    (iss_one (is_ret (ie_var 2))))))
abbrev s_alphabet : Stmt := top 12
abbrev n_alphabet : List Str := ["_law_bag", "_law_most_z", "_law_abc", "_law_many", "_law_first", "_law_second", "_law_at"]
abbrev p_alphabet : List Str := ["_law_bag", "_law_most_z"]
theorem sc_alphabet : FnScope n_alphabet p_alphabet (defScope s_alphabet) := ⟨rfl, rfl, rfl, by decide +kernel, rfl, by decide +kernel, by decide +kernel⟩
theorem bd_alphabet (T : Txt K mg) {F_pull : List D → Cs → R D} {f_pull : Addr} {fd_pull : FuncData} (C_pull : Callee P w K mg base "_law_pull" p_pull 1 F_pull f_pull fd_pull) {F_any : List D → Cs → R D} {f_any : Addr} {fd_any : FuncData} (C_any : Callee P w K mg base "_law_any" p_any 2 F_any f_any fd_any) {qual : Str} {f : Addr} : Body P w K mg base n_alphabet qual s_alphabet f 2 fun Y => ISs Y E0 (defBody s_alphabet) (b_alphabet F_pull F_any) := by
  intro cdv A outer s H E hr
  have hr_pull : Room 1 _ := hr.mono (by decide)
  have hr_any : Room 2 _ := hr.mono (by decide)
  exact (iss_cons (is_set (i := 2) sc_alphabet.nd rfl (.inr rfl) ie_str)
    (iss_cons (is_set (i := 3) sc_alphabet.nd rfl (.inl rfl) (ie_callB (call_min2 rfl) sim_min (by rfl) T.n_min (by decide +kernel) (ia_cons (ie_var 1) (ia_cons (C_any.call rfl hr_any (ia_cons (ie_var 0) (ia_cons (ie_lst (ia_cons ie_int (ia_cons ie_int (ia_cons ie_int (ia_cons ie_int (ia_cons ie_int (ia_cons ie_int ia_nil))))))) ia_nil))) ia_nil))))
    (iss_cons (is_set (i := 4) sc_alphabet.nd rfl (.inl rfl) (C_pull.call rfl hr_pull (ia_cons (ie_var 0) (ia_cons ie_int ia_nil))))
    (iss_cons (is_set (i := 5) sc_alphabet.nd rfl (.inl rfl) (ie_op op_adds sim_add (ie_op op_adds sim_add (ie_var 4) ie_int) (C_pull.call rfl hr_pull (ia_cons (ie_var 0) (ia_cons ie_int ia_nil)))))
    (iss_one (is_ret (ie_ms PySem.F.plainAttrs_str PySem.F.slot_str_join PySem.F.type_str_join mt_join sim_join ie_str (ia_cons (ie_lc [("_law_at", 6)] rfl sc_alphabet.nd (ii_list (ie_sl (ie_lst (ia_cons (ie_var 4) (ia_cons (ie_var 5) (ia_cons (ie_op op_adds sim_add (ie_op op_adds sim_add (ie_var 5) ie_int) (C_pull.call rfl hr_pull (ia_cons (ie_var 0) (ia_cons ie_int ia_nil)))) ia_nil)))) io_none (io_some (ie_var 3)))) (by kernel_rfl) (fun _ _ _ _ _ => (igw_name (i := 6) sc_alphabet.nd rfl (by first | exact .inl rfl | exact .inr rfl) (by simp))) (fun _ _ _ _ _ => its_nil) (fun _ _ _ _ _ => (ie_ix ix_seq sim_ix (ie_var 2) (ie_var 6) (fun _ _ => rfl)))) ia_nil))))))))
abbrev s_is_word : Stmt := top 4
abbrev n_is_word : List Str := ["value", "most"]
abbrev p_is_word : List Str := ["value", "most"]
theorem sc_is_word : FnScope n_is_word p_is_word (defScope s_is_word) := ⟨rfl, rfl, rfl, by decide +kernel, rfl, by decide +kernel, by decide +kernel⟩
theorem bd_is_word (T : Txt K mg) {qual : Str} {f : Addr} : Body P w K mg base n_is_word qual s_is_word f 0 fun Y => ISs Y E0 (defBody s_is_word) (b_is_word ) := by
  intro cdv A outer s H E hr
  exact (iss_one (is_ret (ie_and (ie_callB call_isi sim_isi (by rfl) T.n_isinstance (by decide +kernel) (ia_cons (ie_var 0) (ia_cons (ie_gty (by rfl) T.n_str (by decide +kernel)) ia_nil))) (ie_and (ie_cmp op_le sim_le (ie_callB call_len sim_len (by rfl) T.n_len (by decide +kernel) (ia_cons (ie_var 0) ia_nil)) (ie_var 1) (nomark _)) (ie_one (ie_cmp (op_eqD hr.units) sim_eq (ie_ms PySem.F.plainAttrs_str PySem.F.slot_str_strip PySem.F.type_str_strip mt_stripChars sim_strip (ie_var 0) (ia_cons (ie_gs (by rfl) T.c_LETTERS) ia_nil)) ie_str (nomark _)))))))
abbrev s_like : Stmt := top 11
abbrev n_like : List Str := ["_law_a", "_law_b", "_law_same", "_law_c", "_law_d"]
abbrev p_like : List Str := ["_law_a", "_law_b"]
theorem sc_like : FnScope n_like p_like (defScope s_like) := ⟨rfl, rfl, rfl, by decide +kernel, rfl, by decide +kernel, by decide +kernel⟩
theorem bd_like {kk : Nat} (T : Txt K mg) {F_like : List D → Cs → R D} {f_like : Addr} {fd_like : FuncData} (C_like : Callee P w K mg base "_law_like" p_like kk F_like f_like fd_like) {qual : Str} {f : Addr} : Body P w K mg base n_like qual s_like f kk fun Y => ISs Y E0 (defBody s_like) (b_like F_like) := by
  intro cdv A outer s H E hr
  have hr_like : Room kk _ := hr
  exact (iss_cons (is_if (it_b (ie_callB (call_isiT.or call_isiK) sim_isiT (by rfl) T.n_isinstance (by decide +kernel) (ia_cons (ie_var 1) (ia_cons (ie_tup (ia_cons (ie_gty (by rfl) T.n_list (by decide +kernel)) (ia_cons (ie_gty (by rfl) T.n_tuple (by decide +kernel)) ia_nil))) ia_nil)))) (iss_cons (is_set (i := 2) sc_like.nd rfl (.inl rfl) (ie_and (ie_cmp (op_eqD hr.units) sim_eq (ie_callB call_isi sim_isi (by rfl) T.n_isinstance (by decide +kernel) (ia_cons (ie_var 0) (ia_cons (ie_gty (by rfl) T.n_list (by decide +kernel)) ia_nil))) (ie_callB call_isi sim_isi (by rfl) T.n_isinstance (by decide +kernel) (ia_cons (ie_var 1) (ia_cons (ie_gty (by rfl) T.n_list (by decide +kernel)) ia_nil))) (nomark _)) (ie_one (ie_cmp (op_eqD hr.units) sim_eq (ie_callB call_isi sim_isi (by rfl) T.n_isinstance (by decide +kernel) (ia_cons (ie_var 0) (ia_cons (ie_gty (by rfl) T.n_tuple (by decide +kernel)) ia_nil))) (ie_callB call_isi sim_isi (by rfl) T.n_isinstance (by decide +kernel) (ia_cons (ie_var 1) (ia_cons (ie_gty (by rfl) T.n_tuple (by decide +kernel)) ia_nil))) (nomark _)))))
    (iss_one (is_ret (ie_and (ie_var 2) (ie_and (ie_cmp (op_eqD hr.units) sim_eq (ie_callB call_len sim_len (by rfl) T.n_len (by decide +kernel) (ia_cons (ie_var 0) ia_nil)) (ie_callB call_len sim_len (by rfl) T.n_len (by decide +kernel) (ia_cons (ie_var 1) ia_nil)) (nomark _)) (ie_one (ie_callB (cr_all rfl) sim_all (by rfl) T.n_all (by decide +kernel) (ia_cons (ie_lc [("_law_c", 3), ("_law_d", 4)] rfl sc_like.nd (ii_zip (by rfl) T.n_zip (ia_cons (ie_var 0) (ia_cons (ie_var 1) ia_nil))) (by kernel_rfl) (fun _ _ _ _ _ => (igw_tup rfl (igsw_cons (igw_name (i := 3) sc_like.nd rfl (by first | exact .inl rfl | exact .inr rfl) (by simp)) (igsw_cons (igw_name (i := 4) sc_like.nd rfl (by first | exact .inl rfl | exact .inr rfl) (by simp)) igsw_nil)))) (fun _ _ _ _ _ => its_nil) (fun _ _ _ _ _ => (C_like.call rfl hr_like (ia_cons (ie_var 3) (ia_cons (ie_var 4) ia_nil))))) ia_nil)))))))) iss_nil)
    (iss_cons (is_if (IW.it (iw_or (it_cmp op_isN sim_isN (ie_var 0) ie_non (nomark _)) (iw_or (it_cmp op_isN sim_isN (ie_var 1) ie_non (nomark _)) (iw_or1 (it_cmp (op_neD hr.units) sim_ne (ie_callB call_isi sim_isi (by rfl) T.n_isinstance (by decide +kernel) (ia_cons (ie_var 0) (ia_cons (ie_gty (by rfl) T.n_bool (by decide +kernel)) ia_nil))) (ie_callB call_isi sim_isi (by rfl) T.n_isinstance (by decide +kernel) (ia_cons (ie_var 1) (ia_cons (ie_gty (by rfl) T.n_bool (by decide +kernel)) ia_nil))) (nomark _)))))) (iss_one (is_ret (ie_and (ie_cmp op_isN sim_isN (ie_var 0) ie_non (nomark _)) (ie_one (ie_cmp op_isN sim_isN (ie_var 1) ie_non (nomark _)))))) iss_nil)
    (iss_one (is_ret (ie_and (ie_cmp (op_eqD hr.units) sim_eq (ie_callB call_isi sim_isi (by rfl) T.n_isinstance (by decide +kernel) (ia_cons (ie_var 0) (ia_cons (ie_gty (by rfl) T.n_int (by decide +kernel)) ia_nil))) (ie_callB call_isi sim_isi (by rfl) T.n_isinstance (by decide +kernel) (ia_cons (ie_var 1) (ia_cons (ie_gty (by rfl) T.n_int (by decide +kernel)) ia_nil))) (nomark _)) (ie_and (ie_cmp (op_eqD hr.units) sim_eq (ie_callB call_isi sim_isi (by rfl) T.n_isinstance (by decide +kernel) (ia_cons (ie_var 0) (ia_cons (ie_gty (by rfl) T.n_str (by decide +kernel)) ia_nil))) (ie_callB call_isi sim_isi (by rfl) T.n_isinstance (by decide +kernel) (ia_cons (ie_var 1) (ia_cons (ie_gty (by rfl) T.n_str (by decide +kernel)) ia_nil))) (nomark _)) (ie_one (ie_cmp (op_eqD hr.units) sim_eq (ie_var 0) (ie_var 1) (nomark _)))))))))
abbrev s_is_number : Stmt := top 3
abbrev n_is_number : List Str := ["value", "least", "most"]
abbrev p_is_number : List Str := ["value", "least", "most"]
theorem sc_is_number : FnScope n_is_number p_is_number (defScope s_is_number) := ⟨rfl, rfl, rfl, by decide +kernel, rfl, by decide +kernel, by decide +kernel⟩
theorem bd_is_number (T : Txt K mg) {qual : Str} {f : Addr} : Body P w K mg base n_is_number qual s_is_number f 0 fun Y => ISs Y E0 (defBody s_is_number) (b_is_number ) := by
  intro cdv A outer s H E hr
  exact (iss_one (is_ret (ie_and (ie_callB call_isi sim_isi (by rfl) T.n_isinstance (by decide +kernel) (ia_cons (ie_var 0) (ia_cons (ie_gty (by rfl) T.n_int (by decide +kernel)) ia_nil))) (ie_and (ie_not (ie_callB call_isi sim_isi (by rfl) T.n_isinstance (by decide +kernel) (ia_cons (ie_var 0) (ia_cons (ie_gty (by rfl) T.n_bool (by decide +kernel)) ia_nil)))) (ie_one (ie_chain op_le op_le sim_le sim_le (ie_var 1) (ie_var 0) (ie_var 2)))))))
abbrev s_is_alphabet : Stmt := top 5
abbrev n_is_alphabet : List Str := ["value"]
abbrev p_is_alphabet : List Str := ["value"]
theorem sc_is_alphabet : FnScope n_is_alphabet p_is_alphabet (defScope s_is_alphabet) := ⟨rfl, rfl, rfl, by decide +kernel, rfl, by decide +kernel, by decide +kernel⟩
theorem bd_is_alphabet (T : Txt K mg) {F_is_word : List D → Cs → R D} {f_is_word : Addr} {fd_is_word : FuncData} (C_is_word : Callee P w K mg base "is_word" p_is_word 1 F_is_word f_is_word fd_is_word) {qual : Str} {f : Addr} : Body P w K mg base n_is_alphabet qual s_is_alphabet f 1 fun Y => ISs Y E0 (defBody s_is_alphabet) (b_is_alphabet F_is_word) := by
  intro cdv A outer s H E hr
  have hr_is_word : Room 1 _ := hr.mono (by decide)
  exact (iss_one (is_ret (ie_and (C_is_word.call rfl hr_is_word (ia_cons (ie_var 0) (ia_cons ie_int ia_nil))) (ie_and (ie_cmp (op_neD hr.units) sim_ne (ie_var 0) ie_str (nomark _)) (ie_one (ie_cmp (op_eqD hr.units) sim_eq (ie_callTy (call_lists rfl) sim_lists (by rfl) T.n_list (by decide +kernel) (ia_cons (ie_var 0) ia_nil)) (ie_sortSet hr.units T.n_sorted T.n_set (ie_var 0)) (nomark _)))))))
abbrev s_law : Stmt := top 14
abbrev n_law : List Str := ["_law_script", "_law_bag", "_law_turn", "_law_alphabet_z", "_law_least_z", "_law_most_z", "_law_value_z", "_law_x", "_law_size", "_law_word_here", "_law_odd", "_law_at", "_law_told", "_law_many", "_law_words", "_law_wide", "_law_sizes", "_law_keys", "_law_one", "_law_letter"]
abbrev p_law : List Str := ["_law_script"]
theorem sc_law : FnScope n_law p_law (defScope s_law) := ⟨rfl, rfl, rfl, by decide +kernel, rfl, by decide +kernel, by decide +kernel⟩
theorem bd_law (T : Txt K mg) {F_draws : List D → Cs → R D} {f_draws : Addr} {fd_draws : FuncData} (C_draws : Callee P w K mg base "_law_draws" p_draws 1 F_draws f_draws fd_draws) {F_pull : List D → Cs → R D} {f_pull : Addr} {fd_pull : FuncData} (C_pull : Callee P w K mg base "_law_pull" p_pull 1 F_pull f_pull fd_pull) {F_word : List D → Cs → R D} {f_word : Addr} {fd_word : FuncData} (C_word : Callee P w K mg base "_law_word" p_word 3 F_word f_word fd_word) {F_any : List D → Cs → R D} {f_any : Addr} {fd_any : FuncData} (C_any : Callee P w K mg base "_law_any" p_any 2 F_any f_any fd_any) {F_words_of : List D → Cs → R D} {f_words_of : Addr} {fd_words_of : FuncData} (C_words_of : Callee P w K mg base "words_of" p_words_of 1 F_words_of f_words_of fd_words_of) {F_alphabet : List D → Cs → R D} {f_alphabet : Addr} {fd_alphabet : FuncData} (C_alphabet : Callee P w K mg base "_law_alphabet" p_alphabet 3 F_alphabet f_alphabet fd_alphabet) {F_is_word : List D → Cs → R D} {f_is_word : Addr} {fd_is_word : FuncData} (C_is_word : Callee P w K mg base "is_word" p_is_word 1 F_is_word f_is_word fd_is_word) {F_like : List D → Cs → R D} {f_like : Addr} {fd_like : FuncData} (C_like : Callee P w K mg base "_law_like" p_like 4 F_like f_like fd_like) {F_is_number : List D → Cs → R D} {f_is_number : Addr} {fd_is_number : FuncData} (C_is_number : Callee P w K mg base "is_number" p_is_number 1 F_is_number f_is_number fd_is_number) {F_is_alphabet : List D → Cs → R D} {f_is_alphabet : Addr} {fd_is_alphabet : FuncData} (C_is_alphabet : Callee P w K mg base "is_alphabet" p_is_alphabet 2 F_is_alphabet f_is_alphabet fd_is_alphabet) (kb_is_word_most_value : KBn K fd_is_word p_is_word 0 ["most", "value"] (g_is_word_most_value) (gV_is_word_most_value)) (kb_words_of_most_alphabet : KBn K fd_words_of p_words_of 0 ["most", "alphabet"] (g_words_of_most_alphabet) (gV_words_of_most_alphabet)) (df_is_word_1 : DflB K fd_is_word p_is_word [(.int 200)]) {qual : Str} {f : Addr} : Body P w K mg base n_law qual s_law f 4 fun Y => ISs Y E0 (defBody s_law) (b_law F_draws F_pull F_word F_any F_words_of F_alphabet F_is_word F_like F_is_number F_is_alphabet) := by
  intro cdv A outer s H E hr
  have hr_draws : Room 1 _ := hr.mono (by decide)
  have hr_pull : Room 1 _ := hr.mono (by decide)
  have hr_word : Room 3 _ := hr.mono (by decide)
  have hr_any : Room 2 _ := hr.mono (by decide)
  have hr_words_of : Room 1 _ := hr.mono (by decide)
  have hr_alphabet : Room 3 _ := hr.mono (by decide)
  have hr_is_word : Room 1 _ := hr.mono (by decide)
  have hr_like : Room 4 _ := hr.mono (by decide)
  have hr_is_number : Room 1 _ := hr.mono (by decide)
  have hr_is_alphabet : Room 2 _ := hr.mono (by decide)
  exact (iss_cons (is_set (i := 1) sc_law.nd rfl (.inl rfl) (C_draws.call rfl hr_draws (ia_cons (ie_var 0) ia_nil)))
    (iss_cons (is_for PySem.PassesOwn.never rfl (ii_range1 (by rfl) T.n_range (ia_cons ie_int ia_nil)) (ig_name (i := 2) sc_law.nd rfl (.inl rfl)) (iss_cons (is_asg (ie_tup (ia_cons (C_alphabet.call rfl hr_alphabet (ia_cons (ie_var 1) (ia_cons ie_int ia_nil))) (ia_cons (ie_op op_sub sim_sub (C_pull.call rfl hr_pull (ia_cons (ie_var 1) (ia_cons ie_int ia_nil))) ie_int) ia_nil))) (ig_tup rfl (igs_cons (ig_name (i := 3) sc_law.nd rfl (.inr rfl)) (igs_cons (ig_name (i := 4) sc_law.nd rfl (.inl rfl)) igs_nil))))
    (iss_cons (is_set (i := 5) sc_law.nd rfl (.inl rfl) (ie_op op_adds sim_add (ie_var 4) (C_pull.call rfl hr_pull (ia_cons (ie_var 1) (ia_cons ie_int ia_nil)))))
    (iss_cons (is_for PySem.PassesOwn.never rfl (ii_range2 (by rfl) T.n_range (ia_cons (ie_op op_sub sim_sub (ie_var 4) ie_int) (ia_cons (ie_op op_adds sim_add (ie_var 5) ie_int) ia_nil))) (ig_name (i := 6) sc_law.nd rfl (.inl rfl)) (iss_one (is_if (it_not (it_b (C_like.call rfl hr_like (ia_cons (C_is_number.call rfl hr_is_number (ia_cons (ie_var 6) (ia_cons (ie_var 4) (ia_cons (ie_var 5) ia_nil)))) (ia_cons (ie_chain op_le op_le sim_le sim_le (ie_var 4) (ie_var 6) (ie_var 5)) ia_nil))))) (iss_one (is_ret ie_bl)) iss_nil)))
    (iss_cons (is_if (it_cmp (op_neD hr.units) sim_ne (ie_lc [("_law_x", 7)] rfl sc_law.nd (ii_list (ie_lst (ia_cons ie_bl (ia_cons ie_bl (ia_cons ie_non (ia_cons ie_str (ia_cons (ie_tup (ia_cons ie_int ia_nil)) (ia_cons (ie_lst (ia_cons ie_int ia_nil)) ia_nil)))))))) (by kernel_rfl) (fun _ _ _ _ _ => (igw_name (i := 7) sc_law.nd rfl (by first | exact .inl rfl | exact .inr rfl) (by simp))) (fun _ _ _ _ _ => its_nil) (fun _ _ _ _ _ => (C_is_number.call rfl hr_is_number (ia_cons (ie_var 7) (ia_cons (ie_op op_sub sim_sub ie_int ie_int) (ia_cons ie_int ia_nil)))))) (ie_op op_muls sim_mul (ie_lst (ia_cons ie_bl ia_nil)) ie_int) (nomark _)) (iss_one (is_ret ie_bl)) iss_nil)
    (iss_cons (is_set (i := 8) sc_law.nd rfl (.inl rfl) (C_pull.call rfl hr_pull (ia_cons (ie_var 1) (ia_cons ie_int ia_nil))))
    (iss_cons (is_set (i := 9) sc_law.nd rfl (.inl rfl) (C_word.call rfl hr_word (ia_cons (ie_var 1) (ia_cons (ie_var 3) (ia_cons (ie_var 8) (ia_cons (ie_var 8) ia_nil))))))
    (iss_cons (is_set (i := 10) sc_law.nd rfl (.inl rfl) (C_any.call rfl hr_any (ia_cons (ie_var 1) (ia_cons (ie_lst (ia_cons ie_str (ia_cons ie_str (ia_cons ie_str (ia_cons ie_str (ia_cons ie_str (ia_cons ie_str ia_nil))))))) ia_nil))))
    (iss_cons (is_set (i := 11) sc_law.nd rfl (.inl rfl) (C_pull.call rfl hr_pull (ia_cons (ie_var 1) (ia_cons (ie_op op_adds sim_add (ie_var 8) ie_int) ia_nil))))
    (iss_cons (is_set (i := 12) sc_law.nd rfl (.inl rfl) (ie_lst (ia_cons (C_is_word.dfl df_is_word_1 rfl hr_is_word (ia_cons (ie_var 9) ia_nil)) (ia_cons (C_is_word.call rfl hr_is_word (ia_cons (ie_var 9) (ia_cons (ie_var 8) ia_nil))) (ia_cons (C_is_word.kw kb_is_word_most_value rfl rfl kd_is_word_most_value hr_is_word (ik_cons (ie_op op_adds sim_add (ie_var 8) ie_int) (ik_cons (ie_var 9) ik_nil))) (ia_cons (C_is_word.call rfl hr_is_word (ia_cons (ie_op op_adds sim_add (ie_var 9) ie_str) (ia_cons (ie_var 8) ia_nil))) (ia_cons (C_is_word.dfl df_is_word_1 rfl hr_is_word (ia_cons (ie_op op_adds sim_add (ie_op op_adds sim_add (ie_sl (ie_var 9) io_none (io_some (ie_var 11))) (ie_var 10)) (ie_sl (ie_var 9) (io_some (ie_var 11)) io_none)) ia_nil)) (ia_cons (C_is_word.dfl df_is_word_1 rfl hr_is_word (ia_cons (ie_op op_mulS sim_mulS ie_str ie_int) ia_nil)) (ia_cons (C_is_word.dfl df_is_word_1 rfl hr_is_word (ia_cons (ie_op op_mulS sim_mulS ie_str ie_int) ia_nil)) (ia_cons (C_is_word.dfl df_is_word_1 rfl hr_is_word (ia_cons ie_str ia_nil)) ia_nil))))))))))
    (iss_cons (is_if (it_not (it_b (C_like.call rfl hr_like (ia_cons (ie_var 12) (ia_cons (ie_lst (ia_cons ie_bl (ia_cons ie_bl (ia_cons ie_bl (ia_cons ie_bl (ia_cons ie_bl (ia_cons ie_bl (ia_cons ie_bl (ia_cons ie_bl ia_nil))))))))) ia_nil))))) (iss_one (is_ret ie_bl)) iss_nil)
    (iss_cons (is_if (IW.it (iw_or (it_cmp (op_neD hr.units) sim_ne (ie_lc [("_law_x", 7)] rfl sc_law.nd (ii_list (ie_lst (ia_cons ie_non (ia_cons ie_bl (ia_cons ie_int (ia_cons (ie_tup (ia_cons ie_str ia_nil)) (ia_cons (ie_lst (ia_cons ie_str ia_nil)) ia_nil))))))) (by kernel_rfl) (fun _ _ _ _ _ => (igw_name (i := 7) sc_law.nd rfl (by first | exact .inl rfl | exact .inr rfl) (by simp))) (fun _ _ _ _ _ => its_nil) (fun _ _ _ _ _ => (C_is_word.dfl df_is_word_1 rfl hr_is_word (ia_cons (ie_var 7) ia_nil)))) (ie_op op_muls sim_mul (ie_lst (ia_cons ie_bl ia_nil)) ie_int) (nomark _)) (iw_or1 (it_cmp (op_neD hr.units) sim_ne (ie_lc [("_law_x", 7)] rfl sc_law.nd (ii_list (ie_lst (ia_cons ie_non (ia_cons ie_bl (ia_cons ie_str (ia_cons ie_str (ia_cons (ie_tup (ia_cons ie_str ia_nil)) (ia_cons (ie_lst (ia_cons ie_str ia_nil)) (ia_cons ie_str (ia_cons ie_str (ia_cons ie_str ia_nil))))))))))) (by kernel_rfl) (fun _ _ _ _ _ => (igw_name (i := 7) sc_law.nd rfl (by first | exact .inl rfl | exact .inr rfl) (by simp))) (fun _ _ _ _ _ => its_nil) (fun _ _ _ _ _ => (C_is_alphabet.call rfl hr_is_alphabet (ia_cons (ie_var 7) ia_nil)))) (ie_op op_muls sim_mul (ie_lst (ia_cons ie_bl ia_nil)) ie_int) (nomark _))))) (iss_one (is_ret ie_bl)) iss_nil)
    (iss_cons (is_if (it_not (it_b (C_like.call rfl hr_like (ia_cons (ie_lst (ia_cons (C_is_alphabet.call rfl hr_is_alphabet (ia_cons (ie_var 3) ia_nil)) (ia_cons (C_is_alphabet.call rfl hr_is_alphabet (ia_cons (ie_revS (ie_var 3)) ia_nil)) (ia_cons (C_is_alphabet.call rfl hr_is_alphabet (ia_cons (ie_op op_adds sim_add (ie_ix ix_seq sim_ix (ie_var 3) ie_int (fun _ _ => rfl)) (ie_var 3)) ia_nil)) ia_nil)))) (ia_cons (ie_lst (ia_cons ie_bl (ia_cons (ie_cmp (op_eqD hr.units) sim_eq (ie_callB call_len sim_len (by rfl) T.n_len (by decide +kernel) (ia_cons (ie_var 3) ia_nil)) ie_int (nomark _)) (ia_cons ie_bl ia_nil)))) ia_nil))))) (iss_one (is_ret ie_bl)) iss_nil)
    (iss_cons (is_set (i := 13) sc_law.nd rfl (.inl rfl) (C_pull.call rfl hr_pull (ia_cons (ie_var 1) (ia_cons ie_int ia_nil))))
    (iss_cons (is_set (i := 14) sc_law.nd rfl (.inl rfl) (C_words_of.call rfl hr_words_of (ia_cons (ie_var 3) (ia_cons (ie_var 13) ia_nil))))
    (iss_cons (is_set (i := 15) sc_law.nd rfl (.inl rfl) (ie_callB call_len sim_len (by rfl) T.n_len (by decide +kernel) (ia_cons (ie_var 3) ia_nil)))
    (iss_cons (is_set (i := 16) sc_law.nd rfl (.inl rfl) (ie_lst (ia_cons ie_int (ia_cons (ie_op op_adds sim_add ie_int (ie_var 15)) (ia_cons (ie_op op_adds sim_add (ie_op op_adds sim_add ie_int (ie_var 15)) (ie_op op_muls sim_mul (ie_var 15) (ie_var 15))) (ia_cons (ie_op op_adds sim_add (ie_op op_adds sim_add (ie_op op_adds sim_add ie_int (ie_var 15)) (ie_op op_muls sim_mul (ie_var 15) (ie_var 15))) (ie_op op_muls sim_mul (ie_op op_muls sim_mul (ie_var 15) (ie_var 15)) (ie_var 15))) ia_nil))))))
    (iss_cons (is_if (IW.it (iw_or (it_not (it_b (ie_callB call_isi sim_isi (by rfl) T.n_isinstance (by decide +kernel) (ia_cons (ie_var 14) (ia_cons (ie_gty (by rfl) T.n_list (by decide +kernel)) ia_nil))))) (iw_or (it_cmp (op_neD hr.units) sim_ne (ie_callB call_len sim_len (by rfl) T.n_len (by decide +kernel) (ia_cons (ie_var 14) ia_nil)) (ie_ix ix_seq sim_ix (ie_var 16) (ie_var 13) (fun _ _ => rfl)) (nomark _)) (iw_or1 (it_cmp (op_neD hr.units) sim_ne (ie_ix ix_seq sim_ix (ie_var 14) ie_int (fun _ _ => rfl)) ie_str (nomark _)))))) (iss_one (is_ret ie_bl)) iss_nil)
    (iss_cons (is_setLcC (i := 17) [("_law_one", 18)] rfl sc_law.nd rfl rfl rfl rfl (by decide +kernel) (ie_var 14) (by kernel_rfl) (fun _ _ _ _ _ => (igw_name (i := 18) sc_law.nd rfl (by first | exact .inl rfl | exact .inr rfl) (by simp))) (fun _ _ _ _ _ => its_nil) (fun _ _ _ _ _ => (ie_tup (ia_cons (ie_callB call_len sim_len (by rfl) T.n_len (by decide +kernel) (ia_cons (ie_var 18) ia_nil)) (ia_cons (ie_var 18) ia_nil)))))
    (iss_cons (is_if (IW.it (iw_or (it_cmp (op_neD hr.units) sim_ne (ie_var 17) (ie_callB (call_sorted hr.units) sim_sorted (by rfl) T.n_sorted (by decide +kernel) (ia_cons (ie_var 17) ia_nil)) (nomark _)) (iw_or (it_cmp (op_neD hr.units) sim_ne (ie_lenSet T.n_len T.n_set (ie_var 14)) (ie_callB call_len sim_len (by rfl) T.n_len (by decide +kernel) (ia_cons (ie_var 14) ia_nil)) (nomark _)) (iw_or1 (it_not (it_b (ie_callB (cr_all rfl) sim_all (by rfl) T.n_all (by decide +kernel) (ia_cons (ie_lcC [("_law_one", 18)] rfl sc_law.nd (ie_var 14) (by kernel_rfl) (fun _ _ _ _ _ => (igw_name (i := 18) sc_law.nd rfl (by first | exact .inl rfl | exact .inr rfl) (by simp))) (fun _ _ _ _ _ => its_nil) (fun _ _ _ _ _ => (ie_and (ie_callB call_isi sim_isi (by rfl) T.n_isinstance (by decide +kernel) (ia_cons (ie_var 18) (ia_cons (ie_gty (by rfl) T.n_str (by decide +kernel)) ia_nil))) (ie_one (ie_callB (cr_all rfl) sim_all (by rfl) T.n_all (by decide +kernel) (ia_cons (ie_lc [("_law_letter", 19)] rfl sc_law.nd (ii_str (ie_var 18)) (by kernel_rfl) (fun _ _ _ _ _ => (igw_name (i := 19) sc_law.nd rfl (by first | exact .inl rfl | exact .inr rfl) (by simp))) (fun _ _ _ _ _ => its_nil) (fun _ _ _ _ _ => (ie_cmp op_in_sign sim_inS (ie_var 19) (ie_var 3) (by rfl)))) ia_nil)))))) ia_nil)))))))) (iss_one (is_ret ie_bl)) iss_nil)
    (iss_cons (is_if (it_cmp (op_neD hr.units) sim_ne (ie_callB (cr_max rfl) sim_maxL (by rfl) T.n_max (by decide +kernel) (ia_cons (ie_lcC [("_law_one", 18)] rfl sc_law.nd (ie_var 14) (by kernel_rfl) (fun _ _ _ _ _ => (igw_name (i := 18) sc_law.nd rfl (by first | exact .inl rfl | exact .inr rfl) (by simp))) (fun _ _ _ _ _ => its_nil) (fun _ _ _ _ _ => (ie_callB call_len sim_len (by rfl) T.n_len (by decide +kernel) (ia_cons (ie_var 18) ia_nil)))) ia_nil)) (ie_var 13) (nomark _)) (iss_one (is_ret ie_bl)) iss_nil)
    (iss_cons (is_expr (ie_ml PySem.F.plainAttrs_list PySem.F.slot_list_append PySem.F.type_list_append mt_append sim_app (ie_var 14) (ia_cons ie_str ia_nil)))
    (iss_one (is_if (it_cmp (op_neD hr.units) sim_ne (ie_callB call_len sim_len (by rfl) T.n_len (by decide +kernel) (ia_cons (C_words_of.kw kb_words_of_most_alphabet rfl rfl kd_words_of_most_alphabet hr_words_of (ik_cons (ie_var 13) (ik_cons (ie_var 3) ik_nil))) ia_nil)) (ie_op op_sub sim_sub (ie_callB call_len sim_len (by rfl) T.n_len (by decide +kernel) (ia_cons (ie_var 14) ia_nil)) ie_int) (nomark _)) (iss_one (is_ret ie_bl)) iss_nil))))))))))))))))))))))))
    (iss_one (is_ret ie_bl))))
end
end K02
end

set_option linter.all false
set_option maxRecDepth 100000
set_option maxHeartbeats 4000000
noncomputable section
namespace K02
open PySem L2 Evl T
/-! ### the defs as functions -/
def F_draws : List D → Cs → R D := callB 3 (b_draws )
def F_pull : List D → Cs → R D := callB 5 (b_pull )
def F_any : List D → Cs → R D := callB 2 (b_any F_pull)
def F_word : List D → Cs → R D := callB 5 (b_word F_any F_pull)
def F_words_of : List D → Cs → R D := callB 7 (b_words_of )
def F_alphabet : List D → Cs → R D := callB 7 (b_alphabet F_pull F_any)
def F_is_word : List D → Cs → R D := callB 2 (b_is_word )
def F_like : Nat → List D → Cs → R D
  | 0 => fun _ _ => .bad
  | n + 1 => callB 5 (b_like (F_like n))
def F_is_number : List D → Cs → R D := callB 3 (b_is_number )
def F_is_alphabet : List D → Cs → R D := callB 1 (b_is_alphabet F_is_word)
def F_law : List D → Cs → R D := callB 20 (b_law F_draws F_pull F_word F_any F_words_of F_alphabet F_is_word (F_like 3) F_is_number F_is_alphabet)
set_option maxHeartbeats 8000000 in
theorem all_mk {l : PySem.W.OpenLaw} {w : World} {K : PySem.W.Frag} {h : Heap} {mg : Str → Option Value} {fa : Addr} (X : K.In h) (G : h.Ns mainGlobals mg) (hfa : mg "law" = some (.ref fa))
    {f0 f1 f2 f3 f4 f5 f6 T6 f7 f8 f9 f10 : Addr} {od0 od1 od2 od3 od4 od5 od6 od7 od8 od9 od10 an0 an1 an2 an3 an4 an5 an6 an7 an8 an9 an10 : Option Addr} {sl0 sl1 sl2 sl3 sl4 sl5 sl6 sl7 sl8 sl9 sl10 : Array (Option Value)} {oc0 oc1 oc2 oc3 oc4 oc5 oc6 oc7 oc8 oc9 oc10 kV0 kV1 kV2 kV3 kV4 kV5 kV6 kV7 kV8 kV9 kV10 dc0 dc1 dc2 dc3 dc4 dc5 dc6 dc7 dc8 dc9 dc10 pm0 pm1 pm2 pm3 pm4 pm5 pm6 pm7 pm8 pm9 pm10 cd0 cd1 cd2 cd3 cd4 cd5 cd6 cd7 cd8 cd9 cd10 ct0 ct1 ct2 ct3 ct4 ct5 ct6 ct7 ct8 ct9 ct10 : Value} {cT6 : Value} {dT6 : Option Addr} {nT6 : Nat} {sT6 : Array (Option Value)} {tk6_0 : Tok} {tc_LETTERS tc_LONGEST_WORD : Tok}
    (a0 : PySem.W.nsIn K mainGlobals "_law_draws" = some (some (.ref f0))) (l0 : K.lookup f0 = some ⟨oc0, od0, .func (PySem.W.fnOf "_law_draws" "_law_draws" (defArgs s_draws) (defBody s_draws) (defScope s_draws) .none kV0 dc0 pm0 an0 cd0 ct0), sl0⟩) (c0 : PySem.W.codeIn K cd0 "_law_draws" = true) (k0 : PySem.W.keepIn K (.ref f0) = true)
    (a1 : PySem.W.nsIn K mainGlobals "_law_pull" = some (some (.ref f1))) (l1 : K.lookup f1 = some ⟨oc1, od1, .func (PySem.W.fnOf "_law_pull" "_law_pull" (defArgs s_pull) (defBody s_pull) (defScope s_pull) .none kV1 dc1 pm1 an1 cd1 ct1), sl1⟩) (c1 : PySem.W.codeIn K cd1 "_law_pull" = true) (k1 : PySem.W.keepIn K (.ref f1) = true)
    (a2 : PySem.W.nsIn K mainGlobals "_law_any" = some (some (.ref f2))) (l2 : K.lookup f2 = some ⟨oc2, od2, .func (PySem.W.fnOf "_law_any" "_law_any" (defArgs s_any) (defBody s_any) (defScope s_any) .none kV2 dc2 pm2 an2 cd2 ct2), sl2⟩) (c2 : PySem.W.codeIn K cd2 "_law_any" = true) (k2 : PySem.W.keepIn K (.ref f2) = true)
    (a3 : PySem.W.nsIn K mainGlobals "_law_word" = some (some (.ref f3))) (l3 : K.lookup f3 = some ⟨oc3, od3, .func (PySem.W.fnOf "_law_word" "_law_word" (defArgs s_word) (defBody s_word) (defScope s_word) .none kV3 dc3 pm3 an3 cd3 ct3), sl3⟩) (c3 : PySem.W.codeIn K cd3 "_law_word" = true) (k3 : PySem.W.keepIn K (.ref f3) = true)
    (a4 : PySem.W.nsIn K mainGlobals "words_of" = some (some (.ref f4))) (l4 : K.lookup f4 = some ⟨oc4, od4, .func (PySem.W.fnOf "words_of" "words_of" (defArgs s_words_of) (defBody s_words_of) (defScope s_words_of) .none kV4 dc4 pm4 an4 cd4 ct4), sl4⟩) (c4 : PySem.W.codeIn K cd4 "words_of" = true) (k4 : PySem.W.keepIn K (.ref f4) = true)
    (a5 : PySem.W.nsIn K mainGlobals "_law_alphabet" = some (some (.ref f5))) (l5 : K.lookup f5 = some ⟨oc5, od5, .func (PySem.W.fnOf "_law_alphabet" "_law_alphabet" (defArgs s_alphabet) (defBody s_alphabet) (defScope s_alphabet) .none kV5 dc5 pm5 an5 cd5 ct5), sl5⟩) (c5 : PySem.W.codeIn K cd5 "_law_alphabet" = true) (k5 : PySem.W.keepIn K (.ref f5) = true)
    (a6 : PySem.W.nsIn K mainGlobals "is_word" = some (some (.ref f6))) (l6 : K.lookup f6 = some ⟨oc6, od6, .func (PySem.W.fnOf "is_word" "is_word" (defArgs s_is_word) (defBody s_is_word) (defScope s_is_word) (.ref T6) kV6 dc6 pm6 an6 cd6 ct6), sl6⟩) (c6 : PySem.W.codeIn K cd6 "is_word" = true) (k6 : PySem.W.keepIn K (.ref f6) = true)
    (t6 : K.lookup T6 = some ⟨cT6, dT6, .seq #[.int 200 tk6_0] nT6, sT6⟩)
    (a7 : PySem.W.nsIn K mainGlobals "_law_like" = some (some (.ref f7))) (l7 : K.lookup f7 = some ⟨oc7, od7, .func (PySem.W.fnOf "_law_like" "_law_like" (defArgs s_like) (defBody s_like) (defScope s_like) .none kV7 dc7 pm7 an7 cd7 ct7), sl7⟩) (c7 : PySem.W.codeIn K cd7 "_law_like" = true) (k7 : PySem.W.keepIn K (.ref f7) = true)
    (a8 : PySem.W.nsIn K mainGlobals "is_number" = some (some (.ref f8))) (l8 : K.lookup f8 = some ⟨oc8, od8, .func (PySem.W.fnOf "is_number" "is_number" (defArgs s_is_number) (defBody s_is_number) (defScope s_is_number) .none kV8 dc8 pm8 an8 cd8 ct8), sl8⟩) (c8 : PySem.W.codeIn K cd8 "is_number" = true) (k8 : PySem.W.keepIn K (.ref f8) = true)
    (a9 : PySem.W.nsIn K mainGlobals "is_alphabet" = some (some (.ref f9))) (l9 : K.lookup f9 = some ⟨oc9, od9, .func (PySem.W.fnOf "is_alphabet" "is_alphabet" (defArgs s_is_alphabet) (defBody s_is_alphabet) (defScope s_is_alphabet) .none kV9 dc9 pm9 an9 cd9 ct9), sl9⟩) (c9 : PySem.W.codeIn K cd9 "is_alphabet" = true) (k9 : PySem.W.keepIn K (.ref f9) = true)
    (a10 : PySem.W.nsIn K mainGlobals "law" = some (some (.ref f10))) (l10 : K.lookup f10 = some ⟨oc10, od10, .func (PySem.W.fnOf "law" "law" (defArgs s_law) (defBody s_law) (defScope s_law) .none kV10 dc10 pm10 an10 cd10 ct10), sl10⟩) (c10 : PySem.W.codeIn K cd10 "law" = true) (k10 : PySem.W.keepIn K (.ref f10) = true)
    (z_all : PySem.W.nsIn K mainGlobals "all" = some none)
    (z_bool : PySem.W.nsIn K mainGlobals "bool" = some none)
    (z_int : PySem.W.nsIn K mainGlobals "int" = some none)
    (z_isinstance : PySem.W.nsIn K mainGlobals "isinstance" = some none)
    (z_len : PySem.W.nsIn K mainGlobals "len" = some none)
    (z_list : PySem.W.nsIn K mainGlobals "list" = some none)
    (z_max : PySem.W.nsIn K mainGlobals "max" = some none)
    (z_min : PySem.W.nsIn K mainGlobals "min" = some none)
    (z_range : PySem.W.nsIn K mainGlobals "range" = some none)
    (z_set : PySem.W.nsIn K mainGlobals "set" = some none)
    (z_sorted : PySem.W.nsIn K mainGlobals "sorted" = some none)
    (z_str : PySem.W.nsIn K mainGlobals "str" = some none)
    (z_tuple : PySem.W.nsIn K mainGlobals "tuple" = some none)
    (z_zip : PySem.W.nsIn K mainGlobals "zip" = some none)
    (v_LETTERS : PySem.W.nsIn K mainGlobals "LETTERS" = some (some (.str "abcdefghijklmnopqrstuvwxyz" tc_LETTERS)))
    (v_LONGEST_WORD : PySem.W.nsIn K mainGlobals "LONGEST_WORD" = some (some (.int 200 tc_LONGEST_WORD))) :
    ∃ fd : FuncData, (∀ (s : Shared) (v : Value), BindsTo s fd ⟨[v], []⟩ [("_law_script", v)]) ∧ ∀ base : Heap, K.In base → base.Ns mainGlobals mg → FnOk l.prog w K mg base CX0 5 fa fd ["_law_script"] (spI K 1 F_law) := by
  have e := hfa.symm.trans (PySem.W.mg_of X G a10)
  cases e
  have T : Txt K mg := ⟨PySem.W.mg_none_of X G z_all, PySem.W.mg_none_of X G z_bool, PySem.W.mg_none_of X G z_int, PySem.W.mg_none_of X G z_isinstance, PySem.W.mg_none_of X G z_len, PySem.W.mg_none_of X G z_list, PySem.W.mg_none_of X G z_max, PySem.W.mg_none_of X G z_min, PySem.W.mg_none_of X G z_range, PySem.W.mg_none_of X G z_set, PySem.W.mg_none_of X G z_sorted, PySem.W.mg_none_of X G z_str, PySem.W.mg_none_of X G z_tuple, PySem.W.mg_none_of X G z_zip, ⟨_, PySem.W.mg_of X G v_LETTERS⟩, ⟨_, PySem.W.mg_of X G v_LONGEST_WORD⟩⟩
  have D0 : FunD K "_law_draws" "_law_draws" (defArgs s_draws) (defBody s_draws) (defScope s_draws) [] [] f0 (PySem.W.fnOf "_law_draws" "_law_draws" (defArgs s_draws) (defBody s_draws) (defScope s_draws) .none kV0 dc0 pm0 an0 cd0 ct0) := ⟨⟨oc0, od0, .none, kV0, dc0, pm0, an0, cd0, ct0, sl0, rfl, l0, c0, .inl ⟨rfl, rfl⟩, .inl rfl⟩, k0⟩
  have B0 := FunD.bindsN (ps := p_draws) D0 fun _ _ _ _ _ _ us hl => match us, hl with | [_], _ => rfl
  have D1 : FunD K "_law_pull" "_law_pull" (defArgs s_pull) (defBody s_pull) (defScope s_pull) [] [] f1 (PySem.W.fnOf "_law_pull" "_law_pull" (defArgs s_pull) (defBody s_pull) (defScope s_pull) .none kV1 dc1 pm1 an1 cd1 ct1) := ⟨⟨oc1, od1, .none, kV1, dc1, pm1, an1, cd1, ct1, sl1, rfl, l1, c1, .inl ⟨rfl, rfl⟩, .inl rfl⟩, k1⟩
  have B1 := FunD.bindsN (ps := p_pull) D1 fun _ _ _ _ _ _ us hl => match us, hl with | [_, _], _ => rfl
  have D2 : FunD K "_law_any" "_law_any" (defArgs s_any) (defBody s_any) (defScope s_any) [] [] f2 (PySem.W.fnOf "_law_any" "_law_any" (defArgs s_any) (defBody s_any) (defScope s_any) .none kV2 dc2 pm2 an2 cd2 ct2) := ⟨⟨oc2, od2, .none, kV2, dc2, pm2, an2, cd2, ct2, sl2, rfl, l2, c2, .inl ⟨rfl, rfl⟩, .inl rfl⟩, k2⟩
  have B2 := FunD.bindsN (ps := p_any) D2 fun _ _ _ _ _ _ us hl => match us, hl with | [_, _], _ => rfl
  have D3 : FunD K "_law_word" "_law_word" (defArgs s_word) (defBody s_word) (defScope s_word) [] [] f3 (PySem.W.fnOf "_law_word" "_law_word" (defArgs s_word) (defBody s_word) (defScope s_word) .none kV3 dc3 pm3 an3 cd3 ct3) := ⟨⟨oc3, od3, .none, kV3, dc3, pm3, an3, cd3, ct3, sl3, rfl, l3, c3, .inl ⟨rfl, rfl⟩, .inl rfl⟩, k3⟩
  have B3 := FunD.bindsN (ps := p_word) D3 fun _ _ _ _ _ _ us hl => match us, hl with | [_, _, _, _], _ => rfl
  have D4 : FunD K "words_of" "words_of" (defArgs s_words_of) (defBody s_words_of) (defScope s_words_of) [] [] f4 (PySem.W.fnOf "words_of" "words_of" (defArgs s_words_of) (defBody s_words_of) (defScope s_words_of) .none kV4 dc4 pm4 an4 cd4 ct4) := ⟨⟨oc4, od4, .none, kV4, dc4, pm4, an4, cd4, ct4, sl4, rfl, l4, c4, .inl ⟨rfl, rfl⟩, .inl rfl⟩, k4⟩
  have B4 := FunD.bindsN (ps := p_words_of) D4 fun _ _ _ _ _ _ us hl => match us, hl with | [_, _], _ => rfl
  have D5 : FunD K "_law_alphabet" "_law_alphabet" (defArgs s_alphabet) (defBody s_alphabet) (defScope s_alphabet) [] [] f5 (PySem.W.fnOf "_law_alphabet" "_law_alphabet" (defArgs s_alphabet) (defBody s_alphabet) (defScope s_alphabet) .none kV5 dc5 pm5 an5 cd5 ct5) := ⟨⟨oc5, od5, .none, kV5, dc5, pm5, an5, cd5, ct5, sl5, rfl, l5, c5, .inl ⟨rfl, rfl⟩, .inl rfl⟩, k5⟩
  have B5 := FunD.bindsN (ps := p_alphabet) D5 fun _ _ _ _ _ _ us hl => match us, hl with | [_, _], _ => rfl
  have D6 : FunD K "is_word" "is_word" (defArgs s_is_word) (defBody s_is_word) (defScope s_is_word) [.int 200] [] f6 (PySem.W.fnOf "is_word" "is_word" (defArgs s_is_word) (defBody s_is_word) (defScope s_is_word) (.ref T6) kV6 dc6 pm6 an6 cd6 ct6) := ⟨⟨oc6, od6, .ref T6, kV6, dc6, pm6, an6, cd6, ct6, sl6, rfl, l6, c6, .inr ⟨List.cons_ne_nil _ _, T6, _, [.int 200 tk6_0], nT6, rfl, t6, rfl, .cons ⟨_, rfl⟩ (.nil)⟩, .inl rfl⟩, k6⟩
  obtain ⟨ds6, hv6, B6'⟩ := FunD.binds1 (ps := p_is_word) D6 2 1 (List.cons_ne_nil _ _) rfl fun _ _ _ _ _ _ _ us its hl hi => match us, its, hl, hi with | [_, _], [_], _, _ => ⟨_, rfl, rfl⟩
  have B6 : Binds K (PySem.W.fnOf "is_word" "is_word" (defArgs s_is_word) (defBody s_is_word) (defScope s_is_word) (.ref T6) kV6 dc6 pm6 an6 cd6 ct6) p_is_word [] := by
    cases hv6
    exact B6'
  obtain ⟨dt6, hw6, E6⟩ := FunD.binds1 (ps := p_is_word) D6 1 0 (List.cons_ne_nil _ _) rfl fun _ _ _ _ _ _ _ us its hl hi => match us, its, hl, hi with | [_], [_], _, _ => ⟨_, rfl, rfl⟩
  have df_is_word_1 : DflB K (PySem.W.fnOf "is_word" "is_word" (defArgs s_is_word) (defBody s_is_word) (defScope s_is_word) (.ref T6) kV6 dc6 pm6 an6 cd6 ct6) p_is_word [D.int 200] := ⟨[.int 200], dt6, hw6, E6, fun _ _ => ⟨_, _, rfl, rfl, rfl⟩⟩
  have D7 : FunD K "_law_like" "_law_like" (defArgs s_like) (defBody s_like) (defScope s_like) [] [] f7 (PySem.W.fnOf "_law_like" "_law_like" (defArgs s_like) (defBody s_like) (defScope s_like) .none kV7 dc7 pm7 an7 cd7 ct7) := ⟨⟨oc7, od7, .none, kV7, dc7, pm7, an7, cd7, ct7, sl7, rfl, l7, c7, .inl ⟨rfl, rfl⟩, .inl rfl⟩, k7⟩
  have B7 := FunD.bindsN (ps := p_like) D7 fun _ _ _ _ _ _ us hl => match us, hl with | [_, _], _ => rfl
  have D8 : FunD K "is_number" "is_number" (defArgs s_is_number) (defBody s_is_number) (defScope s_is_number) [] [] f8 (PySem.W.fnOf "is_number" "is_number" (defArgs s_is_number) (defBody s_is_number) (defScope s_is_number) .none kV8 dc8 pm8 an8 cd8 ct8) := ⟨⟨oc8, od8, .none, kV8, dc8, pm8, an8, cd8, ct8, sl8, rfl, l8, c8, .inl ⟨rfl, rfl⟩, .inl rfl⟩, k8⟩
  have B8 := FunD.bindsN (ps := p_is_number) D8 fun _ _ _ _ _ _ us hl => match us, hl with | [_, _, _], _ => rfl
  have D9 : FunD K "is_alphabet" "is_alphabet" (defArgs s_is_alphabet) (defBody s_is_alphabet) (defScope s_is_alphabet) [] [] f9 (PySem.W.fnOf "is_alphabet" "is_alphabet" (defArgs s_is_alphabet) (defBody s_is_alphabet) (defScope s_is_alphabet) .none kV9 dc9 pm9 an9 cd9 ct9) := ⟨⟨oc9, od9, .none, kV9, dc9, pm9, an9, cd9, ct9, sl9, rfl, l9, c9, .inl ⟨rfl, rfl⟩, .inl rfl⟩, k9⟩
  have B9 := FunD.bindsN (ps := p_is_alphabet) D9 fun _ _ _ _ _ _ us hl => match us, hl with | [_], _ => rfl
  have D10 : FunD K "law" "law" (defArgs s_law) (defBody s_law) (defScope s_law) [] [] fa (PySem.W.fnOf "law" "law" (defArgs s_law) (defBody s_law) (defScope s_law) .none kV10 dc10 pm10 an10 cd10 ct10) := ⟨⟨oc10, od10, .none, kV10, dc10, pm10, an10, cd10, ct10, sl10, rfl, l10, c10, .inl ⟨rfl, rfl⟩, .inl rfl⟩, k10⟩
  have B10 := FunD.bindsN (ps := p_law) D10 fun _ _ _ _ _ _ us hl => match us, hl with | [_], _ => rfl
  have kb_is_word_most_value := kbn_def (ps := p_is_word) D6 (List.cons_ne_nil _ _) 0 ["most", "value"] g_is_word_most_value gV_is_word_most_value (fun _ rz => .cons (Vals.getD 1 rz) (.cons (Vals.getD 0 rz) (.nil))) fun _ _ _ _ _ _ _ us its ws hl hi hw => match us, its, ws, hl, hi, hw with | [], [_], [_, _], _, _, _ => ⟨_, rfl, rfl⟩
  have kb_words_of_most_alphabet := kbn_nod (ps := p_words_of) D4 0 ["most", "alphabet"] g_words_of_most_alphabet gV_words_of_most_alphabet (fun _ rz => .cons (Vals.getD 1 rz) (.cons (Vals.getD 0 rz) (.nil))) fun _ _ _ _ _ _ us ws hl hw => match us, ws, hl, hw with | [], [_, _], _, _ => rfl
  refine ⟨_, fun s v => FunD.bindsA (ps := p_law) D10 (fun _ _ _ _ _ _ us hl => match us, hl with | [_], _ => rfl) s [v] rfl, fun base _ _ => ?_⟩
  have C_draws : Callee l.prog w K mg base "_law_draws" p_draws 1 F_draws f0 (PySem.W.fnOf "_law_draws" "_law_draws" (defArgs s_draws) (defBody s_draws) (defScope s_draws) .none kV0 dc0 pm0 an0 cd0 ct0) := ⟨fn_B D0 sc_draws rfl (bd_draws T), PySem.W.mg_of X G a0, k0, B0⟩
  have C_pull : Callee l.prog w K mg base "_law_pull" p_pull 1 F_pull f1 (PySem.W.fnOf "_law_pull" "_law_pull" (defArgs s_pull) (defBody s_pull) (defScope s_pull) .none kV1 dc1 pm1 an1 cd1 ct1) := ⟨fn_B D1 sc_pull rfl (bd_pull T), PySem.W.mg_of X G a1, k1, B1⟩
  have C_any : Callee l.prog w K mg base "_law_any" p_any 2 F_any f2 (PySem.W.fnOf "_law_any" "_law_any" (defArgs s_any) (defBody s_any) (defScope s_any) .none kV2 dc2 pm2 an2 cd2 ct2) := ⟨fn_B D2 sc_any rfl (bd_any T C_pull), PySem.W.mg_of X G a2, k2, B2⟩
  have C_word : Callee l.prog w K mg base "_law_word" p_word 3 F_word f3 (PySem.W.fnOf "_law_word" "_law_word" (defArgs s_word) (defBody s_word) (defScope s_word) .none kV3 dc3 pm3 an3 cd3 ct3) := ⟨fn_B D3 sc_word rfl (bd_word T C_any C_pull), PySem.W.mg_of X G a3, k3, B3⟩
  have C_words_of : Callee l.prog w K mg base "words_of" p_words_of 1 F_words_of f4 (PySem.W.fnOf "words_of" "words_of" (defArgs s_words_of) (defBody s_words_of) (defScope s_words_of) .none kV4 dc4 pm4 an4 cd4 ct4) := ⟨fn_B D4 sc_words_of rfl (bd_words_of T), PySem.W.mg_of X G a4, k4, B4⟩
  have C_alphabet : Callee l.prog w K mg base "_law_alphabet" p_alphabet 3 F_alphabet f5 (PySem.W.fnOf "_law_alphabet" "_law_alphabet" (defArgs s_alphabet) (defBody s_alphabet) (defScope s_alphabet) .none kV5 dc5 pm5 an5 cd5 ct5) := ⟨fn_B D5 sc_alphabet rfl (bd_alphabet T C_pull C_any), PySem.W.mg_of X G a5, k5, B5⟩
  have C_is_word : Callee l.prog w K mg base "is_word" p_is_word 1 F_is_word f6 (PySem.W.fnOf "is_word" "is_word" (defArgs s_is_word) (defBody s_is_word) (defScope s_is_word) (.ref T6) kV6 dc6 pm6 an6 cd6 ct6) := ⟨fn_B D6 sc_is_word rfl (bd_is_word T), PySem.W.mg_of X G a6, k6, B6⟩
  have C_like : ∀ n, Callee l.prog w K mg base "_law_like" p_like (1 + n) (F_like n) f7 (PySem.W.fnOf "_law_like" "_law_like" (defArgs s_like) (defBody s_like) (defScope s_like) .none kV7 dc7 pm7 an7 cd7 ct7) := by
    intro n
    induction n with
    | zero => exact ⟨fn_bad rfl, PySem.W.mg_of X G a7, k7, B7⟩
    | succ n ih => exact ⟨fn_B D7 sc_like rfl (bd_like T ih), PySem.W.mg_of X G a7, k7, B7⟩
  have C_like := C_like 3
  have C_is_number : Callee l.prog w K mg base "is_number" p_is_number 1 F_is_number f8 (PySem.W.fnOf "is_number" "is_number" (defArgs s_is_number) (defBody s_is_number) (defScope s_is_number) .none kV8 dc8 pm8 an8 cd8 ct8) := ⟨fn_B D8 sc_is_number rfl (bd_is_number T), PySem.W.mg_of X G a8, k8, B8⟩
  have C_is_alphabet : Callee l.prog w K mg base "is_alphabet" p_is_alphabet 2 F_is_alphabet f9 (PySem.W.fnOf "is_alphabet" "is_alphabet" (defArgs s_is_alphabet) (defBody s_is_alphabet) (defScope s_is_alphabet) .none kV9 dc9 pm9 an9 cd9 ct9) := ⟨fn_B D9 sc_is_alphabet rfl (bd_is_alphabet T C_is_word), PySem.W.mg_of X G a9, k9, B9⟩
  exact fn_B D10 sc_law rfl (bd_law T C_draws C_pull C_word C_any C_words_of C_alphabet C_is_word C_like C_is_number C_is_alphabet kb_is_word_most_value kb_words_of_most_alphabet df_is_word_1)
/-- law's: a list of at most 63 ints is handed in, True comes out -/
def spLaw (K : PySem.W.Frag) : Sp := fun vs H Q _ => ∃ (a : Addr) (ns : List Int), vs = [.ref a] ∧ SqL K H a (ns.map V.int) ∧ ns.length ≤ 63 ∧ ∀ H', Q (.bl true) H'
theorem law_le (ok : ∀ ns : List Int, ns.length ≤ 63 → ∃ c, F_law [.sl (ns.map D.int)] [] = .ok (.bl true) c) {K : PySem.W.Frag} : ∀ vs H Q E, spLaw K vs H Q E → spI K 1 F_law vs H Q E := by
  intro vs H Q E ⟨a, ns, hv, hs, hl, k⟩
  subst hv
  obtain ⟨c, hc⟩ := ok ns hl
  refine ⟨rfl, H, [], [], [.sl (ns.map D.int)], ⟨Ex.refl H, rfl, List.nodup_nil, fun a h => by simp at h, fun i a o h => by simp at h⟩, ⟨_, [], rfl, ⟨a, _, rfl, hs, Reps.of_ints ns⟩, rfl⟩, ?_⟩
  rw [hc]
  intro B' γ' H' _ _ v rv
  rw [show v = V.bl true from rv]
  exact k H'
theorem walk (ok : ∀ ns : List Int, ns.length ≤ 63 → ∃ c, F_law [.sl (ns.map D.int)] [] = .ok (.bl true) c) {l : PySem.W.OpenLaw} {q : Program} {loose : List Str} {XP : (Str → Option Value) → Heap → Prop} {YP : World → Heap → Prop} {d : DefRec} {K : Params → PySem.W.Frag} (hn : l.most = some 63) (hdf : d.params.defaults = [])
    (hY : ∀ (w : World) (h : Heap), YP w h → (K w.params).In h)
    (F : ∀ (w : World) (mg : Str → Option Value) (fa : Addr) (h : Heap), (K w.params).In h → h.Ns mainGlobals mg → mg d.name = some (.ref fa) →
      ∃ fd : FuncData, (∀ (s : Shared) (u : Value), BindsTo s fd ⟨[u], []⟩ [("_law_script", u)]) ∧ ∀ base : Heap, (K w.params).In base → base.Ns mainGlobals mg → FnOk l.prog w (K w.params) mg base CX0 5 fa fd ["_law_script"] (spI (K w.params) 1 F_law)) :
    PySem.W.WalkO q loose XP YP l.row.toRowW d [] (fun f vs => PySem.call f vs) :=
  L2.walk_of (n := 63) (k := 5) (x := "_law_script") (CX := fun _ => CX0) (sp := fun w => spLaw (K w.params)) hn (by decide) hdf ⟨rfl, by decide, by decide⟩ hY (fun w mg fa h h1 h2 h3 => by
    obtain ⟨fd, b, g⟩ := F w mg fa h h1 h2 h3
    exact ⟨fd, b, fun base i1 i2 => (g base i1 i2).imp (law_le ok)⟩) (fun _ _ a ns hl _ hS => ⟨a, ns, rfl, hS, hl, fun _ => rfl⟩) fun _ _ _ _ _ z => z
end K02
end

set_option linter.all false
set_option maxRecDepth 100000
set_option maxHeartbeats 4000000
namespace K02
open PySem L2 Evl T
/-- the bag of draws -/
def bag (r : Cs) (ns : List Int) (i d s t : Int) : Cs := .lst [.lst (ns.map D.int), .int i, .int d, .int s, .int t] :: r
def BagOk (r : Cs) (c : Cs) : Prop := ∃ ns i d s t, c = bag r ns i d s t ∧ 0 ≤ i ∧ 0 ≤ d ∧ 0 ≤ s ∧ s < 2147483549
section
variable {r : Cs} {ns : List Int} {i d s t : Int} {σ : Sd}
theorem ix_bag (h0 : σ[0]? = some (some (.cell 0))) (k : Int) (v : D) (hk : L2.atI [.lst (ns.map D.int), .int i, .int d, .int s, .int t] k = some v) : m2 gIx (mVar 0) (mC (.int k)) σ (bag r ns i d s t) = .ok v (bag r ns i d s t) := by
  refine (m2_ok (x := .cell 0) (c1 := bag r ns i d s t) (by simp [mVar, h0]) rfl).trans ?_
  show (match L2.atI [D.lst (ns.map D.int), .int i, .int d, .int s, .int t] k with | some d => R.ok d _ | none => R.bad) = _
  rw [hk]
theorem set_bag (h0 : σ[0]? = some (some (.cell 0))) {fe : ME} {v : D} (k : Int) (j : Nat) (hj : ixN 5 k = some j) (h : fe σ (bag r ns i d s t) = .ok v (bag r ns i d s t)) :
    sAsg fe (gSb (mVar 0) (mC (.int k))) σ (bag r ns i d s t) = .nx σ (.lst (([.lst (ns.map D.int), .int i, .int d, .int s, .int t] : List D).set j v) :: r) := by
  have e : setD (.cell 0) (.int k) v (bag r ns i d s t) = .ok () (.lst (([.lst (ns.map D.int), .int i, .int d, .int s, .int t] : List D).set j v) :: r) := by
    show (match ixN 5 k with | some j => R.ok () _ | none => R.bad) = _
    rw [hj]
    rfl
  simp [sAsg, h, R.toS, gSb, mVar, h0, R.bind, mC, e]
end
/-- one operand, a constant -/
theorem op_c {g : D → D → Cs → R D} {f : ME} {σ : Sd} {c : Cs} {x y : D} (h : f σ c = .ok x c) : m2 g f (mC y) σ c = g x y c := m2_ok h rfl
theorem toint {f : ME} {σ : Sd} {c : Cs} {k : Int} (h : f σ c = .ok (.int k) c) : mCall (one gToInt) (aCons f aNil) σ c = .ok (.int k) c := (mcall (acons h anil)).trans rfl
section
variable {r : Cs} {ns : List Int} {i d s t n : Int} {o2 o3 o4 : Option D}
theorem pull_if (h : ¬ ((d == 0) && decide (i < ((ns.map D.int).length : Int))) = true) : True := trivial
/-- the draw's number is renewed -/
theorem renew (hi : 0 ≤ i) (hd : 0 ≤ d) (hs : 0 ≤ s) (hs2 : s < 2147483549) :
    ∃ i' d' s' σ', 0 ≤ i' ∧ 0 ≤ d' ∧ 0 ≤ s' ∧ s' < 2147483549 ∧ (σ' = [some (.cell 0), some (.int n), o2, o3, o4] ∨ ∃ v, σ' = [some (.cell 0), some (.int n), some v, o3, o4]) ∧
    (sIf (mAnd (mB (m2 gEq (m2 gIx (mVar 0) (mC (.int 2))) (mC (.int 0)))) (mB (m2 gLt (m2 gIx (mVar 0) (mC (.int 1))) (mCall (one gLen) (aCons (m2 gIx (mVar 0) (mC (.int 0))) (aNil))))))
      (sSeq (sAsg (mTup (aCons (m2 gIx (m2 gIx (mVar 0) (mC (.int 0))) (m2 gIx (mVar 0) (mC (.int 1)))) (aCons (m2 gAdd (m2 gIx (mVar 0) (mC (.int 1))) (mC (.int 1))) (aNil)))) (gTp 2 (gsCons (gNm 2) (gsCons (gSb (mVar 0) (mC (.int 1))) (gsNil)))))
        (sSeq (sIf (mB (m2 gGe (mVar 2) (m2 gPow (mC (.int 10)) (mC (.int 18))))) (sAsg (mVar 2) (gSb (mVar 0) (mC (.int 2)))) (sNx))
          (sAsg (m2 gMod (mCall (one gToInt) (aCons (m2 gAdd (m2 gAdd (m2 gMul (m2 gIx (mVar 0) (mC (.int 3))) (mC (.int 39217))) (m2 gMul (m2 gMod (mCall (one gToInt) (aCons (mVar 2) (aNil))) (mC (.int 2147483353))) (mC (.int 41231)))) (mC (.int 71))) (aNil))) (mC (.int 2147483549))) (gSb (mVar 0) (mC (.int 3))))))
      (sNx)) [some (.cell 0), some (.int n), o2, o3, o4] (bag r ns i d s t) = .nx σ' (bag r ns i' d' s' t) := by
  have e1 : mB (m2 gEq (m2 gIx (mVar 0) (mC (.int 2))) (mC (.int 0))) [some (.cell 0), some (.int n), o2, o3, o4] (bag r ns i d s t) = .ok (d == 0) (bag r ns i d s t) := mb_ok ((m2_ok (x := .int d) (y := .int 0) (c1 := bag r ns i d s t) (c2 := bag r ns i d s t) rfl rfl).trans (geq_int _ _ _))
  have e2 : mB (m2 gLt (m2 gIx (mVar 0) (mC (.int 1))) (mCall (one gLen) (aCons (m2 gIx (mVar 0) (mC (.int 0))) (aNil)))) [some (.cell 0), some (.int n), o2, o3, o4] (bag r ns i d s t) = .ok (decide (i < ((ns.map D.int).length : Int))) (bag r ns i d s t) := rfl
  by_cases h1 : d = 0
  · by_cases h2 : i < ((ns.map D.int).length : Int)
    · rw [show (d == 0) = true by simp [h1]] at e1
      rw [decide_eq_true h2] at e2
      rw [sif_t (mandt_t e1 e2)]
      obtain ⟨j, rfl⟩ : ∃ j : Nat, i = (j : Int) := ⟨i.toNat, by omega⟩
      rw [List.length_map] at h2
      have hj : j < ns.length := by omega
      have ej : (ns.map D.int)[j]? = some (.int ns[j]) := by rw [List.getElem?_map, List.getElem?_eq_getElem hj]; rfl
      have e3 : m2 gIx (m2 gIx (mVar 0) (mC (.int 0))) (m2 gIx (mVar 0) (mC (.int 1))) [some (.cell 0), some (.int n), o2, o3, o4] (bag r ns (j : Int) d s t) = .ok (.int ns[j]) (bag r ns (j : Int) d s t) :=
        (m2_ok (x := .lst (ns.map D.int)) (y := .int (j : Int)) (c1 := bag r ns (j : Int) d s t) (c2 := bag r ns (j : Int) d s t) rfl rfl).trans (gix_at ej)
      have e4 : mTup (aCons (m2 gIx (m2 gIx (mVar 0) (mC (.int 0))) (m2 gIx (mVar 0) (mC (.int 1)))) (aCons (m2 gAdd (m2 gIx (mVar 0) (mC (.int 1))) (mC (.int 1))) (aNil))) [some (.cell 0), some (.int n), o2, o3, o4] (bag r ns (j : Int) d s t) = .ok (.tup [.int ns[j], .int ((j : Int) + 1)]) (bag r ns (j : Int) d s t) :=
        mtup_ok (acons e3 (acons (x := .int ((j : Int) + 1)) (c1 := bag r ns (j : Int) d s t) rfl anil)) (by simp)
      have e5 : sAsg (mTup (aCons (m2 gIx (m2 gIx (mVar 0) (mC (.int 0))) (m2 gIx (mVar 0) (mC (.int 1)))) (aCons (m2 gAdd (m2 gIx (mVar 0) (mC (.int 1))) (mC (.int 1))) (aNil)))) (gTp 2 (gsCons (gNm 2) (gsCons (gSb (mVar 0) (mC (.int 1))) (gsNil)))) [some (.cell 0), some (.int n), o2, o3, o4] (bag r ns (j : Int) d s t) = .nx [some (.cell 0), some (.int n), some (.int ns[j]), o3, o4] (bag r ns ((j : Int) + 1) d s t) := by
        unfold sAsg
        rw [e4]
        rfl
      rw [seq_nx e5]
      have key : ∀ (d' : Int), ∃ s', 0 ≤ s' ∧ s' < 2147483549 ∧ sAsg (m2 gMod (mCall (one gToInt) (aCons (m2 gAdd (m2 gAdd (m2 gMul (m2 gIx (mVar 0) (mC (.int 3))) (mC (.int 39217))) (m2 gMul (m2 gMod (mCall (one gToInt) (aCons (mVar 2) (aNil))) (mC (.int 2147483353))) (mC (.int 41231)))) (mC (.int 71))) (aNil))) (mC (.int 2147483549))) (gSb (mVar 0) (mC (.int 3))) [some (.cell 0), some (.int n), some (.int ns[j]), o3, o4] (bag r ns ((j : Int) + 1) d' s t) = .nx [some (.cell 0), some (.int n), some (.int ns[j]), o3, o4] (bag r ns ((j : Int) + 1) d' s' t) := by
        intro d'
        have a1 : m2 gMul (m2 gIx (mVar 0) (mC (.int 3))) (mC (.int 39217)) [some (.cell 0), some (.int n), some (.int ns[j]), o3, o4] (bag r ns ((j : Int) + 1) d' s t) = .ok (.int (s * 39217)) _ := (op_c (x := .int s) rfl).trans (gmul_r rfl)
        have a2 : m2 gMod (mCall (one gToInt) (aCons (mVar 2) (aNil))) (mC (.int 2147483353)) [some (.cell 0), some (.int n), some (.int ns[j]), o3, o4] (bag r ns ((j : Int) + 1) d' s t) = .ok (.int (ns[j].fmod 2147483353)) _ := (op_c (toint (k := ns[j]) rfl)).trans (gmod_ok (by decide))
        have a3 := (op_c (g := gMul) (y := .int 41231) a2).trans (gmul_r rfl)
        have a4 := (m2_ok (g := gAdd) a1 a3).trans gadd_int
        have a5 := (op_c (g := gAdd) (y := .int 71) a4).trans gadd_int
        have a6 := (op_c (g := gMod) (y := .int 2147483549) (toint a5)).trans (gmod_ok (by decide))
        obtain ⟨b1, b2⟩ := fmod_pos (i := s * 39217 + ns[j].fmod 2147483353 * 41231 + 71) (j := 2147483549) (by decide)
        refine ⟨_, b1, b2, ?_⟩
        exact set_bag rfl 3 3 rfl a6
      have e6 : mB (m2 gGe (mVar 2) (m2 gPow (mC (.int 10)) (mC (.int 18)))) [some (.cell 0), some (.int n), some (.int ns[j]), o3, o4] (bag r ns ((j : Int) + 1) d s t) = .ok (decide (1000000000000000000 ≤ ns[j])) (bag r ns ((j : Int) + 1) d s t) := rfl
      by_cases h3 : 1000000000000000000 ≤ ns[j]
      · rw [decide_eq_true h3] at e6
        have e7 : sIf (mB (m2 gGe (mVar 2) (m2 gPow (mC (.int 10)) (mC (.int 18))))) (sAsg (mVar 2) (gSb (mVar 0) (mC (.int 2)))) (sNx) [some (.cell 0), some (.int n), some (.int ns[j]), o3, o4] (bag r ns ((j : Int) + 1) d s t) = .nx [some (.cell 0), some (.int n), some (.int ns[j]), o3, o4] (bag r ns ((j : Int) + 1) ns[j] s t) := (sif_t e6).trans rfl
        rw [seq_nx e7]
        obtain ⟨s', b1, b2, b3⟩ := key ns[j]
        exact ⟨_, _, s', _, by omega, by omega, b1, b2, .inr ⟨_, rfl⟩, b3⟩
      · rw [decide_eq_false h3] at e6
        have e7 : sIf (mB (m2 gGe (mVar 2) (m2 gPow (mC (.int 10)) (mC (.int 18))))) (sAsg (mVar 2) (gSb (mVar 0) (mC (.int 2)))) (sNx) [some (.cell 0), some (.int n), some (.int ns[j]), o3, o4] (bag r ns ((j : Int) + 1) d s t) = .nx [some (.cell 0), some (.int n), some (.int ns[j]), o3, o4] (bag r ns ((j : Int) + 1) d s t) := (sif_f e6).trans rfl
        rw [seq_nx e7]
        obtain ⟨s', b1, b2, b3⟩ := key d
        exact ⟨_, _, s', _, by omega, hd, b1, b2, .inr ⟨_, rfl⟩, b3⟩
    · rw [show (d == 0) = true by simp [h1]] at e1
      rw [decide_eq_false h2] at e2
      rw [sif_f (mandt_t e1 e2)]
      exact ⟨i, d, s, _, hi, hd, hs, hs2, .inl rfl, rfl⟩
  · rw [show (d == 0) = false by simp [h1]] at e1
    rw [sif_f (mandt_f e1)]
    exact ⟨i, d, s, _, hi, hd, hs, hs2, .inl rfl, rfl⟩
end
section
variable {r : Cs} {ns : List Int} {i d s t n : Int} {o2 o3 o4 : Option D}
theorem tail_ok (hi : 0 ≤ i) (hd : 0 ≤ d) (hs : 0 ≤ s) (hs2 : s < 2147483549) (h1 : 0 < n) (h2 : n < 1000000) :
    ∃ k d' s', 0 ≤ k ∧ k < n ∧ 0 ≤ d' ∧ 0 ≤ s' ∧ s' < 2147483549 ∧
    (sSeq (sIf (mB (m2 gGt (m2 gIx (mVar 0) (mC (.int 2))) (mC (.int 0)))) (sSeq (sAsg (mTup (aCons (m2 gMod (mCall (one gToInt) (aCons (m2 gIx (mVar 0) (mC (.int 2))) (aNil))) (mVar 1)) (aCons (m2 gFdiv (m2 gIx (mVar 0) (mC (.int 2))) (mVar 1)) (aNil)))) (gTp 2 (gsCons (gNm 3) (gsCons (gSb (mVar 0) (mC (.int 2))) (gsNil))))) (sRet (mVar 3))) (sNx)) (sSeq (sAsg (m2 gIx (mVar 0) (mC (.int 3))) (gNm 4)) (sSeq (sAsg (m2 gMod (mCall (one gToInt) (aCons (m2 gAdd (m2 gAdd (m2 gAdd (m2 gPow (mVar 4) (mC (.int 3))) (m2 gMul (mVar 4) (mC (.int 36979)))) (m2 gMul (m2 gIx (mVar 0) (mC (.int 4))) (mC (.int 1299827)))) (mC (.int 50021))) (aNil))) (mC (.int 2147483549))) (gSb (mVar 0) (mC (.int 3)))) (sRet (m2 gMod (mCall (one gToInt) (aCons (m2 gAdd (m2 gFdiv (m2 gIx (mVar 0) (mC (.int 3))) (mC (.int 89))) (m2 gMul (m2 gMod (mCall (one gToInt) (aCons (m2 gIx (mVar 0) (mC (.int 3))) (aNil))) (mC (.int 7907))) (mC (.int 61)))) (aNil))) (mVar 1))))))
      [some (.cell 0), some (.int n), o2, o3, o4] (bag r ns i d s t) = .rt (.int k) (bag r ns i d' s' t) := by
  have e1 : mB (m2 gGt (m2 gIx (mVar 0) (mC (.int 2))) (mC (.int 0))) [some (.cell 0), some (.int n), o2, o3, o4] (bag r ns i d s t) = .ok (decide (0 < d)) (bag r ns i d s t) := rfl
  by_cases h3 : 0 < d
  · rw [decide_eq_true h3] at e1
    have a1 : m2 gMod (mCall (one gToInt) (aCons (m2 gIx (mVar 0) (mC (.int 2))) (aNil))) (mVar 1) [some (.cell 0), some (.int n), o2, o3, o4] (bag r ns i d s t) = .ok (.int (d.fmod n)) (bag r ns i d s t) := (m2_ok (toint (k := d) rfl) (y := .int n) (c2 := bag r ns i d s t) rfl).trans (gmod_ok (by omega))
    have a2 : m2 gFdiv (m2 gIx (mVar 0) (mC (.int 2))) (mVar 1) [some (.cell 0), some (.int n), o2, o3, o4] (bag r ns i d s t) = .ok (.int (d.fdiv n)) (bag r ns i d s t) := (m2_ok (x := .int d) (y := .int n) (c1 := bag r ns i d s t) (c2 := bag r ns i d s t) rfl rfl).trans (gfdiv_ok (by omega) (by omega))
    have a3 : mTup (aCons (m2 gMod (mCall (one gToInt) (aCons (m2 gIx (mVar 0) (mC (.int 2))) (aNil))) (mVar 1)) (aCons (m2 gFdiv (m2 gIx (mVar 0) (mC (.int 2))) (mVar 1)) (aNil))) [some (.cell 0), some (.int n), o2, o3, o4] (bag r ns i d s t) = .ok (.tup [.int (d.fmod n), .int (d.fdiv n)]) (bag r ns i d s t) := mtup_ok (acons a1 (acons a2 anil)) (by simp)
    obtain ⟨b1, b2⟩ := fmod_pos (i := d) (j := n) h1
    refine ⟨_, d.fdiv n, s, b1, b2, fdiv_nn hd h1, hs, hs2, ?_⟩
    refine seq_rt ((sif_t e1).trans ?_)
    have a4 : sAsg (mTup (aCons (m2 gMod (mCall (one gToInt) (aCons (m2 gIx (mVar 0) (mC (.int 2))) (aNil))) (mVar 1)) (aCons (m2 gFdiv (m2 gIx (mVar 0) (mC (.int 2))) (mVar 1)) (aNil)))) (gTp 2 (gsCons (gNm 3) (gsCons (gSb (mVar 0) (mC (.int 2))) (gsNil)))) [some (.cell 0), some (.int n), o2, o3, o4] (bag r ns i d s t) = .nx [some (.cell 0), some (.int n), o2, some (.int (d.fmod n)), o4] (bag r ns i (d.fdiv n) s t) := by
      unfold sAsg
      rw [a3]
      rfl
    rw [seq_nx a4]
    rfl
  · rw [decide_eq_false h3] at e1
    have e2 : sIf (mB (m2 gGt (m2 gIx (mVar 0) (mC (.int 2))) (mC (.int 0)))) (sSeq (sAsg (mTup (aCons (m2 gMod (mCall (one gToInt) (aCons (m2 gIx (mVar 0) (mC (.int 2))) (aNil))) (mVar 1)) (aCons (m2 gFdiv (m2 gIx (mVar 0) (mC (.int 2))) (mVar 1)) (aNil)))) (gTp 2 (gsCons (gNm 3) (gsCons (gSb (mVar 0) (mC (.int 2))) (gsNil))))) (sRet (mVar 3))) (sNx) [some (.cell 0), some (.int n), o2, o3, o4] (bag r ns i d s t) = .nx [some (.cell 0), some (.int n), o2, o3, o4] (bag r ns i d s t) := (sif_f e1).trans rfl
    rw [seq_nx e2]
    have e3 : sAsg (m2 gIx (mVar 0) (mC (.int 3))) (gNm 4) [some (.cell 0), some (.int n), o2, o3, o4] (bag r ns i d s t) = .nx [some (.cell 0), some (.int n), o2, o3, some (.int s)] (bag r ns i d s t) := rfl
    rw [seq_nx e3]
    have p1 : m2 gPow (mVar 4) (mC (.int 3)) [some (.cell 0), some (.int n), o2, o3, some (.int s)] (bag r ns i d s t) = .ok (.int (s ^ (3 : Int).toNat)) (bag r ns i d s t) := (op_c (x := .int s) rfl).trans (gpow_ok ⟨by decide, by decide, small_of (by omega) (by omega)⟩)
    have p2 : m2 gMul (mVar 4) (mC (.int 36979)) [some (.cell 0), some (.int n), o2, o3, some (.int s)] (bag r ns i d s t) = .ok (.int (s * 36979)) (bag r ns i d s t) := (op_c (x := .int s) rfl).trans (gmul_r rfl)
    have p3 : m2 gMul (m2 gIx (mVar 0) (mC (.int 4))) (mC (.int 1299827)) [some (.cell 0), some (.int n), o2, o3, some (.int s)] (bag r ns i d s t) = .ok (.int (t * 1299827)) (bag r ns i d s t) := (op_c (x := .int t) rfl).trans (gmul_r rfl)
    have p4 := (m2_ok (g := gAdd) p1 p2).trans gadd_int
    have p5 := (m2_ok (g := gAdd) p4 p3).trans gadd_int
    have p6 := (op_c (g := gAdd) (y := .int 50021) p5).trans gadd_int
    have p7 := (op_c (g := gMod) (y := .int 2147483549) (toint p6)).trans (gmod_ok (by decide))
    obtain ⟨b1, b2⟩ := fmod_pos (i := s ^ (3 : Int).toNat + s * 36979 + t * 1299827 + 50021) (j := 2147483549) (by decide)
    have p8 := set_bag (σ := [some (.cell 0), some (.int n), o2, o3, some (.int s)]) rfl 3 3 rfl p7
    rw [seq_nx p8]
    generalize (s ^ (3 : Int).toNat + s * 36979 + t * 1299827 + 50021).fmod 2147483549 = s' at b1 b2 ⊢
    have q1 : m2 gFdiv (m2 gIx (mVar 0) (mC (.int 3))) (mC (.int 89)) [some (.cell 0), some (.int n), o2, o3, some (.int s)] (bag r ns i d s' t) = .ok (.int (s'.fdiv 89)) (bag r ns i d s' t) := (op_c (x := .int s') rfl).trans (gfdiv_ok (by decide) (by decide))
    have q2 : m2 gMod (mCall (one gToInt) (aCons (m2 gIx (mVar 0) (mC (.int 3))) (aNil))) (mC (.int 7907)) [some (.cell 0), some (.int n), o2, o3, some (.int s)] (bag r ns i d s' t) = .ok (.int (s'.fmod 7907)) (bag r ns i d s' t) := (op_c (toint (k := s') rfl)).trans (gmod_ok (by decide))
    have q3 := (op_c (g := gMul) (y := .int 61) q2).trans (gmul_r rfl)
    have q4 := (m2_ok (g := gAdd) q1 q3).trans gadd_int
    obtain ⟨b3, b4⟩ := fmod_pos (i := s'.fdiv 89 + s'.fmod 7907 * 61) (j := n) h1
    exact ⟨_, d, s', b3, b4, hd, b1, b2, sret ((m2_ok (g := gMod) (toint q4) (y := .int n) (c2 := bag r ns i d s' t) rfl).trans (gmod_ok (by omega)))⟩
end
theorem pull_ok {r c : Cs} (hb : BagOk r c) (n : Int) (h1 : 0 < n) (h2 : n < 1000000) : ∃ k c', F_pull [.cell 0, .int n] c = .ok (.int k) c' ∧ BagOk r c' ∧ 0 ≤ k ∧ k < n := by
  obtain ⟨ns, i, d, s, t, rfl, hi, hd, hs, hs2⟩ := hb
  have st : ∀ {v : D} {c' : Cs}, b_pull [some (.cell 0), some (.int n), none, none, none] (bag r ns i d s t) = .rt v c' → F_pull [.cell 0, .int n] (bag r ns i d s t) = .ok v c' := fun h => callB_rt (n := 5) (fb := b_pull) h
  have e0 : sAsg (m2 gAdd (m2 gIx (mVar 0) (mC (.int 4))) (mC (.int 1))) (gSb (mVar 0) (mC (.int 4))) [some (.cell 0), some (.int n), none, none, none] (bag r ns i d s t) = .nx [some (.cell 0), some (.int n), none, none, none] (bag r ns i d s (t + 1)) := rfl
  obtain ⟨i', d', s', σ', q1, q2, q3, q4, q5, q6⟩ := renew (ns := ns) (t := t + 1) (n := n) (o2 := none) (o3 := none) (o4 := none) hi hd hs hs2
  have : ∃ o2 : Option D, σ' = [some (.cell 0), some (.int n), o2, none, none] := by
    rcases q5 with h | ⟨v, h⟩
    · exact ⟨_, h⟩
    · exact ⟨_, h⟩
  obtain ⟨o2, rfl⟩ := this
  obtain ⟨k, d2, s2, w1, w2, w3, w4, w5, w6⟩ := tail_ok (ns := ns) (t := t + 1) (n := n) (o2 := o2) (o3 := none) (o4 := none) q1 q2 q3 q4 h1 h2
  refine ⟨k, _, st ?_, ⟨ns, i', d2, s2, t + 1, rfl, q1, w3, w4, w5⟩, w1, w2⟩
  unfold b_pull
  rw [seq_nx e0, seq_nx q6]
  exact w6
end K02

set_option linter.all false
set_option maxRecDepth 100000
set_option maxHeartbeats 4000000
noncomputable section
namespace K02
open PySem L2 Evl T
theorem cut_map (ns : List Int) : ∃ ms : List Int, cutD (ns.map D.int) none (some 63) = ms.map D.int ∧ ms.length ≤ ns.length := by
  unfold cutD
  rw [← List.map_drop, ← List.map_take]
  exact ⟨_, rfl, by simp [List.length_take, List.length_drop]; omega⟩
theorem drw {c : Cs} {a : D} {body : MS} (hb : body = (sAsg (m2 gMod (mCall (one gToInt) (aCons (m2 gAdd (m2 gAdd (m2 gMul (mVar 1) (mC (.int 44017))) (m2 gMod (mCall (one gToInt) (aCons (mVar 2) (aNil))) (mC (.int 2147483353)))) (mC (.int 91))) (aNil))) (mC (.int 2147483549))) (gNm 1))) :
    ∀ (ms : List Int) (s : Int) (o : Option D), 0 ≤ s → s < 2147483549 → ∃ s' o', 0 ≤ s' ∧ s' < 2147483549 ∧ forL (gNm 2) body (ms.map D.int) [some a, some (.int s), o] c = .nx [some a, some (.int s'), o'] c
  | [], s, o, h1, h2 => ⟨s, o, h1, h2, rfl⟩
  | m :: ms, s, o, h1, h2 => by
    have a1 : m2 gMul (mVar 1) (mC (.int 44017)) [some a, some (.int s), some (.int m)] c = .ok (.int (s * 44017)) c := (op_c (x := .int s) rfl).trans (gmul_r rfl)
    have a2 : m2 gMod (mCall (one gToInt) (aCons (mVar 2) (aNil))) (mC (.int 2147483353)) [some a, some (.int s), some (.int m)] c = .ok (.int (m.fmod 2147483353)) c := (op_c (toint (k := m) rfl)).trans (gmod_ok (by decide))
    have a3 := (m2_ok (g := gAdd) a1 a2).trans gadd_int
    have a4 := (op_c (g := gAdd) (y := .int 91) a3).trans gadd_int
    have a5 := (op_c (g := gMod) (y := .int 2147483549) (toint a4)).trans (gmod_ok (by decide))
    obtain ⟨b1, b2⟩ := fmod_pos (i := s * 44017 + m.fmod 2147483353 + 91) (j := 2147483549) (by decide)
    obtain ⟨s', o', b3, b4, b5⟩ := drw (c := c) (a := a) hb ms _ (some (.int m)) b1 b2
    refine ⟨s', o', b3, b4, ?_⟩
    have e : body [some a, some (.int s), some (.int m)] c = .nx [some a, some (.int ((s * 44017 + m.fmod 2147483353 + 91).fmod 2147483549)), some (.int m)] c := by
      rw [hb]
      exact sasg (i := 1) a5
    show (match body [some a, some (.int s), some (.int m)] c with
      | .nx σ c => forL (gNm 2) body (ms.map D.int) σ c
      | .ct σ c => forL (gNm 2) body (ms.map D.int) σ c
      | .bk σ c => .nx σ c
      | r => r) = _
    rw [e]
    exact b5
theorem draws_ok (ns : List Int) : ∃ c, F_draws [.sl (ns.map D.int)] [] = .ok (.cell 0) c ∧ BagOk [] c := by
  obtain ⟨ms, e1, hl⟩ := cut_map ns
  obtain ⟨s', o', h1, h2, h3⟩ := drw (c := []) (a := .sl (ns.map D.int)) rfl ms 12013 none (by decide) (by decide)
  have e2 : mSl (mVar 0) oNone (oSome (mC (.int 63))) [some (.sl (ns.map D.int)), some (.int 12013), none] [] = .ok (.lst (ms.map D.int)) [] := by
    rw [← e1]; rfl
  have e3 : mSl (mVar 0) oNone (oSome (mC (.int 63))) [some (.sl (ns.map D.int)), some (.int s'), o'] [] = .ok (.lst (ms.map D.int)) [] := by
    rw [← e1]; rfl
  refine ⟨[.lst [.lst (ms.map D.int), .int 0, .int 0, .int s', .int 0]], callB_rt (n := 3) (fb := b_draws) ?_, ⟨ms, 0, 0, s', 0, rfl, by decide, by decide, h1, h2⟩⟩
  show b_draws [some (.sl (ns.map D.int)), none, none] [] = _
  unfold b_draws
  have f1 : sAsg (mC (.int 12013)) (gNm 1) [some (.sl (ns.map D.int)), none, none] [] = .nx [some (.sl (ns.map D.int)), some (.int 12013), none] [] := rfl
  rw [seq_nx f1]
  have f2 : mIt (mSl (mVar 0) oNone (oSome (mC (.int 63)))) [some (.sl (ns.map D.int)), some (.int 12013), none] [] = .ok (ms.map D.int) [] := by
    unfold mIt
    rw [e2]
    rfl
  refine (seq_nx (σ' := [some (.sl (ns.map D.int)), some (.int s'), o']) (c' := []) ?_).trans ?_
  · unfold sFor
    rw [f2]
    exact h3
  · refine sret ?_
    unfold mLstC
    have f4 : mCall (one gLists) (aCons (mSl (mVar 0) oNone (oSome (mC (.int 63)))) aNil) [some (.sl (ns.map D.int)), some (.int s'), o'] [] = .ok (.lst (ms.map D.int)) [] := (mcall (acons e3 anil)).trans rfl
    rw [acons f4 (acons (x := .int 0) (c1 := []) rfl (acons (x := .int 0) (c1 := []) rfl (acons (x := .int s') (c1 := []) rfl (acons (x := .int 0) (c1 := []) rfl anil))))]
    rfl
end K02
end

set_option linter.all false
set_option maxRecDepth 100000
set_option maxHeartbeats 4000000
noncomputable section
namespace K02
open PySem L2 Evl T
/-! ### texts -/
def ws (l : List Nat) : Str := ⟨l.toArray⟩
theorem ws_len (l : List Nat) : (ws l).length = l.length := by simp [ws, Str.length]
theorem ws_cps (l : List Nat) : (ws l).cps.toList = l := by simp [ws]
theorem ws_app (a b : List Nat) : ws a ++ ws b = ws (a ++ b) := by
  apply PySem.W.str_of_cps
  show ((ws a).cps ++ (ws b).cps).toList = _
  simp [ws]
theorem ws_inj {a b : List Nat} (h : ws a = ws b) : a = b := by
  have := congrArg (fun x : Str => x.cps.toList) h
  simpa [ws] using this
theorem ws_eta (x : Str) : ws x.cps.toList = x := PySem.W.str_of_cps (ws_cps _)
theorem sgn_ws (l : List Nat) : SX.sgn (ws l) = l.map fun c => ws [c] := by
  unfold SX.sgn
  rw [ws_cps]
  rfl
theorem signs_ws (l : List Nat) : signs (ws l) = l.map fun c => D.str (ws [c]) := by
  unfold signs
  rw [ws_cps]
  rfl
theorem join_eq' (y : Str) (p : List Str) : Txt.join y p = Str.join y p := PySem.StrLaws.glued_eq_join y p
theorem join_ws : ∀ l : List Nat, Txt.join ("" : Str) (l.map fun c => ws [c]) = ws l
  | [] => by rfl
  | [c] => by rfl
  | c :: d :: l => by
    have ih := join_ws (d :: l)
    rw [join_eq'] at ih ⊢
    show ws [c] ++ ("" : Str) ++ Str.join "" (ws [d] :: l.map fun c => ws [c]) = _
    rw [show Str.join "" (ws [d] :: l.map fun c => ws [c]) = ws (d :: l) from ih]
    have : ws [c] ++ ("" : Str) = ws [c] := by rfl
    rw [this, ws_app]
    rfl
theorem strsD_map (xs : List Str) : strsD (xs.map D.str) = some xs := by
  induction xs with
  | nil => rfl
  | cons x xs ih => simp [strsD, ih]
theorem strip_ws (y : Str) (l : List Nat) : (Txt.stripChars (ws l) y = ws [] ↔ l.all y.cps.contains = true) := by
  unfold Txt.stripChars
  rw [PyProof.Rows.stripBy_eq]
  have h1 : Builtin.Str.strSub (ws l) (stripLo y.cps.contains true (ws l)) (stripHi y.cps.contains true (ws l) (stripLo y.cps.contains true (ws l))) = ws [] ↔ (stripHi y.cps.contains true (ws l) (stripLo y.cps.contains true (ws l))) ≤ stripLo y.cps.contains true (ws l) := by
    constructor
    · intro h
      have h2 := congrArg (fun x : Str => x.cps.size) h
      have h3 : ((ws l).cps.extract (stripLo y.cps.contains true (ws l)) (stripHi y.cps.contains true (ws l) (stripLo y.cps.contains true (ws l)))).size = 0 := h2
      have h4 : stripHi y.cps.contains true (ws l) (stripLo y.cps.contains true (ws l)) ≤ (ws l).cps.size := by
        unfold stripHi
        exact Nat.sub_le _ _
      rw [Array.size_extract] at h3
      omega
    · intro h
      apply PySem.W.str_of_cps
      show ((ws l).cps.extract _ _).toList = []
      apply List.eq_nil_of_length_eq_zero
      rw [Array.length_toList, Array.size_extract]
      omega
  refine Iff.trans h1 ?_
  unfold stripHi stripLo
  simp only [if_true, ws_cps]
  rw [ws_len]
  have k : ∀ m : List Nat, ((m.takeWhile y.cps.contains).length = m.length ↔ m.all y.cps.contains = true) := by
    intro m
    induction m with
    | nil => simp
    | cons a m ih =>
      rw [List.takeWhile_cons, List.all_cons]
      by_cases ha : y.cps.contains a = true
      · simp only [ha, if_true, List.length_cons, Bool.true_and]
        rw [← ih]
        omega
      · have hb : y.cps.contains a = false := eq_false_of_ne_true ha
        rw [if_neg ha, hb]
        simp
  have le : ∀ m : List Nat, (m.takeWhile y.cps.contains).length ≤ m.length := fun m => (List.takeWhile_sublist _).length_le
  constructor
  · intro h
    rw [← k]
    have h2 := le l
    apply Classical.byContradiction
    intro hne
    have h3 : (l.takeWhile y.cps.contains).length < l.length := by omega
    have h4 := le (l.drop (l.takeWhile y.cps.contains).length).reverse
    rw [List.length_reverse, List.length_drop] at h4
    have h5 : ((l.drop (l.takeWhile y.cps.contains).length).reverse.takeWhile y.cps.contains).length = (l.drop (l.takeWhile y.cps.contains).length).reverse.length := by
      rw [List.length_reverse, List.length_drop]; omega
    rw [k, List.all_reverse, List.all_eq_true] at h5
    rcases PyProof.Rows.takeWhile_stop y.cps.contains 0 l with h6 | h6
    · exact hne h6
    · rw [List.getD_eq_getElem?_getD, List.getElem?_eq_getElem h3] at h6
      have h7 := h5 l[(l.takeWhile y.cps.contains).length] (by rw [List.drop_eq_getElem_cons h3]; exact List.mem_cons_self)
      rw [show (some l[(l.takeWhile y.cps.contains).length]).getD 0 = l[(l.takeWhile y.cps.contains).length] from rfl] at h6
      rw [h6] at h7
      cases h7
  · intro h
    rw [(k l).mpr h]
    simp
end K02
end

set_option linter.all false
set_option maxRecDepth 100000
set_option maxHeartbeats 4000000
noncomputable section
namespace K02
open PySem L2 Evl T
section
variable {r c : Cs} {σ : Sd}
theorem pullc {i : Nat} {fe : ME} {n : Int} (h0 : σ[i]? = some (some (.cell 0))) (hf : fe σ c = .ok (.int n) c) (hb : BagOk r c) (h1 : 0 < n) (h2 : n < 1000000) :
    ∃ k c', mFn 2 F_pull [] (aCons (mVar i) (aCons fe aNil)) σ c = .ok (.int k) c' ∧ BagOk r c' ∧ 0 ≤ k ∧ k < n := by
  obtain ⟨k, c', e, b, k1, k2⟩ := pull_ok hb n h1 h2
  exact ⟨k, c', mfn (acons (x := .cell 0) (c1 := c) (by simp [mVar, h0]) (acons hf anil)) rfl e, b, k1, k2⟩
theorem any_lst {ds : List D} (hb : BagOk r c) (h1 : 0 < ds.length) (h2 : ds.length < 1000000) : ∃ d c', F_any [.cell 0, .lst ds] c = .ok d c' ∧ BagOk r c' ∧ d ∈ ds := by
  obtain ⟨k, c', e, b, k1, k2⟩ := pullc (σ := [some (.cell 0), some (.lst ds)]) (i := 0) (n := (ds.length : Int)) (fe := mCall (one gLen) (aCons (mVar 1) aNil)) rfl rfl hb (by omega) (by omega)
  obtain ⟨j, rfl⟩ : ∃ j : Nat, k = (j : Int) := ⟨k.toNat, by omega⟩
  have hj : j < ds.length := by omega
  refine ⟨ds[j], c', callB_rt (n := 2) (fb := b_any F_pull) ?_, b, List.getElem_mem hj⟩
  exact sret ((m2_ok (x := .lst ds) (c1 := c) rfl e).trans (gix_at (List.getElem?_eq_getElem hj)))
theorem gix_str {x : Str} {j : Nat} {ch : Nat} (h : x.cps.toList[j]? = some ch) (hl : x.length ≤ 1000000) : gIx (.str x) (.int (j : Int)) c = .ok (.str (ws [ch])) c := by
  show (match L2.atI x.cps.toList (j : Int) with | some a => if x.length ≤ 1000000 then R.ok (D.str ⟨#[a]⟩) c else R.bad | none => R.bad) = _
  rw [atI_nat h]
  exact if_pos hl
theorem glen_str {x : Str} (hl : x.length ≤ 1000000) : one gLen [.str x] c = .ok (.int (x.length : Int)) c := by
  show gLen (.str x) c = _
  unfold gLen
  rw [show lenD (.str x) c = if x.length ≤ 1000000 then some x.length else none from rfl, if_pos hl]
theorem any_str {l : List Nat} (hb : BagOk r c) (h1 : 0 < l.length) (h2 : l.length < 1000000) : ∃ ch c', F_any [.cell 0, .str (ws l)] c = .ok (.str (ws [ch])) c' ∧ BagOk r c' ∧ ch ∈ l := by
  have hl : (ws l).length ≤ 1000000 := by rw [ws_len]; omega
  have e0 : mCall (one gLen) (aCons (mVar 1) aNil) [some (.cell 0), some (.str (ws l))] c = .ok (.int (l.length : Int)) c := (mcall (acons (x := .str (ws l)) (c1 := c) rfl anil)).trans (by rw [glen_str hl, ws_len])
  obtain ⟨k, c', e, b, k1, k2⟩ := pullc (σ := [some (.cell 0), some (.str (ws l))]) (i := 0) (n := (l.length : Int)) rfl e0 hb (by omega) (by omega)
  obtain ⟨j, rfl⟩ : ∃ j : Nat, k = (j : Int) := ⟨k.toNat, by omega⟩
  have hj : j < l.length := by omega
  refine ⟨l[j], c', callB_rt (n := 2) (fb := b_any F_pull) ?_, b, List.getElem_mem hj⟩
  refine sret ((m2_ok (x := .str (ws l)) (c1 := c) rfl e).trans (gix_str ?_ hl))
  rw [ws_cps]
  exact List.getElem?_eq_getElem hj
theorem lcL_ok {g : MG} {f : ME} {h : D → D} : ∀ (ds : List D), (∀ d ∈ ds, ∃ σ1, g d σ c = .ok σ1 c ∧ f σ1 c = .ok (h d) c) → lcL g tYesD f σ ds c = .ok (ds.map h) c
  | [], _ => rfl
  | d :: ds, H => by
    obtain ⟨σ1, h1, h2⟩ := H d List.mem_cons_self
    rw [lcL, h1]
    simp only [R.ne, R.bind, tYesD, if_true, h2]
    rw [lcL_ok ds fun d hd => H d (List.mem_cons_of_mem _ hd)]
    rfl
theorem join_ok {l : List Nat} (h : l.length ≤ 1000000) : gJoin (.str "") [.lst (l.map fun ch => .str (ws [ch]))] c = .ok (.str (ws l)) c := by
  have e : (l.map fun ch => D.str (ws [ch])) = (l.map fun ch => ws [ch]).map D.str := by rw [List.map_map]; rfl
  show (match strsD (l.map fun ch => D.str (ws [ch])) with | some ys => if (ys.map (fun x : Str => x.length)).sum + ys.length * ("" : Str).length ≤ 1000000 then R.ok (D.str (Txt.join "" ys)) c else R.bad | none => R.bad) = _
  rw [e, strsD_map]
  have q : ((l.map fun ch => ws [ch]).map (·.length)).sum + (l.map fun ch => ws [ch]).length * ("" : Str).length = l.length := by
    have z : ("" : Str).length = 0 := by rfl
    rw [z, Nat.mul_zero, Nat.add_zero]
    clear e h
    induction l with
    | nil => rfl
    | cons a l ih =>
      simp only [List.map_cons, List.sum_cons, ih, List.length_cons]
      rw [ws_len]
      simp
      omega
  show (if ((l.map fun ch => ws [ch]).map (·.length)).sum + (l.map fun ch => ws [ch]).length * ("" : Str).length ≤ 1000000 then R.ok (D.str (Txt.join "" (l.map fun ch => ws [ch]))) c else R.bad) = _
  rw [q, if_pos h, join_ws]
theorem mms_ok {g : D → List D → Cs → R D} {f : ME} {fs : MA} {x : Str} {ds : List D} {c1 c2 : Cs} (h1 : f σ c = .ok (.str x) c1) (h2 : fs σ c1 = .ok ds c2) : mMs g f fs σ c = g (.str x) ds c2 := by
  simp [mMs, h1, R.bind, isStrD, h2]
/-- the letters -/
abbrev LS : Str := "abcdefghijklmnopqrstuvwxyz"
theorem ls_at : ∀ i < 26, LS.cps.toList[i]? = some (97 + i) := by decide
theorem ls_in : ∀ i < 26, LS.cps.contains (97 + i) = true := by decide +kernel
structure AlOk (al : List Nat) : Prop where
  inc : al.Pairwise (· < ·)
  pos : 1 ≤ al.length
  few : al.length ≤ 3
  lt : ∀ ch ∈ al, 97 ≤ ch ∧ ch ≤ 122
theorem AlOk.ls {al : List Nat} (h : AlOk al) : ∀ ch ∈ al, LS.cps.contains ch = true := fun ch hc => by
  obtain ⟨h1, h2⟩ := h.lt ch hc
  have := ls_in (ch - 97) (by omega)
  rwa [show 97 + (ch - 97) = ch by omega] at this
theorem alphabet_ok (hb : BagOk r c) : ∃ al c', F_alphabet [.cell 0, .int 3] c = .ok (.str (ws al)) c' ∧ BagOk r c' ∧ AlOk al := by
  obtain ⟨d, c1, e1, b1, hd⟩ := any_lst (ds := [.int 2, .int 1, .int 2, .int 3, .int 2, .int 3]) hb (by decide) (by decide)
  obtain ⟨k, hk1, hk2, rfl⟩ : ∃ k : Nat, 1 ≤ k ∧ k ≤ 3 ∧ d = .int (k : Int) := by
    simp only [List.mem_cons, List.not_mem_nil, or_false] at hd
    rcases hd with rfl | rfl | rfl | rfl | rfl | rfl
    · exact ⟨2, by omega, by omega, rfl⟩
    · exact ⟨1, by omega, by omega, rfl⟩
    · exact ⟨2, by omega, by omega, rfl⟩
    · exact ⟨3, by omega, by omega, rfl⟩
    · exact ⟨2, by omega, by omega, rfl⟩
    · exact ⟨3, by omega, by omega, rfl⟩
  have s1 : sAsg (mCall (two gMin) (aCons (mVar 1) (aCons (mFn 2 F_any [] (aCons (mVar 0) (aCons (mLst (aCons (mC (.int 2)) (aCons (mC (.int 1)) (aCons (mC (.int 2)) (aCons (mC (.int 3)) (aCons (mC (.int 2)) (aCons (mC (.int 3)) (aNil)))))))) (aNil)))) (aNil)))) (gNm 3) [some (.cell 0), some (.int 3), some (.str LS), none, none, none, none] c = .nx [some (.cell 0), some (.int 3), some (.str LS), some (.int (k : Int)), none, none, none] c1 := by
    refine sasg ((mcall (acons (x := .int 3) (c1 := c) rfl (acons (mfn (acons (x := .cell 0) (c1 := c) rfl (acons (x := .lst [.int 2, .int 1, .int 2, .int 3, .int 2, .int 3]) (c1 := c) rfl anil)) rfl e1) anil))).trans ?_)
    show R.ok (D.int (if (k : Int) < 3 then (k : Int) else 3)) c1 = _
    have : (if (k : Int) < 3 then (k : Int) else 3) = k := by split <;> omega
    rw [this]
  obtain ⟨i1, c2, e2, b2, p1, p2⟩ := pullc (σ := [some (.cell 0), some (.int 3), some (.str LS), some (.int (k : Int)), none, none, none]) (i := 0) (n := 20) (fe := mC (.int 20)) rfl rfl b1 (by decide) (by decide)
  obtain ⟨i2, c3, e3, b3, p3, p4⟩ := pullc (σ := [some (.cell 0), some (.int 3), some (.str LS), some (.int (k : Int)), some (.int i1), none, none]) (i := 0) (n := 3) (fe := mC (.int 3)) rfl rfl b2 (by decide) (by decide)
  obtain ⟨i3, c4, e4, b4, p5, p6⟩ := pullc (σ := [some (.cell 0), some (.int 3), some (.str LS), some (.int (k : Int)), some (.int i1), some (.int (i1 + 1 + i2)), none]) (i := 0) (n := 2) (fe := mC (.int 2)) rfl rfl b3 (by decide) (by decide)
  obtain ⟨n1, rfl⟩ : ∃ j : Nat, i1 = (j : Int) := ⟨i1.toNat, by omega⟩
  obtain ⟨n2, hn2⟩ : ∃ j : Nat, (n1 : Int) + 1 + i2 = (j : Int) := ⟨((n1 : Int) + 1 + i2).toNat, by omega⟩
  obtain ⟨n3, hn3⟩ : ∃ j : Nat, (n1 : Int) + 1 + i2 + 1 + i3 = (j : Int) := ⟨((n1 : Int) + 1 + i2 + 1 + i3).toNat, by omega⟩
  rw [hn2] at e4
  have s3 : sAsg (m2 gAdd (m2 gAdd (mVar 4) (mC (.int 1))) (mFn 2 F_pull [] (aCons (mVar 0) (aCons (mC (.int 3)) (aNil))))) (gNm 5) [some (.cell 0), some (.int 3), some (.str LS), some (.int (k : Int)), some (.int (n1 : Int)), none, none] c2 = .nx [some (.cell 0), some (.int 3), some (.str LS), some (.int (k : Int)), some (.int (n1 : Int)), some (.int (n2 : Int)), none] c3 := by
    refine sasg ((m2_ok (x := .int ((n1 : Int) + 1)) (c1 := c2) rfl e3).trans ?_)
    rw [gadd_int, hn2]
  have e5 : mSl (mLst (aCons (mVar 4) (aCons (mVar 5) (aCons (m2 gAdd (m2 gAdd (mVar 5) (mC (.int 1))) (mFn 2 F_pull [] (aCons (mVar 0) (aCons (mC (.int 2)) (aNil))))) (aNil))))) (oNone) (oSome (mVar 3)) [some (.cell 0), some (.int 3), some (.str LS), some (.int (k : Int)), some (.int (n1 : Int)), some (.int (n2 : Int)), none] c3 = .ok (.lst (([n1, n2, n3].take k).map fun i : Nat => D.int (i : Int))) c4 := by
    have q : m2 gAdd (m2 gAdd (mVar 5) (mC (.int 1))) (mFn 2 F_pull [] (aCons (mVar 0) (aCons (mC (.int 2)) (aNil)))) [some (.cell 0), some (.int 3), some (.str LS), some (.int (k : Int)), some (.int (n1 : Int)), some (.int (n2 : Int)), none] c3 = .ok (.int (n3 : Int)) c4 := by
      refine (m2_ok (x := .int ((n2 : Int) + 1)) (c1 := c3) rfl e4).trans ?_
      rw [gadd_int, ← hn2, hn3]
    unfold mSl
    rw [mlst_ok (acons (x := .int (n1 : Int)) (c1 := c3) rfl (acons (x := .int (n2 : Int)) (c1 := c3) rfl (acons q anil))) (by simp)]
    have hk : k = 1 ∨ k = 2 ∨ k = 3 := by omega
    rcases hk with rfl | rfl | rfl <;> rfl
  have e6 : mLc [6] (mIt (mSl (mLst (aCons (mVar 4) (aCons (mVar 5) (aCons (m2 gAdd (m2 gAdd (mVar 5) (mC (.int 1))) (mFn 2 F_pull [] (aCons (mVar 0) (aCons (mC (.int 2)) (aNil))))) (aNil))))) (oNone) (oSome (mVar 3)))) (gNm 6) (tYesD) (m2 gIx (mVar 2) (mVar 6)) [some (.cell 0), some (.int 3), some (.str LS), some (.int (k : Int)), some (.int (n1 : Int)), some (.int (n2 : Int)), none] c3 = .ok (.lst (([n1, n2, n3].take k).map fun i : Nat => D.str (ws [97 + i]))) c4 := by
    unfold mLc mIt
    rw [e5]
    simp only [R.bind]
    rw [if_pos (by simp; omega)]
    rw [lcL_ok (h := fun d => match d with | .int i => D.str (ws [97 + i.toNat]) | _ => D.non)]
    · rw [List.map_map]
      rfl
    · intro d hd
      obtain ⟨i, hi, rfl⟩ := List.mem_map.mp hd
      have hi2 : i ∈ [n1, n2, n3] := List.mem_of_mem_take hi
      have hi3 : i < 26 := by
        simp only [List.mem_cons, List.not_mem_nil, or_false] at hi2
        rcases hi2 with rfl | rfl | rfl <;> omega
      refine ⟨_, rfl, ?_⟩
      refine (m2_ok (x := .str LS) (y := .int (i : Int)) (c1 := c4) (c2 := c4) rfl rfl).trans ?_
      exact gix_str (ls_at i hi3) (by decide)
  refine ⟨([n1, n2, n3].take k).map (97 + ·), c4, callB_rt (n := 7) (fb := b_alphabet F_pull F_any) ?_, b4, ?_⟩
  · show b_alphabet F_pull F_any [some (.cell 0), some (.int 3), none, none, none, none, none] c = _
    unfold b_alphabet
    refine (seq_nx (σ' := [some (.cell 0), some (.int 3), some (.str LS), none, none, none, none]) (c' := c) rfl).trans ?_
    rw [seq_nx s1]
    rw [seq_nx (sasg (i := 4) e2)]
    refine (seq_nx s3).trans ?_
    refine sret ((mms_ok (x := "") (c1 := c3) rfl (acons e6 anil)).trans ?_)
    have q := join_ok (c := c4) (l := ([n1, n2, n3].take k).map (97 + ·)) (by simp; omega)
    rw [List.map_map] at q
    exact q
  · have hk : k = 1 ∨ k = 2 ∨ k = 3 := by omega
    have h12 : n1 < n2 := by omega
    have h23 : n2 < n3 := by omega
    rcases hk with rfl | rfl | rfl
    · exact ⟨by simp, by simp, by simp, by simp; omega⟩
    · exact ⟨by simp; omega, by simp, by simp, by simp; omega⟩
    · exact ⟨by simp; omega, by simp, by simp, by simp; omega⟩
end
end K02
end

set_option linter.all false
set_option maxRecDepth 100000
set_option maxHeartbeats 4000000
noncomputable section
namespace K02
open PySem L2 Evl T
section
variable {r c : Cs} {σ : Sd}
theorem eqvAll_strs : ∀ xs ys : List Str, PyData.eqvAll (xs.map PyData.str) (ys.map PyData.str) = decide (xs = ys)
  | [], [] => by simp [PyData.eqvAll]
  | [], y :: ys => by simp [PyData.eqvAll]
  | x :: xs, [] => by simp [PyData.eqvAll]
  | x :: xs, y :: ys => by
    rw [List.map_cons, List.map_cons, PySem.W.eqv_all_cons, eqvAll_strs xs ys]
    show ((x == y) && decide (xs = ys)) = _
    by_cases h : x = y <;> by_cases h2 : xs = ys <;> simp [h, h2]
theorem toPs_strs : ∀ xs : List Str, toPs (xs.map D.str) = some (xs.map PyData.str)
  | [] => rfl
  | x :: xs => by
    show (match toP (D.str x), toPs (xs.map D.str) with | some a, some b => some (a :: b) | _, _ => none) = _
    rw [toPs_strs xs]
    rfl
def OkS (x : Str) : Prop := ∀ ch ∈ x.cps.toList, ch < 1000
theorem okS {x : Str} (h : OkS x) : PyData.strOk x = true := by
  unfold PyData.strOk
  rw [← Array.all_toList, List.all_eq_true]
  intro ch hc
  have := h ch hc
  rw [decide_eq_true_eq]
  omega
theorem okS_ws {l : List Nat} (h : ∀ ch ∈ l, ch < 1000) : OkS (ws l) := fun ch hc => h ch (by rwa [ws_cps] at hc)
theorem okS_strip {l : List Nat} {y : Str} (h : ∀ ch ∈ l, ch < 1000) : OkS (Txt.stripChars (ws l) y) := by
  unfold Txt.stripChars
  rw [PyProof.Rows.stripBy_eq]
  intro ch hc
  have hc' : ch ∈ ((ws l).cps.extract (stripLo y.cps.contains true (ws l)) (stripHi y.cps.contains true (ws l) (stripLo y.cps.contains true (ws l)))).toList := hc
  rw [Array.toList_extract] at hc'
  have h2 := List.mem_of_mem_drop (List.mem_of_mem_take hc')
  rw [ws_cps] at h2
  exact h ch h2
theorem lay_strs : ∀ xs : List Str, (∀ x ∈ xs, OkS x) → PyData.canLayAll0 (xs.map PyData.str) = true
  | [], _ => by simp [PyData.canLayAll0]
  | x :: xs, h => by
    rw [List.map_cons, PyData.canLayAll0, lay_strs xs fun y hy => h y (List.mem_cons_of_mem _ hy)]
    simp [PyData.canLay0, okS (h x List.mem_cons_self)]
theorem dep_strs : ∀ xs : List Str, PyData.depthAll (xs.map PyData.str) = 0
  | [] => by simp [PyData.depthAll]
  | x :: xs => by
    rw [List.map_cons, PyData.depthAll, dep_strs xs]
    simp [PyData.depth]
theorem shaped_strs (xs : List Str) (h : ∀ x ∈ xs, OkS x) : SeqAt.shaped (.list (xs.map PyData.str)) = true := by
  unfold SeqAt.shaped
  rw [Bool.and_eq_true, decide_eq_true_eq]
  constructor
  · rw [PyData.canLay0, lay_strs xs h]
  · rw [PyData.depth, dep_strs]
    omega
theorem eqD_strs (xs ys : List Str) (hx : ∀ x ∈ xs, OkS x) (hy : ∀ x ∈ ys, OkS x) : eqD (.lst (xs.map D.str)) (.lst (ys.map D.str)) = some (decide (xs = ys)) := by
  unfold eqD
  have e : ∀ zs : List Str, toP (.lst (zs.map D.str)) = some (.list (zs.map PyData.str)) := fun zs => by
    show (toPs (zs.map D.str)).map PyData.list = _
    rw [toPs_strs]
    rfl
  rw [e, e]
  simp only [shaped_strs xs hx, shaped_strs ys hy, Bool.and_self, if_true]
  rw [PyData.eqv, eqvAll_strs]
theorem eqD_str (x y : Str) (hx : OkS x) (hy : OkS y) : eqD (.str x) (.str y) = some (decide (x = y)) := by
  unfold eqD
  have h : ∀ z : Str, OkS z → SeqAt.shaped (.str z) = true := fun z hz => by
    unfold SeqAt.shaped
    simp [PyData.canLay0, PyData.depth, okS hz]
  simp only [toP, h x hx, h y hy, Bool.and_self, if_true]
  show some (x == y) = _
  by_cases q : x = y <;> simp [q]
/-! ### is_word -/
theorem ok_nil : OkS "" := fun ch hc => by
  have e : ("" : Str).cps.toList = [] := by rfl
  rw [e] at hc
  cases hc
theorem is_word_str {l : List Nat} {m : Int} (hs : ∀ ch ∈ l, ch < 1000) (hl : l.length ≤ 1000000) : F_is_word [.str (ws l), .int m] c = .ok (.bl (decide ((l.length : Int) ≤ m) && l.all LS.cps.contains)) c := by
  refine callB_rt (n := 2) (fb := b_is_word) (sret ?_)
  show mAndV _ _ [some (.str (ws l)), some (.int m)] c = _
  refine mand_t (c' := c) rfl ?_
  have e1 : m2 gLe (mCall (one gLen) (aCons (mVar 0) (aNil))) (mVar 1) [some (.str (ws l)), some (.int m)] c = .ok (.bl (decide ((l.length : Int) ≤ m))) c := by
    refine (m2_ok (x := .int (l.length : Int)) (y := .int m) (c1 := c) (c2 := c) ((mcall (acons (x := .str (ws l)) (c1 := c) rfl anil)).trans ?_) rfl).trans rfl
    rw [glen_str (by rw [ws_len]; exact hl), ws_len]
  by_cases h : (l.length : Int) ≤ m
  · rw [decide_eq_true h] at e1 ⊢
    refine mand_t e1 ?_
    rw [Bool.true_and]
    have e2 : mMs gStrip (mVar 0) (aCons (mC (.str LS)) (aNil)) [some (.str (ws l)), some (.int m)] c = .ok (.str (Txt.stripChars (ws l) LS)) c := by
      refine (mms_ok (x := ws l) (c1 := c) rfl (acons (x := .str LS) (c1 := c) rfl anil)).trans ?_
      show (if (ws l).length ≤ 1000000 then R.ok (D.str (Txt.stripChars (ws l) LS)) c else R.bad) = _
      rw [if_pos (by rw [ws_len]; exact hl)]
    refine (op_c e2).trans ?_
    unfold gEq
    rw [eqD_str _ _ (okS_strip hs) ok_nil]
    have : decide (Txt.stripChars (ws l) LS = "") = l.all LS.cps.contains := by
      have q := strip_ws LS l
      have e3 : ("" : Str) = ws [] := by rfl
      rw [e3]
      cases hb : l.all LS.cps.contains with
      | true => exact decide_eq_true (q.mpr hb)
      | false => exact decide_eq_false fun z => by rw [q.mp z] at hb; cases hb
    rw [this]
  · rw [decide_eq_false h] at e1 ⊢
    rw [Bool.false_and]
    exact mand_f e1
/-! ### is_alphabet -/
theorem pw_of {l : List Nat} : (l.map fun ch => ws [ch]) = SX.sortS (dd (l.map fun ch => ws [ch])) ↔ l.Pairwise (· < ·) := by
  have lt1 : ∀ a b : Nat, SX.leS (ws [a]) (ws [b]) = true ↔ a ≤ b := fun a b => by
    unfold SX.leS
    rw [decide_eq_true_eq, ws_cps, ws_cps]
    constructor
    · intro h
      rcases Nat.lt_or_ge b a with q | q
      · exact absurd (show [b] < [a] from List.Lex.rel q) (List.not_lt.mpr h)
      · exact q
    · intro h
      refine List.not_lt.mp fun q => ?_
      cases q with
      | rel z => omega
      | cons z => cases z
  constructor
  · intro h
    have p := SX.sortS (dd (l.map fun ch => ws [ch]))
    have h1 : (SX.sortS (dd (l.map fun ch => ws [ch]))).Pairwise (fun a b => SX.leS a b = true) := List.pairwise_mergeSort SX.leS_trans SX.leS_total _
    have h2 : (SX.sortS (dd (l.map fun ch => ws [ch]))).Nodup := (List.mergeSort_perm _ SX.leS).nodup_iff.mpr (dd_nd _)
    rw [← h] at h1 h2
    rw [List.pairwise_map] at h1
    have h3 := List.pairwise_map.mp h2
    exact (h1.and h3).imp fun ⟨a, b⟩ => by
      have := (lt1 _ _).mp a
      rcases Nat.lt_or_eq_of_le this with z | z
      · exact z
      · exact absurd (by rw [z]) b
  · intro h
    have nd : (l.map fun ch => ws [ch]).Nodup := List.pairwise_map.mpr (h.imp fun q z => by
      have := ws_inj z
      simp at this
      omega)
    refine SX.sorted_eq ((dd_perm nd fun y => Iff.rfl).trans (List.mergeSort_perm _ SX.leS).symm) ?_ (List.pairwise_mergeSort SX.leS_trans SX.leS_total _)
    exact List.pairwise_map.mpr (h.imp fun q => (lt1 _ _).mpr (Nat.le_of_lt q))
theorem is_alphabet_str {l : List Nat} (hs : ∀ ch ∈ l, ch < 1000) (hl : l.length ≤ 1000) : F_is_alphabet [.str (ws l)] c = .ok (.bl (decide (l.length ≤ 3 ∧ l.all LS.cps.contains = true ∧ l ≠ [] ∧ l.Pairwise (· < ·)))) c := by
  refine callB_rt (n := 1) (fb := b_is_alphabet F_is_word) (sret ?_)
  show mAndV _ _ [some (.str (ws l))] c = _
  have e1 : mFn 2 F_is_word [] (aCons (mVar 0) (aCons (mC (.int 3)) (aNil))) [some (.str (ws l))] c = .ok (.bl (decide ((l.length : Int) ≤ 3) && l.all LS.cps.contains)) c :=
    mfn (acons (x := .str (ws l)) (c1 := c) rfl (acons (x := .int 3) (c1 := c) rfl anil)) rfl (is_word_str hs (by omega))
  cases hb : (decide ((l.length : Int) ≤ 3) && l.all LS.cps.contains) with
  | false =>
    rw [hb] at e1
    refine (mand_f e1).trans ?_
    rw [decide_eq_false]
    rintro ⟨h1, h2, _⟩
    rw [h2, Bool.and_true, decide_eq_false_iff_not] at hb
    omega
  | true =>
    rw [hb] at e1
    rw [Bool.and_eq_true, decide_eq_true_eq] at hb
    refine mand_t e1 ?_
    have e2 : m2 gNe (mVar 0) (mC (.str "")) [some (.str (ws l))] c = .ok (.bl (!decide (l = []))) c := by
      refine (op_c (x := .str (ws l)) rfl).trans ?_
      unfold gNe
      rw [eqD_str _ _ (okS_ws hs) ok_nil]
      have e3 : ("" : Str) = ws [] := by rfl
      rw [e3]
      have : decide (ws l = ws []) = decide (l = []) := by
        by_cases q : l = []
        · simp [q]
        · rw [decide_eq_false q, decide_eq_false fun z => q (ws_inj z)]
      rw [this]
    by_cases q : l = []
    · rw [decide_eq_true q] at e2
      refine (mand_f e2).trans ?_
      rw [decide_eq_false fun z => z.2.2.1 q]
    · rw [decide_eq_false q] at e2
      refine mand_t e2 ?_
      have e4 : mCall (one gLists) (aCons (mVar 0) (aNil)) [some (.str (ws l))] c = .ok (.lst ((l.map fun ch => ws [ch]).map D.str)) c := by
        refine (mcall (acons (x := .str (ws l)) (c1 := c) rfl anil)).trans ?_
        show (if (ws l).length ≤ 1000000 then R.ok (D.lst (signs (ws l))) c else R.bad) = _
        rw [if_pos (by rw [ws_len]; omega), signs_ws, List.map_map]
        rfl
      have e5 : m1 gSortSet (mVar 0) [some (.str (ws l))] c = .ok (.lst ((SX.sortS (dd (l.map fun ch => ws [ch]))).map D.str)) c := by
        refine (m1_ok (x := .str (ws l)) (c1 := c) rfl).trans ?_
        show (if (ws l).length ≤ 1000 then R.ok (D.lst ((SX.sortS (dd (SX.sgn (ws l)))).map D.str)) c else R.bad) = _
        rw [if_pos (by rw [ws_len]; omega), sgn_ws]
      refine (m2_ok e4 e5).trans ?_
      unfold gEq
      have o1 : ∀ x ∈ l.map fun ch => ws [ch], OkS x := fun x hx => by
        obtain ⟨ch, hc, rfl⟩ := List.mem_map.mp hx
        exact okS_ws fun d hd => by rw [List.mem_singleton.mp hd]; exact hs ch hc
      rw [eqD_strs _ (SX.sortS (dd (l.map fun ch => ws [ch]))) o1 fun x hx => o1 x ((dd_mem _ _).mp ((List.mergeSort_perm _ SX.leS).mem_iff.mp hx))]
      have : decide ((l.map fun ch => ws [ch]) = SX.sortS (dd (l.map fun ch => ws [ch]))) = decide (l.length ≤ 3 ∧ l.all LS.cps.contains = true ∧ l ≠ [] ∧ l.Pairwise (· < ·)) := by
        by_cases z : l.Pairwise (· < ·)
        · rw [decide_eq_true (pw_of.mpr z), decide_eq_true ⟨by omega, hb.2, q, z⟩]
        · rw [decide_eq_false fun y => z (pw_of.mp y), decide_eq_false fun y => z y.2.2.2]
      rw [this]
/-! ### is_number, like -/
theorem is_number_int (v a b : Int) : F_is_number [.int v, .int a, .int b] c = .ok (.bl (decide (a ≤ v) && decide (v ≤ b))) c := by
  refine callB_rt (n := 3) (fb := b_is_number) (sret ?_)
  show mAndV _ _ [some (.int v), some (.int a), some (.int b)] c = _
  refine mand_t (c' := c) rfl (mand_t (c' := c) rfl ?_)
  by_cases h : a ≤ v
  · rw [decide_eq_true h]
    show (match (D.bl (decide (a ≤ v))) with | .bl true => gLe (.int v) (.int b) c | .bl false => R.ok (D.bl false) c | _ => R.bad) = _
    rw [decide_eq_true h]
    rfl
  · rw [decide_eq_false h]
    show (match (D.bl (decide (a ≤ v))) with | .bl true => gLe (.int v) (.int b) c | .bl false => R.ok (D.bl false) c | _ => R.bad) = _
    rw [decide_eq_false h]
    rfl
theorem like_bl (a b : Bool) : F_like 3 [.bl a, .bl b] c = .ok (.bl (a == b)) c := by
  cases a <;> cases b <;> rfl
theorem like_8 : F_like 3 [.lst [.bl true, .bl true, .bl true, .bl false, .bl false, .bl true, .bl false, .bl true], .lst [.bl true, .bl true, .bl true, .bl false, .bl false, .bl true, .bl false, .bl true]] c = .ok (.bl true) c := by rfl
theorem like_3 (a : Bool) : F_like 3 [.lst [.bl true, .bl a, .bl false], .lst [.bl true, .bl a, .bl false]] c = .ok (.bl true) c := by cases a <;> rfl
end
end K02
end

set_option linter.all false
set_option maxRecDepth 100000
set_option maxHeartbeats 4000000
noncomputable section
namespace K02
open PySem L2 Evl T
section
variable {r c : Cs}
theorem rng_len (lo : Int) (n : Nat) : (rng lo n).length = n := by simp [rng]
theorem near_of {j : Int} (h1 : -1000 ≤ j) (h2 : j ≤ 1000) : near j = true := by
  unfold near
  rw [Bool.and_eq_true, decide_eq_true_eq, decide_eq_true_eq]
  omega
theorem itR1 {σ : Sd} {f : MA} {j : Int} {c' : Cs} (h : f σ c = .ok [.int j] c') (h1 : -1000 ≤ j) (h2 : j ≤ 1000) : mItR1 f σ c = .ok (rng 0 j.toNat) c' := by
  unfold mItR1
  rw [h]
  show (if near j = true then R.ok (rng 0 j.toNat) c' else R.bad) = _
  rw [if_pos (near_of h1 h2)]
theorem itR2 {σ : Sd} {f : MA} {i j : Int} {c' : Cs} (h : f σ c = .ok [.int i, .int j] c') (h0 : -1000 ≤ i ∧ i ≤ 1000) (h1 : -1000 ≤ j ∧ j ≤ 1000) : mItR2 f σ c = .ok (rng i (j - i).toNat) c' := by
  unfold mItR2
  rw [h]
  show (if (near i && near j) = true then R.ok (rng i (j - i).toNat) c' else R.bad) = _
  rw [near_of h0.1 h0.2, near_of h1.1 h1.2]
  rfl
/-! ### a drawn word -/
theorem lc_any {al : List Nat} {a2 a3 : Option D} (h1 : 0 < al.length) (h2 : al.length < 1000000) : ∀ (ds : List D) (c : Cs), BagOk r c →
    ∃ (l : List Nat) (c' : Cs), lcL (gNm 4) tYesD (mFn 2 F_any [] (aCons (mVar 0) (aCons (mVar 1) (aNil)))) [some (.cell 0), some (.str (ws al)), a2, a3, none] ds c = .ok (l.map fun ch => D.str (ws [ch])) c' ∧ BagOk r c' ∧ l.length = ds.length ∧ ∀ ch ∈ l, ch ∈ al
  | [], c, hb => ⟨[], c, rfl, hb, rfl, fun ch h => by cases h⟩
  | d :: ds, c, hb => by
    obtain ⟨ch, c1, e1, b1, m1⟩ := any_str (l := al) hb h1 h2
    obtain ⟨l, c2, e2, b2, l2, m2⟩ := lc_any (al := al) (a2 := a2) (a3 := a3) h1 h2 ds c1 b1
    refine ⟨ch :: l, c2, ?_, b2, by simp [l2], fun x hx => ?_⟩
    · rw [lcL]
      show (((mFn 2 F_any [] (aCons (mVar 0) (aCons (mVar 1) (aNil)))) [some (.cell 0), some (.str (ws al)), a2, a3, some d] c).ne.bind fun x c => (lcL (gNm 4) tYesD (mFn 2 F_any [] (aCons (mVar 0) (aCons (mVar 1) (aNil)))) [some (.cell 0), some (.str (ws al)), a2, a3, none] ds c).bind fun xs c => R.ok (x :: xs) c) = _
      have q : mFn 2 F_any [] (aCons (mVar 0) (aCons (mVar 1) (aNil))) [some (.cell 0), some (.str (ws al)), a2, a3, some d] c = .ok (.str (ws [ch])) c1 :=
        mfn (acons (x := .cell 0) (c1 := c) rfl (acons (x := .str (ws al)) (c1 := c) rfl anil)) rfl e1
      rw [q]
      simp only [R.ne, R.bind, e2]
      rfl
    · rcases List.mem_cons.mp hx with rfl | hx
      · exact m1
      · exact m2 x hx
theorem word_ok {al : List Nat} (hb : BagOk r c) (h1 : 0 < al.length) (h2 : al.length < 1000000) (n : Nat) (hn : n ≤ 900) :
    ∃ l c', F_word [.cell 0, .str (ws al), .int n, .int n] c = .ok (.str (ws l)) c' ∧ BagOk r c' ∧ l.length = n ∧ ∀ ch ∈ l, ch ∈ al := by
  have e0 : m2 gAdd (m2 gSub (mVar 3) (mVar 2)) (mC (.int 1)) [some (.cell 0), some (.str (ws al)), some (.int n), some (.int n), none] c = .ok (.int 1) c := by
    refine (op_c (x := .int ((n : Int) - n)) rfl).trans ?_
    rw [gadd_int, Int.sub_self]
    rfl
  obtain ⟨k, c1, e1, b1, k1, k2⟩ := pullc (σ := [some (.cell 0), some (.str (ws al)), some (.int n), some (.int n), none]) (i := 0) (n := 1) rfl e0 hb (by decide) (by decide)
  have hk : k = 0 := by omega
  subst hk
  obtain ⟨l, c2, e2, b2, l2, m2'⟩ := lc_any (al := al) (a2 := some (.int n)) (a3 := some (.int n)) h1 h2 (rng 0 n) c1 b1
  rw [rng_len] at l2
  refine ⟨l, c2, callB_rt (n := 5) (fb := b_word F_any F_pull) (sret ?_), b2, l2, m2'⟩
  show mMs gJoin _ _ [some (.cell 0), some (.str (ws al)), some (.int n), some (.int n), none] c = _
  have e3 : mLc [4] (mItR1 (aCons (m2 gAdd (mVar 2) (mFn 2 F_pull [] (aCons (mVar 0) (aCons (m2 gAdd (m2 gSub (mVar 3) (mVar 2)) (mC (.int 1))) (aNil))))) (aNil))) (gNm 4) (tYesD) (mFn 2 F_any [] (aCons (mVar 0) (aCons (mVar 1) (aNil)))) [some (.cell 0), some (.str (ws al)), some (.int n), some (.int n), none] c = .ok (.lst (l.map fun ch => D.str (ws [ch]))) c2 := by
    unfold mLc
    have q : mItR1 (aCons (m2 gAdd (mVar 2) (mFn 2 F_pull [] (aCons (mVar 0) (aCons (m2 gAdd (m2 gSub (mVar 3) (mVar 2)) (mC (.int 1))) (aNil))))) (aNil)) [some (.cell 0), some (.str (ws al)), some (.int n), some (.int n), none] c = .ok (rng 0 n) c1 := by
      have q1 := itR1 (c := c) (acons ((m2_ok (g := gAdd) (x := .int (n : Int)) (f1 := mVar 2) (c1 := c) rfl e1).trans gadd_int) anil) (by omega) (by omega)
      rw [Int.add_zero, Int.toNat_natCast] at q1
      exact q1
    rw [q]
    simp only [R.bind]
    rw [if_pos (by rw [rng_len]; omega)]
    have : wipeD [some (.cell 0), some (.str (ws al)), some (.int n), some (.int n), none] [4] = [some (.cell 0), some (.str (ws al)), some (.int n), some (.int n), none] := rfl
    rw [this, e2]
  refine (mms_ok (x := "") (c1 := c) rfl (acons e3 anil)).trans ?_
  exact join_ok (by omega)
/-! ### words_of -/
def nxt (al : List Nat) (L : List (List Nat)) : List (List Nat) := L.flatMap fun w => al.map fun ch => w ++ [ch]
def lev (al : List Nat) : Nat → List (List Nat)
  | 0 => [[]]
  | k + 1 => nxt al (lev al k)
def upto (al : List Nat) : Nat → List (List Nat)
  | 0 => [[]]
  | k + 1 => upto al k ++ lev al (k + 1)
abbrev tD (L : List (List Nat)) : List D := L.map fun w => D.str (ws w)
theorem nxt_len (al : List Nat) : ∀ L : List (List Nat), (nxt al L).length = L.length * al.length
  | [] => by simp [nxt]
  | w :: L => by
    have := nxt_len al L
    unfold nxt at this ⊢
    rw [List.flatMap_cons, List.length_append, this, List.length_map, List.length_cons, Nat.succ_mul, Nat.add_comm]
theorem lev_len (al : List Nat) : ∀ k, (lev al k).length = al.length ^ k
  | 0 => rfl
  | k + 1 => by rw [lev, nxt_len, lev_len al k, Nat.pow_succ]
theorem lev_word (al : List Nat) : ∀ k, ∀ w ∈ lev al k, w.length = k ∧ ∀ ch ∈ w, ch ∈ al
  | 0, w, h => by
    rw [lev, List.mem_singleton] at h
    subst h
    exact ⟨rfl, fun ch hc => by cases hc⟩
  | k + 1, w, h => by
    obtain ⟨v, hv, h2⟩ := List.mem_flatMap.mp h
    obtain ⟨ch, hc, rfl⟩ := List.mem_map.mp h2
    obtain ⟨i1, i2⟩ := lev_word al k v hv
    refine ⟨by simp [i1], fun x hx => ?_⟩
    rcases List.mem_append.mp hx with z | z
    · exact i2 x z
    · rw [List.mem_singleton.mp z]; exact hc
theorem gadd_str {x y : List Nat} (h : x.length + y.length ≤ 1000000) : gAdd (.str (ws x)) (.str (ws y)) c = .ok (.str (ws (x ++ y))) c := by
  show (if (ws x).length + (ws y).length ≤ 1000000 then R.ok (D.str (ws x ++ ws y)) c else R.bad) = _
  rw [if_pos (by rw [ws_len, ws_len]; exact h), ws_app]
theorem lc2_words {al : List Nat} {a1 a2 a3 a4 : Option D} (hl : al.length ≤ 900) : ∀ (L : List (List Nat)), (∀ w ∈ L, w.length ≤ 900) →
    lc2L [6] (gNm 5) (mItS (mVar 0)) (gNm 6) (m2 gAdd (mVar 5) (mVar 6)) [some (.str (ws al)), a1, a2, a3, a4, none, none] (tD L) c = .ok (tD (nxt al L)) c
  | [], _ => rfl
  | w :: L, h => by
    have hw := h w List.mem_cons_self
    have ih := lc2_words (al := al) (a1 := a1) (a2 := a2) (a3 := a3) (a4 := a4) hl L fun v hv => h v (List.mem_cons_of_mem _ hv)
    have e1 : mItS (mVar 0) [some (.str (ws al)), a1, a2, a3, a4, some (.str (ws w)), none] c = .ok (signs (ws al)) c := rfl
    have e2 : lcL (gNm 6) tYesD (m2 gAdd (mVar 5) (mVar 6)) [some (.str (ws al)), a1, a2, a3, a4, some (.str (ws w)), none] (signs (ws al)) c = .ok (tD (al.map fun ch => w ++ [ch])) c := by
      rw [lcL_ok (h := fun d => match d with | .str x => D.str (ws w ++ x) | _ => D.non)]
      · rw [signs_ws, List.map_map]
        show R.ok _ c = R.ok ((al.map fun ch => w ++ [ch]).map fun w => D.str (ws w)) c
        rw [List.map_map]
        congr 1
        apply List.map_congr_left
        intro ch _
        show D.str (ws w ++ ws [ch]) = D.str (ws (w ++ [ch]))
        rw [ws_app]
      · intro d hd
        rw [signs_ws] at hd
        obtain ⟨ch, _, rfl⟩ := List.mem_map.mp hd
        refine ⟨_, rfl, ?_⟩
        refine (m2_ok (x := .str (ws w)) (y := .str (ws [ch])) (c1 := c) (c2 := c) rfl rfl).trans ?_
        show _ = R.ok (D.str (ws w ++ ws [ch])) c
        rw [ws_app]
        exact gadd_str (by simp; omega)
    show (lc2L [6] (gNm 5) (mItS (mVar 0)) (gNm 6) (m2 gAdd (mVar 5) (mVar 6)) [some (.str (ws al)), a1, a2, a3, a4, none, none] (D.str (ws w) :: tD L) c) = _
    rw [lc2L]
    show ((mItS (mVar 0) [some (.str (ws al)), a1, a2, a3, a4, some (.str (ws w)), none] c).ne.bind fun es c => if es.length ≤ 1000 then (lcL (gNm 6) tYesD (m2 gAdd (mVar 5) (mVar 6)) (wipeD [some (.str (ws al)), a1, a2, a3, a4, some (.str (ws w)), none] [6]) es c).bind fun xs c => (lc2L [6] (gNm 5) (mItS (mVar 0)) (gNm 6) (m2 gAdd (mVar 5) (mVar 6)) [some (.str (ws al)), a1, a2, a3, a4, none, none] (tD L) c).bind fun ys c => R.ok (xs ++ ys) c else R.bad) = _
    rw [e1]
    simp only [R.ne, R.bind]
    rw [if_pos (by rw [signs_ws, List.length_map]; omega)]
    have : wipeD [some (.str (ws al)), a1, a2, a3, a4, some (.str (ws w)), none] [6] = [some (.str (ws al)), a1, a2, a3, a4, some (.str (ws w)), none] := rfl
    rw [this, e2]
    simp only [R.bind, ih]
    congr 1
    unfold nxt
    rw [List.flatMap_cons]
    exact (List.map_append ..).symm
theorem upto_le {al : List Nat} (hl : al.length ≤ 3) : ∀ k, (upto al k).length ≤ 4 ^ k
  | 0 => by simp [upto]
  | k + 1 => by
    rw [upto, List.length_append, lev_len]
    have h1 := upto_le hl k
    have h2 : al.length ^ (k + 1) ≤ 3 ^ (k + 1) := Nat.pow_le_pow_left hl _
    have h3 : (3 : Nat) ^ k ≤ 4 ^ k := Nat.pow_le_pow_left (by decide) k
    rw [Nat.pow_succ] at h2 ⊢
    rw [Nat.pow_succ] at h2
    omega
theorem at_end' {α : Type} (cb : List α) (x : α) : (cb ++ [x])[cb.length]? = some x := by simp
theorem set_end {α : Type} (cb : List α) (x y : α) : (cb ++ [x]).set cb.length y = cb ++ [y] := by
  rw [List.set_append_right _ _ (Nat.le_refl _), Nat.sub_self]
  rfl
theorem wo_loop {al : List Nat} {cb : Cs} {am : Option D} {body : MS} (hl : al.length ≤ 3) (hbd : body = (sSeq (sAsg (mLc2 [5, 6] [6] (mIt (mVar 3)) (gNm 5) (mItS (mVar 0)) (gNm 6) (m2 gAdd (mVar 5) (mVar 6))) (gNm 3)) (sDrop (mMl gExt (mVar 2) (aCons (mVar 3) (aNil)))))) :
    ∀ (ds : List D) (k : Nat) (o4 : Option D), k + ds.length ≤ 3 → ∃ o4', forL (gNm 4) body ds [some (.str (ws al)), am, some (.cell cb.length), some (.lst (tD (lev al k))), o4, none, none] (cb ++ [.lst (tD (upto al k))]) =
      .nx [some (.str (ws al)), am, some (.cell cb.length), some (.lst (tD (lev al (k + ds.length)))), o4', none, none] (cb ++ [.lst (tD (upto al (k + ds.length)))])
  | [], k, o4, h => ⟨o4, rfl⟩
  | d :: ds, k, o4, h => by
    rw [List.length_cons] at h
    obtain ⟨o4', ih⟩ := wo_loop (cb := cb) (am := am) hl hbd ds (k + 1) (some d) (by omega)
    rw [show k + 1 + ds.length = k + (d :: ds).length by simp; omega] at ih
    refine ⟨o4', ?_⟩
    have lk : (lev al k).length ≤ 9 := by
      rw [lev_len]
      have : al.length ^ k ≤ 3 ^ k := Nat.pow_le_pow_left hl k
      have h2 : (3 : Nat) ^ k ≤ 3 ^ 2 := Nat.pow_le_pow_right (by decide) (by omega)
      omega
    have e1 : sAsg (mLc2 [5, 6] [6] (mIt (mVar 3)) (gNm 5) (mItS (mVar 0)) (gNm 6) (m2 gAdd (mVar 5) (mVar 6))) (gNm 3) [some (.str (ws al)), am, some (.cell cb.length), some (.lst (tD (lev al k))), some d, none, none] (cb ++ [.lst (tD (upto al k))]) =
        .nx [some (.str (ws al)), am, some (.cell cb.length), some (.lst (tD (lev al (k + 1)))), some d, none, none] (cb ++ [.lst (tD (upto al k))]) := by
      refine (sasg (d := .lst (tD (lev al (k + 1)))) (c' := cb ++ [.lst (tD (upto al k))]) ?_)
      unfold mLc2
      have q : mIt (mVar 3) [some (.str (ws al)), am, some (.cell cb.length), some (.lst (tD (lev al k))), some d, none, none] (cb ++ [.lst (tD (upto al k))]) = .ok (tD (lev al k)) (cb ++ [.lst (tD (upto al k))]) := rfl
      rw [q]
      simp only [R.bind]
      rw [if_pos (by rw [List.length_map]; omega)]
      have q2 : wipeD [some (.str (ws al)), am, some (.cell cb.length), some (.lst (tD (lev al k))), some d, none, none] [5, 6] = [some (.str (ws al)), am, some (.cell cb.length), some (.lst (tD (lev al k))), some d, none, none] := rfl
      rw [q2, lc2_words (by omega) (lev al k) fun w hw => by have := (lev_word al k w hw).1; omega]
      rfl
    have e2 : sDrop (mMl gExt (mVar 2) (aCons (mVar 3) (aNil))) [some (.str (ws al)), am, some (.cell cb.length), some (.lst (tD (lev al (k + 1)))), some d, none, none] (cb ++ [.lst (tD (upto al k))]) =
        .nx [some (.str (ws al)), am, some (.cell cb.length), some (.lst (tD (lev al (k + 1)))), some d, none, none] (cb ++ [.lst (tD (upto al (k + 1)))]) := by
      refine sdrop (d := .non) ?_
      have l1 : isLstD (.cell cb.length) (cb ++ [.lst (tD (upto al k))]) = true := by
        show (match (cb ++ [CO.lst (tD (upto al k))])[cb.length]? with | some (.lst _) => true | none => false) = true
        rw [at_end']
      show (if isLstD (.cell cb.length) (cb ++ [.lst (tD (upto al k))]) then gExt (.cell cb.length) [.lst (tD (lev al (k + 1)))] (cb ++ [.lst (tD (upto al k))]) else .bad) = _
      rw [if_pos l1]
      show (match (cb ++ [CO.lst (tD (upto al k))])[cb.length]? with | some (.lst xs) => if xs.length + (tD (lev al (k + 1))).length ≤ 1000000 then R.ok D.non ((cb ++ [CO.lst (tD (upto al k))]).set cb.length (.lst (xs ++ tD (lev al (k + 1))))) else .bad | none => .bad) = _
      rw [at_end']
      simp only
      have u := upto_le hl k
      have u2 : (4 : Nat) ^ k ≤ 4 ^ 2 := Nat.pow_le_pow_right (by decide) (by omega)
      rw [if_pos (by
        rw [List.length_map, List.length_map, lev, nxt_len]
        have : (lev al k).length * al.length ≤ 9 * 3 := Nat.mul_le_mul lk hl
        omega), set_end]
      show _ = R.ok D.non (cb ++ [CO.lst ((upto al k ++ lev al (k + 1)).map fun w => D.str (ws w))])
      rw [List.map_append]
    show (match body [some (.str (ws al)), am, some (.cell cb.length), some (.lst (tD (lev al k))), some d, none, none] (cb ++ [.lst (tD (upto al k))]) with
      | .nx σ c => forL (gNm 4) body ds σ c
      | .ct σ c => forL (gNm 4) body ds σ c
      | .bk σ c => .nx σ c
      | r => r) = _
    have e3 : body [some (.str (ws al)), am, some (.cell cb.length), some (.lst (tD (lev al k))), some d, none, none] (cb ++ [.lst (tD (upto al k))]) = .nx [some (.str (ws al)), am, some (.cell cb.length), some (.lst (tD (lev al (k + 1)))), some d, none, none] (cb ++ [.lst (tD (upto al (k + 1)))]) := by
      rw [hbd, seq_nx e1]
      exact e2
    rw [e3]
    exact ih
theorem words_ok {al : List Nat} {cb : Cs} (hl : al.length ≤ 3) (m : Nat) (hm : m ≤ 3) : F_words_of [.str (ws al), .int m] cb = .ok (.cell cb.length) (cb ++ [.lst (tD (upto al m))]) := by
  refine callB_rt (n := 7) (fb := b_words_of) ?_
  show b_words_of [some (.str (ws al)), some (.int m), none, none, none, none, none] cb = _
  unfold b_words_of
  have e1 : sAsg (mLstC (aCons (mC (.str "")) (aNil))) (gNm 2) [some (.str (ws al)), some (.int m), none, none, none, none, none] cb = .nx [some (.str (ws al)), some (.int m), some (.cell cb.length), none, none, none, none] (cb ++ [.lst (tD (upto al 0))]) := rfl
  rw [seq_nx e1]
  have e2 : sAsg (mLst (aCons (mC (.str "")) (aNil))) (gNm 3) [some (.str (ws al)), some (.int m), some (.cell cb.length), none, none, none, none] (cb ++ [.lst (tD (upto al 0))]) = .nx [some (.str (ws al)), some (.int m), some (.cell cb.length), some (.lst (tD (lev al 0))), none, none, none] (cb ++ [.lst (tD (upto al 0))]) := rfl
  rw [seq_nx e2]
  have e3 : mItR1 (aCons (mCall (two gMin) (aCons (mVar 1) (aCons (mC (.int 200)) (aNil)))) (aNil)) [some (.str (ws al)), some (.int m), some (.cell cb.length), some (.lst (tD (lev al 0))), none, none, none] (cb ++ [.lst (tD (upto al 0))]) = .ok (rng 0 m) (cb ++ [.lst (tD (upto al 0))]) := by
    have q := itR1 (c := cb ++ [.lst (tD (upto al 0))]) (σ := [some (.str (ws al)), some (.int m), some (.cell cb.length), some (.lst (tD (lev al 0))), none, none, none]) (j := (m : Int)) (f := aCons (mCall (two gMin) (aCons (mVar 1) (aCons (mC (.int 200)) (aNil)))) (aNil)) (acons ((mcall (acons (x := .int m) (c1 := cb ++ [.lst (tD (upto al 0))]) rfl (acons (x := .int 200) (c1 := cb ++ [.lst (tD (upto al 0))]) rfl anil))).trans (by
      show R.ok (D.int (if (200 : Int) < (m : Int) then 200 else (m : Int))) _ = _
      rw [if_neg (by omega)])) anil) (by omega) (by omega)
    rw [Int.toNat_natCast] at q
    exact q
  obtain ⟨o4, e4⟩ := wo_loop (cb := cb) (am := some (.int m)) hl rfl (rng 0 m) 0 none (by rw [rng_len]; omega)
  rw [rng_len, Nat.zero_add] at e4
  refine (seq_nx (σ' := [some (.str (ws al)), some (.int m), some (.cell cb.length), some (.lst (tD (lev al m))), o4, none, none]) (c' := cb ++ [.lst (tD (upto al m))]) ?_).trans rfl
  unfold sFor
  rw [e3]
  exact e4
end
end K02
end

set_option linter.all false
set_option maxRecDepth 100000
set_option maxHeartbeats 4000000
noncomputable section
namespace K02
open PySem L2 Evl T
def ltW (a b : List Nat) : Prop := a.length < b.length ∨ (a.length = b.length ∧ a < b)
theorem lex_app : ∀ {a b x y : List Nat}, a < b → a.length = b.length → a ++ x < b ++ y
  | [], [], _, _, h, _ => absurd h (List.lt_irrefl _)
  | [], _ :: _, _, _, _, h => by simp at h
  | _ :: _, [], _, _, _, h => by simp at h
  | a :: as, b :: bs, x, y, h, hl => by
    rw [List.cons_append, List.cons_append]
    rw [List.cons_lt_cons_iff] at h ⊢
    rcases h with h | ⟨h1, h2⟩
    · exact .inl h
    · exact .inr ⟨h1, lex_app h2 (by simpa using hl)⟩
theorem lex_same : ∀ (w : List Nat) {x y : List Nat}, x < y → w ++ x < w ++ y
  | [], _, _, h => h
  | a :: w, _, _, h => by
    rw [List.cons_append, List.cons_append, List.cons_lt_cons_iff]
    exact .inr ⟨rfl, lex_same w h⟩
theorem nxt_pw {al : List Nat} (ha : al.Pairwise (· < ·)) : ∀ (L : List (List Nat)), L.Pairwise (fun a b => a < b ∧ a.length = b.length) → (nxt al L).Pairwise (· < ·)
  | [], _ => by simp [nxt]
  | w :: L, h => by
    obtain ⟨h1, h2⟩ := List.pairwise_cons.mp h
    have ih := nxt_pw ha L h2
    unfold nxt at ih ⊢
    rw [List.flatMap_cons, List.pairwise_append]
    refine ⟨List.pairwise_map.mpr (ha.imp fun q => lex_same w (by rw [List.cons_lt_cons_iff]; exact .inl q)), ih, fun x hx y hy => ?_⟩
    obtain ⟨c1, _, rfl⟩ := List.mem_map.mp hx
    obtain ⟨v, hv, hy⟩ := List.mem_flatMap.mp hy
    obtain ⟨c2, _, rfl⟩ := List.mem_map.mp hy
    obtain ⟨q1, q2⟩ := h1 v hv
    exact lex_app q1 q2
theorem lev_pw {al : List Nat} (ha : al.Pairwise (· < ·)) : ∀ k, (lev al k).Pairwise (· < ·)
  | 0 => by simp [lev]
  | k + 1 => nxt_pw ha _ (List.Pairwise.imp_of_mem (fun {a b} h1 h2 h => ⟨h, by rw [(lev_word al k a h1).1, (lev_word al k b h2).1]⟩) (lev_pw ha k))
theorem upto_word (al : List Nat) : ∀ k, ∀ w ∈ upto al k, w.length ≤ k ∧ ∀ ch ∈ w, ch ∈ al
  | 0, w, h => by
    rw [upto, List.mem_singleton] at h
    subst h
    exact ⟨Nat.le_refl _, fun ch hc => by cases hc⟩
  | k + 1, w, h => by
    rw [upto] at h
    rcases List.mem_append.mp h with h | h
    · obtain ⟨h1, h2⟩ := upto_word al k w h
      exact ⟨by omega, h2⟩
    · obtain ⟨h1, h2⟩ := lev_word al (k + 1) w h
      exact ⟨by omega, h2⟩
theorem upto_pw {al : List Nat} (ha : al.Pairwise (· < ·)) : ∀ k, (upto al k).Pairwise ltW
  | 0 => by simp [upto]
  | k + 1 => by
    rw [upto, List.pairwise_append]
    refine ⟨upto_pw ha k, List.Pairwise.imp_of_mem (fun {a b} h1 h2 h => .inr ⟨by rw [(lev_word al _ a h1).1, (lev_word al _ b h2).1], h⟩) (lev_pw ha (k + 1)), fun a h1 b h2 => .inl ?_⟩
    have := (upto_word al k a h1).1
    have := (lev_word al _ b h2).1
    omega
theorem upto_nd {al : List Nat} (ha : al.Pairwise (· < ·)) (k : Nat) : (upto al k).Nodup := (upto_pw ha k).imp fun h e => by
  subst e
  rcases h with h | h
  · omega
  · exact List.lt_irrefl _ h.2
theorem upto_head (al : List Nat) : ∀ k, ∃ R, upto al k = [] :: R
  | 0 => ⟨[], rfl⟩
  | k + 1 => by
    obtain ⟨R, h⟩ := upto_head al k
    exact ⟨R ++ lev al (k + 1), by rw [upto, h]; rfl⟩
theorem lev_in (al : List Nat) : ∀ k, ∀ w ∈ lev al k, w ∈ upto al k
  | 0, w, h => h
  | k + 1, w, h => by rw [upto]; exact List.mem_append_right _ h
section
variable {c : Cs} {σ : Sd}
/-! ### what the law asks of the words -/
theorem keys_ok (L : List (List Nat)) (h : L.Pairwise ltW) : ((L.map fun w => ((w.length : Int), ws w)).Pairwise leQ) :=
  List.pairwise_map.mpr (h.imp fun {a b} q => by
    rcases q with q | ⟨q1, q2⟩
    · exact .inl (by omega)
    · refine .inr ⟨by omega, ?_⟩
      rw [ws_cps, ws_cps]
      exact List.le_of_lt q2)
theorem pairsD_map : ∀ (ps : List (Int × Str)), pairsD (ps.map fun p => D.tup [.int p.1, .str p.2]) = some ps
  | [] => rfl
  | p :: ps => by
    show ((pairD (D.tup [.int p.1, .str p.2])).bind fun p => (pairsD (ps.map fun p => D.tup [.int p.1, .str p.2])).map (p :: ·)) = _
    rw [pairsD_map ps]
    rfl
theorem sorted_ok (ps : List (Int × Str)) (hl : ps.length ≤ 1000) (h : ps.Pairwise leQ) : one gSorted [.lst (ps.map fun p => D.tup [.int p.1, .str p.2])] c = .ok (.lst (ps.map fun p => D.tup [.int p.1, .str p.2])) c := by
  show gSorted (.lst (ps.map fun p => D.tup [.int p.1, .str p.2])) c = _
  unfold gSorted
  simp only [pairsD_map]
  rw [if_pos ⟨hl, h⟩]
theorem toPs_pairs : ∀ (ps : List (Int × Str)), toPs (ps.map fun p => D.tup [.int p.1, .str p.2]) = some (ps.map fun p => PyData.tuple [.int p.1, .str p.2])
  | [] => rfl
  | p :: ps => by
    show (match toP (D.tup [.int p.1, .str p.2]), toPs (ps.map fun p => D.tup [.int p.1, .str p.2]) with | some a, some b => some (a :: b) | _, _ => none) = _
    rw [toPs_pairs ps]
    rfl
theorem lay_pairs : ∀ ps : List (Int × Str), (∀ p ∈ ps, OkS p.2) → PyData.canLayAll0 (ps.map fun p => PyData.tuple [.int p.1, .str p.2]) = true
  | [], _ => by simp [PyData.canLayAll0]
  | p :: ps, h => by
    rw [List.map_cons, PyData.canLayAll0, lay_pairs ps fun y hy => h y (List.mem_cons_of_mem _ hy)]
    simp [PyData.canLay0, PyData.canLayAll0, okS (h p List.mem_cons_self)]
theorem dep_pairs : ∀ ps : List (Int × Str), PyData.depthAll (ps.map fun p => PyData.tuple [.int p.1, .str p.2]) ≤ 1
  | [] => by simp [PyData.depthAll]
  | p :: ps => by
    have := dep_pairs ps
    rw [List.map_cons, PyData.depthAll]
    have h2 : PyData.depth (.tuple [.int p.1, .str p.2]) ≤ 1 := by simp [PyData.depth, PyData.depthAll]
    omega
theorem ne_pairs (ps : List (Int × Str)) (h : ∀ p ∈ ps, OkS p.2) : gNe (.lst (ps.map fun p => D.tup [.int p.1, .str p.2])) (.lst (ps.map fun p => D.tup [.int p.1, .str p.2])) c = .ok (.bl false) c := by
  have e1 : toP (.lst (ps.map fun p => D.tup [.int p.1, .str p.2])) = some (.list (ps.map fun p => PyData.tuple [.int p.1, .str p.2])) := by
    show (toPs (ps.map fun p => D.tup [.int p.1, .str p.2])).map PyData.list = _
    rw [toPs_pairs]
    rfl
  have e2 : PyData.canLay0 (.list (ps.map fun p => PyData.tuple [.int p.1, .str p.2])) = true := by rw [PyData.canLay0, lay_pairs ps h]
  have e3 : SeqAt.shaped (.list (ps.map fun p => PyData.tuple [.int p.1, .str p.2])) = true := by
    unfold SeqAt.shaped
    rw [e2, Bool.true_and, decide_eq_true_eq, PyData.depth]
    have := dep_pairs ps
    omega
  unfold gNe eqD
  simp only [e1, e3, Bool.and_self, if_true, SeqAt.eqv_refl _ e2, Bool.not_true]
theorem all_true : ∀ (n : Nat), one gAll [.lst (List.replicate n (.bl true))] c = .ok (.bl true) c := by
  intro n
  have h : blsD (List.replicate n (D.bl true)) = some (List.replicate n true) := by
    induction n with
    | zero => rfl
    | succ n ih => rw [List.replicate_succ, List.replicate_succ, blsD, ih]; rfl
  show (match blsD (List.replicate n (D.bl true)) with | some bs => R.ok (D.bl (bs.all id)) c | none => R.bad) = _
  rw [h]
  simp only
  have : (List.replicate n true).all id = true := by
    rw [List.all_eq_true]
    intro b hb
    exact (List.mem_replicate.mp hb).2
  rw [this]
theorem map_true {α : Type} : ∀ (l : List α), (l.map fun _ => D.bl true) = List.replicate l.length (.bl true) := fun l => by
  rw [List.map_const']
theorem max_ok {L : List (List Nat)} {m : Nat} (h1 : ∀ w ∈ L, w.length ≤ m) (h2 : ∃ w ∈ L, w.length = m) : one gMaxL [.lst (L.map fun w => D.int (w.length : Int))] c = .ok (.int m) c := by
  cases L with
  | nil => obtain ⟨w, hw, _⟩ := h2; cases hw
  | cons a L =>
    have hi : ∀ L : List (List Nat), intsD (L.map fun w => D.int (w.length : Int)) = some (L.map fun w => (w.length : Int)) := by
      intro L
      induction L with
      | nil => rfl
      | cons b L ih => rw [List.map_cons, intsD, ih]; rfl
    show (match intsD ((a :: L).map fun w => D.int (w.length : Int)) with | some (n :: ns) => R.ok (D.int (ns.foldl max n)) c | _ => R.bad) = _
    rw [hi]
    show R.ok (D.int ((L.map fun w => (w.length : Int)).foldl max (a.length : Int))) c = _
    obtain ⟨f1, f2⟩ := fold_max (L.map fun w => (w.length : Int)) (a.length : Int)
    obtain ⟨w, hw, hm⟩ := h2
    have e : (L.map fun w => (w.length : Int)).foldl max (a.length : Int) = m := by
      have up : (L.map fun w => (w.length : Int)).foldl max (a.length : Int) ≤ m := by
        have : (a :: L).map (fun w => (w.length : Int)) = (a.length : Int) :: L.map fun w => (w.length : Int) := rfl
        rw [← this] at f1
        obtain ⟨v, hv, e⟩ := List.mem_map.mp f1
        rw [← e]
        have := h1 v hv
        omega
      have lo : (m : Int) ≤ (L.map fun w => (w.length : Int)).foldl max (a.length : Int) := by
        refine f2 m ?_
        rw [← hm]
        have z : ((w.length : Int)) ∈ (a :: L).map (fun w => (w.length : Int)) := List.mem_map.mpr ⟨w, hw, rfl⟩
        exact z
      omega
    rw [e]
end
end K02
end

set_option linter.all false
set_option maxRecDepth 100000
set_option maxHeartbeats 4000000
noncomputable section
namespace K02
open PySem L2 Evl T
def T1 : MS := sAsg (mTup (aCons (mFn 2 F_alphabet [] (aCons (mVar 1) (aCons (mC (.int 3)) (aNil)))) (aCons (m2 gSub (mFn 2 F_pull [] (aCons (mVar 1) (aCons (mC (.int 9)) (aNil)))) (mC (.int 4))) (aNil)))) (gTp 2 (gsCons (gNm 3) (gsCons (gNm 4) (gsNil))))
def T2 : MS := sAsg (m2 gAdd (mVar 4) (mFn 2 F_pull [] (aCons (mVar 1) (aCons (mC (.int 5)) (aNil))))) (gNm 5)
def T3 : MS := sFor (mItR2 (aCons (m2 gSub (mVar 4) (mC (.int 2))) (aCons (m2 gAdd (mVar 5) (mC (.int 3))) (aNil)))) (gNm 6) (sIf (mNot (mB (mFn 2 (F_like 3) [] (aCons (mFn 3 F_is_number [] (aCons (mVar 6) (aCons (mVar 4) (aCons (mVar 5) (aNil))))) (aCons (mChain gLe gLe (mVar 4) (mVar 6) (mVar 5)) (aNil)))))) (sRet (mC (.bl false))) (sNx))
def T4 : MS := sIf (mB (m2 gNe (mLc [7] (mIt (mLst (aCons (mC (.bl true)) (aCons (mC (.bl false)) (aCons (mC .non) (aCons (mC (.str "1")) (aCons (mTup (aCons (mC (.int 1)) (aNil))) (aCons (mLst (aCons (mC (.int 1)) (aNil))) (aNil))))))))) (gNm 7) (tYesD) (mFn 3 F_is_number [] (aCons (mVar 7) (aCons (m2 gSub (mC (.int 0)) (mC (.int 5))) (aCons (mC (.int 5)) (aNil)))))) (m2 gMul (mLst (aCons (mC (.bl false)) (aNil))) (mC (.int 6))))) (sRet (mC (.bl false))) (sNx)
def T5 : MS := sAsg (mFn 2 F_pull [] (aCons (mVar 1) (aCons (mC (.int 12)) (aNil)))) (gNm 8)
def T6 : MS := sAsg (mFn 4 F_word [] (aCons (mVar 1) (aCons (mVar 3) (aCons (mVar 8) (aCons (mVar 8) (aNil)))))) (gNm 9)
def T7 : MS := sAsg (mFn 2 F_any [] (aCons (mVar 1) (aCons (mLst (aCons (mC (.str "A")) (aCons (mC (.str " ")) (aCons (mC (.str "1")) (aCons (mC (.str "-")) (aCons (mC (.str "\n")) (aCons (mC (.str "_")) (aNil)))))))) (aNil)))) (gNm 10)
def T8 : MS := sAsg (mFn 2 F_pull [] (aCons (mVar 1) (aCons (m2 gAdd (mVar 8) (mC (.int 1))) (aNil)))) (gNm 11)
def T9 : MS := sAsg (mLst (aCons (mFn 2 F_is_word [(.int 200)] (aCons (mVar 9) (aNil))) (aCons (mFn 2 F_is_word [] (aCons (mVar 9) (aCons (mVar 8) (aNil)))) (aCons (mKw 2 2 (fun l => [l.getD 1 D.non, l.getD 0 D.non]) F_is_word (aCons (m2 gAdd (mVar 8) (mC (.int 1))) (aCons (mVar 9) (aNil)))) (aCons (mFn 2 F_is_word [] (aCons (m2 gAdd (mVar 9) (mC (.str "q"))) (aCons (mVar 8) (aNil)))) (aCons (mFn 2 F_is_word [(.int 200)] (aCons (m2 gAdd (m2 gAdd (mSl (mVar 9) (oNone) (oSome (mVar 11))) (mVar 10)) (mSl (mVar 9) (oSome (mVar 11)) (oNone))) (aNil))) (aCons (mFn 2 F_is_word [(.int 200)] (aCons (m2 gMulS (mC (.str "z")) (mC (.int 200))) (aNil))) (aCons (mFn 2 F_is_word [(.int 200)] (aCons (m2 gMulS (mC (.str "z")) (mC (.int 201))) (aNil))) (aCons (mFn 2 F_is_word [(.int 200)] (aCons (mC (.str "")) (aNil))) (aNil)))))))))) (gNm 12)
def T10 : MS := sIf (mNot (mB (mFn 2 (F_like 3) [] (aCons (mVar 12) (aCons (mLst (aCons (mC (.bl true)) (aCons (mC (.bl true)) (aCons (mC (.bl true)) (aCons (mC (.bl false)) (aCons (mC (.bl false)) (aCons (mC (.bl true)) (aCons (mC (.bl false)) (aCons (mC (.bl true)) (aNil)))))))))) (aNil)))))) (sRet (mC (.bl false))) (sNx)
def T11 : MS := sIf (mOr (mB (m2 gNe (mLc [7] (mIt (mLst (aCons (mC .non) (aCons (mC (.bl true)) (aCons (mC (.int 3)) (aCons (mTup (aCons (mC (.str "a")) (aNil))) (aCons (mLst (aCons (mC (.str "a")) (aNil))) (aNil)))))))) (gNm 7) (tYesD) (mFn 2 F_is_word [(.int 200)] (aCons (mVar 7) (aNil)))) (m2 gMul (mLst (aCons (mC (.bl false)) (aNil))) (mC (.int 5))))) (mB (m2 gNe (mLc [7] (mIt (mLst (aCons (mC .non) (aCons (mC (.bl true)) (aCons (mC (.str "")) (aCons (mC (.str "A")) (aCons (mTup (aCons (mC (.str "a")) (aNil))) (aCons (mLst (aCons (mC (.str "a")) (aNil))) (aCons (mC (.str "abcd")) (aCons (mC (.str "a b")) (aCons (mC (.str "a1")) (aNil)))))))))))) (gNm 7) (tYesD) (mFn 1 F_is_alphabet [] (aCons (mVar 7) (aNil)))) (m2 gMul (mLst (aCons (mC (.bl false)) (aNil))) (mC (.int 9)))))) (sRet (mC (.bl false))) (sNx)
def T12 : MS := sIf (mNot (mB (mFn 2 (F_like 3) [] (aCons (mLst (aCons (mFn 1 F_is_alphabet [] (aCons (mVar 3) (aNil))) (aCons (mFn 1 F_is_alphabet [] (aCons (m1 revS (mVar 3)) (aNil))) (aCons (mFn 1 F_is_alphabet [] (aCons (m2 gAdd (m2 gIx (mVar 3) (mC (.int 0))) (mVar 3)) (aNil))) (aNil))))) (aCons (mLst (aCons (mC (.bl true)) (aCons (m2 gEq (mCall (one gLen) (aCons (mVar 3) (aNil))) (mC (.int 1))) (aCons (mC (.bl false)) (aNil))))) (aNil)))))) (sRet (mC (.bl false))) (sNx)
def T13 : MS := sAsg (mFn 2 F_pull [] (aCons (mVar 1) (aCons (mC (.int 4)) (aNil)))) (gNm 13)
def T14 : MS := sAsg (mFn 2 F_words_of [] (aCons (mVar 3) (aCons (mVar 13) (aNil)))) (gNm 14)
def T15 : MS := sAsg (mCall (one gLen) (aCons (mVar 3) (aNil))) (gNm 15)
def T16 : MS := sAsg (mLst (aCons (mC (.int 1)) (aCons (m2 gAdd (mC (.int 1)) (mVar 15)) (aCons (m2 gAdd (m2 gAdd (mC (.int 1)) (mVar 15)) (m2 gMul (mVar 15) (mVar 15))) (aCons (m2 gAdd (m2 gAdd (m2 gAdd (mC (.int 1)) (mVar 15)) (m2 gMul (mVar 15) (mVar 15))) (m2 gMul (m2 gMul (mVar 15) (mVar 15)) (mVar 15))) (aNil)))))) (gNm 16)
def T17 : MS := sIf (mOr (mNot (mB (mCall (two gIsi) (aCons (mVar 14) (aCons (mC (.ty "list")) (aNil)))))) (mOr (mB (m2 gNe (mCall (one gLen) (aCons (mVar 14) (aNil))) (m2 gIx (mVar 16) (mVar 13)))) (mB (m2 gNe (m2 gIx (mVar 14) (mC (.int 0))) (mC (.str "")))))) (sRet (mC (.bl false))) (sNx)
def T18 : MS := sAsg (mLcC [18] (mVar 14) (gNm 18) (tYesD) (mTup (aCons (mCall (one gLen) (aCons (mVar 18) (aNil))) (aCons (mVar 18) (aNil))))) (gNm 17)
def T19 : MS := sIf (mOr (mB (m2 gNe (mVar 17) (mCall (one gSorted) (aCons (mVar 17) (aNil))))) (mOr (mB (m2 gNe (m1 gLenSet (mVar 14)) (mCall (one gLen) (aCons (mVar 14) (aNil))))) (mNot (mB (mCall (one gAll) (aCons (mLcC [18] (mVar 14) (gNm 18) (tYesD) (mAndV (mCall (two gIsi) (aCons (mVar 18) (aCons (mC (.ty "str")) (aNil)))) (mCall (one gAll) (aCons (mLc [19] (mItS (mVar 18)) (gNm 19) (tYesD) (m2 gInS (mVar 19) (mVar 3))) (aNil))))) (aNil))))))) (sRet (mC (.bl false))) (sNx)
def T20 : MS := sIf (mB (m2 gNe (mCall (one gMaxL) (aCons (mLcC [18] (mVar 14) (gNm 18) (tYesD) (mCall (one gLen) (aCons (mVar 18) (aNil)))) (aNil))) (mVar 13))) (sRet (mC (.bl false))) (sNx)
def T21 : MS := sDrop (mMl gApp (mVar 14) (aCons (mC (.str "x")) (aNil)))
def T22 : MS := sIf (mB (m2 gNe (mCall (one gLen) (aCons (mKw 2 2 (fun l => [l.getD 1 D.non, l.getD 0 D.non]) F_words_of (aCons (mVar 13) (aCons (mVar 3) (aNil)))) (aNil))) (m2 gSub (mCall (one gLen) (aCons (mVar 14) (aNil))) (mC (.int 1))))) (sRet (mC (.bl false))) (sNx)
def TT : MS := sSeq T1 (sSeq T2 (sSeq T3 (sSeq T4 (sSeq T5 (sSeq T6 (sSeq T7 (sSeq T8 (sSeq T9 (sSeq T10 (sSeq T11 (sSeq T12 (sSeq T13 (sSeq T14 (sSeq T15 (sSeq T16 (sSeq T17 (sSeq T18 (sSeq T19 (sSeq T20 (sSeq T21 (T22)))))))))))))))))))))
theorem law_eq : F_law = callB 20 (sSeq (sAsg (mFn 1 F_draws [] (aCons (mVar 0) (aNil))) (gNm 1)) (sSeq (sFor (mItR1 (aCons (mC (.int 2)) (aNil))) (gNm 2) TT) (sRet (mC (.bl true))))) := rfl

section
variable {r c : Cs} {o0 o2 o3 o4 o5 o6 o7 o8 o9 o10 o11 o12 o13 o14 o15 o16 o17 o18 o19 : Option D}
theorem chain_ok {σ : Sd} {f1 f2 f3 : ME} {a v b : Int} (h1 : f1 σ c = .ok (.int a) c) (h2 : f2 σ c = .ok (.int v) c) (h3 : f3 σ c = .ok (.int b) c) : mChain gLe gLe f1 f2 f3 σ c = .ok (.bl (decide (a ≤ v) && decide (v ≤ b))) c := by
  have g1 : gLe (.int a) (.int v) c = .ok (.bl (decide (a ≤ v))) c := rfl
  have g2 : gLe (.int v) (.int b) c = .ok (.bl (decide (v ≤ b))) c := rfl
  by_cases h : a ≤ v
  · rw [decide_eq_true h] at g1 ⊢
    simp only [mChain, h1, h2, R.bind, g1, h3, g2, Bool.true_and]
  · rw [decide_eq_false h] at g1 ⊢
    simp only [mChain, h1, h2, R.bind, g1, Bool.false_and]
theorem gne_int (a : Int) : gNe (.int a) (.int a) c = .ok (.bl false) c := by
  have h1 : SeqAt.shaped (.int a) = true := by rfl
  simp [gNe, eqD, toP, h1, PyData.eqv]
theorem glen_cell {n : Nat} {ds : List D} (h : c[n]? = some (CO.lst ds)) : one gLen [.cell n] c = .ok (.int (ds.length : Int)) c := by
  show gLen (.cell n) c = _
  unfold gLen
  have : lenD (.cell n) c = some ds.length := by
    show (match c[n]? with | some (.lst ds) => some ds.length | none => none) = _
    rw [h]
  rw [this]
theorem gix_cell {n : Nat} {ds : List D} {d : D} (h : c[n]? = some (CO.lst (d :: ds))) : gIx (.cell n) (.int 0) c = .ok d c := by
  show (match c[n]? with | some (.lst ds) => (match L2.atI ds 0 with | some d => R.ok d c | none => .bad) | none => .bad) = _
  rw [h]
  simp only
  rw [show (0 : Int) = ((0 : Nat) : Int) from rfl, atI_nat (xs := d :: ds) (j := 0) rfl]
theorem mlcC_ok {σ : Sd} {vs : List Nat} {e : ME} {g : MG} {f : ME} {h : D → D} {n : Nat} {ds : List D} (h1 : e σ c = .ok (.cell n) c) (hc : c[n]? = some (CO.lst ds)) (hl : ds.length ≤ 100000)
    (H : ∀ d ∈ ds, ∃ σ1, g d (wipeD σ vs) c = .ok σ1 c ∧ f σ1 c = .ok (h d) c) : mLcC vs e g tYesD f σ c = .ok (.lst (ds.map h)) c := by
  unfold mLcC
  rw [h1]
  simp only [R.bind, hc]
  rw [if_pos hl, lcC_eq hc ds fun d hd => by
    obtain ⟨σ1, a1, a2⟩ := H d hd
    exact ⟨σ1, _, a1, rfl, a2⟩, lcL_ok ds H]
theorem bag_app (x : CO) (h : BagOk r c) : BagOk (r ++ [x]) (c ++ [x]) := by
  obtain ⟨ns, i, d, s, t, rfl, q⟩ := h
  exact ⟨ns, i, d, s, t, rfl, q⟩
theorem bag_set {n : Nat} (x : CO) (h : BagOk r c) (hn : 1 ≤ n) : ∃ r', BagOk r' (c.set n x) := by
  obtain ⟨k, rfl⟩ : ∃ k, n = k + 1 := ⟨n - 1, by omega⟩
  obtain ⟨ns, i, d, s, t, rfl, q⟩ := h
  exact ⟨r.set k x, ns, i, d, s, t, rfl, q⟩
theorem bag_len (h : BagOk r c) : 1 ≤ c.length := by
  obtain ⟨ns, i, d, s, t, rfl, q⟩ := h
  exact Nat.succ_le_succ (Nat.zero_le _)
theorem t1 (hb : BagOk r c) : ∃ al a c', T1 [o0, some (.cell 0), o2, o3, o4, o5, o6, o7, o8, o9, o10, o11, o12, o13, o14, o15, o16, o17, o18, o19] c = .nx [o0, some (.cell 0), o2, some (.str (ws al)), some (.int a), o5, o6, o7, o8, o9, o10, o11, o12, o13, o14, o15, o16, o17, o18, o19] c' ∧ BagOk r c' ∧ AlOk al ∧ -4 ≤ a ∧ a ≤ 4 := by
  obtain ⟨al, c1, e1, b1, ha⟩ := alphabet_ok hb
  obtain ⟨k, c2, e2, b2, k1, k2⟩ := pullc (σ := [o0, some (.cell 0), o2, o3, o4, o5, o6, o7, o8, o9, o10, o11, o12, o13, o14, o15, o16, o17, o18, o19]) (i := 1) (n := 9) (fe := mC (.int 9)) rfl rfl b1 (by decide) (by decide)
  refine ⟨al, k - 4, c2, ?_, b2, ha, by omega, by omega⟩
  have q1 : mFn 2 F_alphabet [] (aCons (mVar 1) (aCons (mC (.int 3)) (aNil))) [o0, some (.cell 0), o2, o3, o4, o5, o6, o7, o8, o9, o10, o11, o12, o13, o14, o15, o16, o17, o18, o19] c = .ok (.str (ws al)) c1 := mfn (acons (x := .cell 0) (c1 := c) rfl (acons (x := .int 3) (c1 := c) rfl anil)) rfl e1
  have q2 : m2 gSub (mFn 2 F_pull [] (aCons (mVar 1) (aCons (mC (.int 9)) (aNil)))) (mC (.int 4)) [o0, some (.cell 0), o2, o3, o4, o5, o6, o7, o8, o9, o10, o11, o12, o13, o14, o15, o16, o17, o18, o19] c1 = .ok (.int (k - 4)) c2 := (m2_ok (y := .int 4) (c2 := c2) e2 rfl).trans gsub_int
  unfold T1 sAsg
  rw [mtup_ok (acons q1 (acons q2 anil)) (by simp)]
  rfl
theorem t2 {a : Int} (hb : BagOk r c) : ∃ k c', T2 [o0, some (.cell 0), o2, o3, some (.int a), o5, o6, o7, o8, o9, o10, o11, o12, o13, o14, o15, o16, o17, o18, o19] c = .nx [o0, some (.cell 0), o2, o3, some (.int a), some (.int (a + k)), o6, o7, o8, o9, o10, o11, o12, o13, o14, o15, o16, o17, o18, o19] c' ∧ BagOk r c' ∧ 0 ≤ k ∧ k < 5 := by
  obtain ⟨k, c2, e2, b2, k1, k2⟩ := pullc (σ := [o0, some (.cell 0), o2, o3, some (.int a), o5, o6, o7, o8, o9, o10, o11, o12, o13, o14, o15, o16, o17, o18, o19]) (i := 1) (n := 5) (fe := mC (.int 5)) rfl rfl hb (by decide) (by decide)
  exact ⟨k, c2, sasg (i := 5) ((m2_ok (x := .int a) (c1 := c) rfl e2).trans gadd_int), b2, k1, k2⟩
theorem t3_loop {a b : Int} {B : MS} (hB : B = sIf (mNot (mB (mFn 2 (F_like 3) [] (aCons (mFn 3 F_is_number [] (aCons (mVar 6) (aCons (mVar 4) (aCons (mVar 5) (aNil))))) (aCons (mChain gLe gLe (mVar 4) (mVar 6) (mVar 5)) (aNil)))))) (sRet (mC (.bl false))) (sNx)) :
    ∀ (vs : List Int) (o6 : Option D), ∃ o6', forL (gNm 6) B (vs.map D.int) [o0, some (.cell 0), o2, o3, some (.int a), some (.int b), o6, o7, o8, o9, o10, o11, o12, o13, o14, o15, o16, o17, o18, o19] c = .nx [o0, some (.cell 0), o2, o3, some (.int a), some (.int b), o6', o7, o8, o9, o10, o11, o12, o13, o14, o15, o16, o17, o18, o19] c
  | [], o6 => ⟨o6, rfl⟩
  | v :: vs, o6 => by
    obtain ⟨o6', ih⟩ := t3_loop hB vs (some (.int v))
    refine ⟨o6', ?_⟩
    have q1 : mFn 3 F_is_number [] (aCons (mVar 6) (aCons (mVar 4) (aCons (mVar 5) (aNil)))) [o0, some (.cell 0), o2, o3, some (.int a), some (.int b), some (.int v), o7, o8, o9, o10, o11, o12, o13, o14, o15, o16, o17, o18, o19] c = .ok (.bl (decide (a ≤ v) && decide (v ≤ b))) c :=
      mfn (acons (x := .int v) (c1 := c) rfl (acons (x := .int a) (c1 := c) rfl (acons (x := .int b) (c1 := c) rfl anil))) rfl (is_number_int v a b)
    have q2 : mChain gLe gLe (mVar 4) (mVar 6) (mVar 5) [o0, some (.cell 0), o2, o3, some (.int a), some (.int b), some (.int v), o7, o8, o9, o10, o11, o12, o13, o14, o15, o16, o17, o18, o19] c = .ok (.bl (decide (a ≤ v) && decide (v ≤ b))) c := chain_ok rfl rfl rfl
    have q3 : mFn 2 (F_like 3) [] (aCons (mFn 3 F_is_number [] (aCons (mVar 6) (aCons (mVar 4) (aCons (mVar 5) (aNil))))) (aCons (mChain gLe gLe (mVar 4) (mVar 6) (mVar 5)) (aNil))) [o0, some (.cell 0), o2, o3, some (.int a), some (.int b), some (.int v), o7, o8, o9, o10, o11, o12, o13, o14, o15, o16, o17, o18, o19] c = .ok (.bl true) c :=
      mfn (acons q1 (acons q2 anil)) rfl ((like_bl _ _).trans (by rw [beq_self_eq_true]))
    have q4 : B [o0, some (.cell 0), o2, o3, some (.int a), some (.int b), some (.int v), o7, o8, o9, o10, o11, o12, o13, o14, o15, o16, o17, o18, o19] c = .nx [o0, some (.cell 0), o2, o3, some (.int a), some (.int b), some (.int v), o7, o8, o9, o10, o11, o12, o13, o14, o15, o16, o17, o18, o19] c := by
      rw [hB]
      exact (sif_f (mnot_ok (mb_ok q3))).trans rfl
    show (match B [o0, some (.cell 0), o2, o3, some (.int a), some (.int b), some (.int v), o7, o8, o9, o10, o11, o12, o13, o14, o15, o16, o17, o18, o19] c with
      | .nx σ c => forL (gNm 6) B (vs.map D.int) σ c
      | .ct σ c => forL (gNm 6) B (vs.map D.int) σ c
      | .bk σ c => .nx σ c
      | r => r) = _
    rw [q4]
    exact ih
theorem t3 {a b : Int} (h1 : -4 ≤ a ∧ a ≤ 4) (h2 : -4 ≤ b ∧ b ≤ 9) : ∃ o6', T3 [o0, some (.cell 0), o2, o3, some (.int a), some (.int b), o6, o7, o8, o9, o10, o11, o12, o13, o14, o15, o16, o17, o18, o19] c = .nx [o0, some (.cell 0), o2, o3, some (.int a), some (.int b), o6', o7, o8, o9, o10, o11, o12, o13, o14, o15, o16, o17, o18, o19] c := by
  obtain ⟨o6', e⟩ := t3_loop (c := c) (a := a) (b := b) (o0 := o0) (o2 := o2) (o3 := o3) (o7 := o7) (o8 := o8) (o9 := o9) (o10 := o10) (o11 := o11) (o12 := o12) (o13 := o13) (o14 := o14) (o15 := o15) (o16 := o16) (o17 := o17) (o18 := o18) (o19 := o19) rfl ((List.range (b + 3 - (a - 2)).toNat).map fun k : Nat => a - 2 + (k : Int)) o6
  refine ⟨o6', ?_⟩
  unfold T3 sFor
  have q := itR2 (c := c) (σ := [o0, some (.cell 0), o2, o3, some (.int a), some (.int b), o6, o7, o8, o9, o10, o11, o12, o13, o14, o15, o16, o17, o18, o19]) (i := a - 2) (j := b + 3) (f := aCons (m2 gSub (mVar 4) (mC (.int 2))) (aCons (m2 gAdd (mVar 5) (mC (.int 3))) (aNil))) rfl (by omega) (by omega)
  rw [q]
  rw [List.map_map] at e
  exact e
theorem t4 : T4 [o0, some (.cell 0), o2, o3, o4, o5, o6, o7, o8, o9, o10, o11, o12, o13, o14, o15, o16, o17, o18, o19] c = .nx [o0, some (.cell 0), o2, o3, o4, o5, o6, o7, o8, o9, o10, o11, o12, o13, o14, o15, o16, o17, o18, o19] c := by
  have q : mB (m2 gNe (mLc [7] (mIt (mLst (aCons (mC (.bl true)) (aCons (mC (.bl false)) (aCons (mC .non) (aCons (mC (.str "1")) (aCons (mTup (aCons (mC (.int 1)) (aNil))) (aCons (mLst (aCons (mC (.int 1)) (aNil))) (aNil))))))))) (gNm 7) (tYesD) (mFn 3 F_is_number [] (aCons (mVar 7) (aCons (m2 gSub (mC (.int 0)) (mC (.int 5))) (aCons (mC (.int 5)) (aNil)))))) (m2 gMul (mLst (aCons (mC (.bl false)) (aNil))) (mC (.int 6)))) [o0, some (.cell 0), o2, o3, o4, o5, o6, o7, o8, o9, o10, o11, o12, o13, o14, o15, o16, o17, o18, o19] c = .ok false c := by rfl
  exact (sif_f q).trans rfl
theorem t5 (hb : BagOk r c) : ∃ (n : Nat) (c' : Cs), T5 [o0, some (.cell 0), o2, o3, o4, o5, o6, o7, o8, o9, o10, o11, o12, o13, o14, o15, o16, o17, o18, o19] c = .nx [o0, some (.cell 0), o2, o3, o4, o5, o6, o7, some (.int (n : Int)), o9, o10, o11, o12, o13, o14, o15, o16, o17, o18, o19] c' ∧ BagOk r c' ∧ n < 12 := by
  obtain ⟨k, c2, e2, b2, k1, k2⟩ := pullc (σ := [o0, some (.cell 0), o2, o3, o4, o5, o6, o7, o8, o9, o10, o11, o12, o13, o14, o15, o16, o17, o18, o19]) (i := 1) (n := 12) (fe := mC (.int 12)) rfl rfl hb (by decide) (by decide)
  obtain ⟨n, rfl⟩ : ∃ n : Nat, k = (n : Int) := ⟨k.toNat, by omega⟩
  exact ⟨n, c2, sasg (i := 8) e2, b2, by omega⟩
theorem t6 {al : List Nat} {n : Nat} (ha : AlOk al) (hn : n < 12) (hb : BagOk r c) : ∃ (l : List Nat) (c' : Cs), T6 [o0, some (.cell 0), o2, some (.str (ws al)), o4, o5, o6, o7, some (.int (n : Int)), o9, o10, o11, o12, o13, o14, o15, o16, o17, o18, o19] c = .nx [o0, some (.cell 0), o2, some (.str (ws al)), o4, o5, o6, o7, some (.int (n : Int)), some (.str (ws l)), o10, o11, o12, o13, o14, o15, o16, o17, o18, o19] c' ∧ BagOk r c' ∧ l.length = n ∧ ∀ ch ∈ l, ch ∈ al := by
  obtain ⟨l, c1, e1, b1, h1, h2⟩ := word_ok (al := al) hb ha.pos (by have := ha.few; omega) n (by omega)
  exact ⟨l, c1, sasg (i := 9) (mfn (acons (x := .cell 0) (c1 := c) rfl (acons (x := .str (ws al)) (c1 := c) rfl (acons (x := .int n) (c1 := c) rfl (acons (x := .int n) (c1 := c) rfl anil)))) rfl e1), b1, h1, h2⟩
theorem t7 (hb : BagOk r c) : ∃ (d : Nat) (c' : Cs), T7 [o0, some (.cell 0), o2, o3, o4, o5, o6, o7, o8, o9, o10, o11, o12, o13, o14, o15, o16, o17, o18, o19] c = .nx [o0, some (.cell 0), o2, o3, o4, o5, o6, o7, o8, o9, some (.str (ws [d])), o11, o12, o13, o14, o15, o16, o17, o18, o19] c' ∧ BagOk r c' ∧ LS.cps.contains d = false ∧ d < 1000 := by
  obtain ⟨d, c1, e1, b1, hd⟩ := any_lst (ds := [.str "A", .str " ", .str "1", .str "-", .str "\n", .str "_"]) hb (by decide) (by decide)
  have e2 : T7 [o0, some (.cell 0), o2, o3, o4, o5, o6, o7, o8, o9, o10, o11, o12, o13, o14, o15, o16, o17, o18, o19] c = .nx [o0, some (.cell 0), o2, o3, o4, o5, o6, o7, o8, o9, some (d), o11, o12, o13, o14, o15, o16, o17, o18, o19] c1 := sasg (i := 10) (mfn (acons (x := .cell 0) (c1 := c) rfl (acons (x := .lst [.str "A", .str " ", .str "1", .str "-", .str "\n", .str "_"]) (c1 := c) rfl anil)) rfl e1)
  simp only [List.mem_cons, List.not_mem_nil, or_false] at hd
  rcases hd with rfl | rfl | rfl | rfl | rfl | rfl
  · exact ⟨65, c1, e2, b1, by decide +kernel, by decide⟩
  · exact ⟨32, c1, e2, b1, by decide +kernel, by decide⟩
  · exact ⟨49, c1, e2, b1, by decide +kernel, by decide⟩
  · exact ⟨45, c1, e2, b1, by decide +kernel, by decide⟩
  · exact ⟨10, c1, e2, b1, by decide +kernel, by decide⟩
  · exact ⟨95, c1, e2, b1, by decide +kernel, by decide⟩
theorem t8 {n : Nat} (hn : n < 12) (hb : BagOk r c) : ∃ (k : Nat) (c' : Cs), T8 [o0, some (.cell 0), o2, o3, o4, o5, o6, o7, some (.int (n : Int)), o9, o10, o11, o12, o13, o14, o15, o16, o17, o18, o19] c = .nx [o0, some (.cell 0), o2, o3, o4, o5, o6, o7, some (.int (n : Int)), o9, o10, some (.int (k : Int)), o12, o13, o14, o15, o16, o17, o18, o19] c' ∧ BagOk r c' ∧ k ≤ n := by
  obtain ⟨k, c2, e2, b2, k1, k2⟩ := pullc (σ := [o0, some (.cell 0), o2, o3, o4, o5, o6, o7, some (.int (n : Int)), o9, o10, o11, o12, o13, o14, o15, o16, o17, o18, o19]) (i := 1) (n := (n : Int) + 1) (fe := m2 gAdd (mVar 8) (mC (.int 1))) rfl rfl hb (by omega) (by omega)
  obtain ⟨m, rfl⟩ : ∃ n : Nat, k = (n : Int) := ⟨k.toNat, by omega⟩
  exact ⟨m, c2, sasg (i := 11) e2, b2, by omega⟩
theorem t10 : T10 [o0, some (.cell 0), o2, o3, o4, o5, o6, o7, o8, o9, o10, o11, some (.lst [.bl true, .bl true, .bl true, .bl false, .bl false, .bl true, .bl false, .bl true]), o13, o14, o15, o16, o17, o18, o19] c = .nx [o0, some (.cell 0), o2, o3, o4, o5, o6, o7, o8, o9, o10, o11, some (.lst [.bl true, .bl true, .bl true, .bl false, .bl false, .bl true, .bl false, .bl true]), o13, o14, o15, o16, o17, o18, o19] c :=
  (sif_f (mnot_ok (mb_ok (mfn (acons (x := .lst [.bl true, .bl true, .bl true, .bl false, .bl false, .bl true, .bl false, .bl true]) (c1 := c) rfl (acons (x := .lst [.bl true, .bl true, .bl true, .bl false, .bl false, .bl true, .bl false, .bl true]) (c1 := c) rfl anil)) rfl like_8)))).trans rfl
theorem t13 (hb : BagOk r c) : ∃ (m : Nat) (c' : Cs), T13 [o0, some (.cell 0), o2, o3, o4, o5, o6, o7, o8, o9, o10, o11, o12, o13, o14, o15, o16, o17, o18, o19] c = .nx [o0, some (.cell 0), o2, o3, o4, o5, o6, o7, o8, o9, o10, o11, o12, some (.int (m : Int)), o14, o15, o16, o17, o18, o19] c' ∧ BagOk r c' ∧ m ≤ 3 := by
  obtain ⟨k, c2, e2, b2, k1, k2⟩ := pullc (σ := [o0, some (.cell 0), o2, o3, o4, o5, o6, o7, o8, o9, o10, o11, o12, o13, o14, o15, o16, o17, o18, o19]) (i := 1) (n := 4) (fe := mC (.int 4)) rfl rfl hb (by decide) (by decide)
  obtain ⟨n, rfl⟩ : ∃ n : Nat, k = (n : Int) := ⟨k.toNat, by omega⟩
  exact ⟨n, c2, sasg (i := 13) e2, b2, by omega⟩
theorem t14 {al : List Nat} {m : Nat} (ha : AlOk al) (hm : m ≤ 3) : T14 [o0, some (.cell 0), o2, some (.str (ws al)), o4, o5, o6, o7, o8, o9, o10, o11, o12, some (.int (m : Int)), o14, o15, o16, o17, o18, o19] c = .nx [o0, some (.cell 0), o2, some (.str (ws al)), o4, o5, o6, o7, o8, o9, o10, o11, o12, some (.int (m : Int)), some (.cell c.length), o15, o16, o17, o18, o19] (c ++ [.lst (tD (upto al m))]) :=
  sasg (i := 14) (mfn (acons (x := .str (ws al)) (c1 := c) rfl (acons (x := .int m) (c1 := c) rfl anil)) rfl (words_ok ha.few m hm))
theorem t15 {al : List Nat} (ha : AlOk al) : T15 [o0, some (.cell 0), o2, some (.str (ws al)), o4, o5, o6, o7, o8, o9, o10, o11, o12, o13, o14, o15, o16, o17, o18, o19] c = .nx [o0, some (.cell 0), o2, some (.str (ws al)), o4, o5, o6, o7, o8, o9, o10, o11, o12, o13, o14, some (.int (al.length : Int)), o16, o17, o18, o19] c :=
  sasg (i := 15) ((mcall (acons (x := .str (ws al)) (c1 := c) rfl anil)).trans (by
    rw [glen_str (by rw [ws_len]; have := ha.few; omega), ws_len]))
end
end K02
end

set_option linter.all false
set_option maxRecDepth 100000
set_option maxHeartbeats 4000000
noncomputable section
namespace K02
open PySem L2 Evl T
section
variable {r c : Cs} {o0 o2 o3 o4 o5 o6 o7 o8 o9 o10 o11 o12 o13 o14 o15 o16 o17 o18 o19 : Option D}
theorem cut_to {l : List Nat} {k : Nat} (hk : k ≤ l.length) : cutS (ws l) none (some (k : Int)) = ws (l.take k) := by
  apply PySem.W.str_of_cps
  unfold cutS
  rw [ws_cps, ws_len]
  have e1 : HT.sIx l.length 0 none = 0 := rfl
  have e2 : HT.sIx l.length l.length (some (k : Int)) = k := by
    unfold HT.sIx
    simp
    split <;> omega
  rw [e1, e2, ws_cps]
  simp
theorem cut_from {l : List Nat} {k : Nat} (hk : k ≤ l.length) : cutS (ws l) (some (k : Int)) none = ws (l.drop k) := by
  apply PySem.W.str_of_cps
  unfold cutS
  rw [ws_cps, ws_len]
  have e1 : HT.sIx l.length l.length none = l.length := rfl
  have e2 : HT.sIx l.length 0 (some (k : Int)) = k := by
    unfold HT.sIx
    simp
    split <;> omega
  rw [e1, e2, ws_cps]
  simp [List.take_of_length_le]
theorem z_ok (n : Nat) (h1 : 1 ≤ n) (h2 : n ≤ 100000) (e : (if ((n : Int) == 1 || ("z" : Str).length == 0) = true then ("z" : Str) else repS "z" (n : Int).toNat) = ws (List.replicate n 122)) : gMulS (.str "z") (.int (n : Int)) c = .ok (.str (ws (List.replicate n 122))) c := by
  show (if 1 ≤ (n : Int) ∧ (n : Int) ≤ 100000 ∧ ("z" : Str).length ≤ 100 then R.ok (D.str (if ((n : Int) == 1 || ("z" : Str).length == 0) = true then ("z" : Str) else repS "z" (n : Int).toNat)) c else .bad) = _
  rw [if_pos ⟨by omega, by omega, by decide⟩, e]
theorem t9 {l : List Nat} {n d k : Nat} (hl : l.length = n) (hn : n < 12) (hs : ∀ ch ∈ l, LS.cps.contains ch = true ∧ ch < 1000) (hd : LS.cps.contains d = false) (hd2 : d < 1000) (hk : k ≤ n) :
    T9 [o0, some (.cell 0), o2, o3, o4, o5, o6, o7, some (.int (n : Int)), some (.str (ws l)), some (.str (ws [d])), some (.int (k : Int)), o12, o13, o14, o15, o16, o17, o18, o19] c = .nx [o0, some (.cell 0), o2, o3, o4, o5, o6, o7, some (.int (n : Int)), some (.str (ws l)), some (.str (ws [d])), some (.int (k : Int)), some (.lst [.bl true, .bl true, .bl true, .bl false, .bl false, .bl true, .bl false, .bl true]), o13, o14, o15, o16, o17, o18, o19] c := by
  have al : l.all LS.cps.contains = true := by rw [List.all_eq_true]; exact fun ch h => (hs ch h).1
  have sm : ∀ ch ∈ l, ch < 1000 := fun ch h => (hs ch h).2
  have i1 : mFn 2 F_is_word [(.int 200)] (aCons (mVar 9) (aNil)) [o0, some (.cell 0), o2, o3, o4, o5, o6, o7, some (.int (n : Int)), some (.str (ws l)), some (.str (ws [d])), some (.int (k : Int)), o12, o13, o14, o15, o16, o17, o18, o19] c = .ok (.bl true) c :=
    mfn (acons (x := .str (ws l)) (c1 := c) rfl anil) rfl ((is_word_str sm (by omega)).trans (by rw [al, decide_eq_true (by omega)]; rfl))
  have i2 : mFn 2 F_is_word [] (aCons (mVar 9) (aCons (mVar 8) (aNil))) [o0, some (.cell 0), o2, o3, o4, o5, o6, o7, some (.int (n : Int)), some (.str (ws l)), some (.str (ws [d])), some (.int (k : Int)), o12, o13, o14, o15, o16, o17, o18, o19] c = .ok (.bl true) c :=
    mfn (acons (x := .str (ws l)) (c1 := c) rfl (acons (x := .int (n : Int)) (c1 := c) rfl anil)) rfl ((is_word_str sm (by omega)).trans (by rw [al, decide_eq_true (by omega)]; rfl))
  have i3 : mKw 2 2 (fun l => [l.getD 1 D.non, l.getD 0 D.non]) F_is_word (aCons (m2 gAdd (mVar 8) (mC (.int 1))) (aCons (mVar 9) (aNil))) [o0, some (.cell 0), o2, o3, o4, o5, o6, o7, some (.int (n : Int)), some (.str (ws l)), some (.str (ws [d])), some (.int (k : Int)), o12, o13, o14, o15, o16, o17, o18, o19] c = .ok (.bl true) c := by
    unfold mKw
    rw [mcall (acons (x := .int ((n : Int) + 1)) (c1 := c) rfl (acons (x := .str (ws l)) (c1 := c) rfl anil))]
    show (if 2 = 2 ∧ 2 = 2 then (F_is_word [.str (ws l), .int ((n : Int) + 1)] c).ne else .bad) = _
    rw [if_pos ⟨rfl, rfl⟩, is_word_str sm (by omega), al, decide_eq_true (by omega)]
    rfl
  have i4 : mFn 2 F_is_word [] (aCons (m2 gAdd (mVar 9) (mC (.str "q"))) (aCons (mVar 8) (aNil))) [o0, some (.cell 0), o2, o3, o4, o5, o6, o7, some (.int (n : Int)), some (.str (ws l)), some (.str (ws [d])), some (.int (k : Int)), o12, o13, o14, o15, o16, o17, o18, o19] c = .ok (.bl false) c := by
    have q : m2 gAdd (mVar 9) (mC (.str "q")) [o0, some (.cell 0), o2, o3, o4, o5, o6, o7, some (.int (n : Int)), some (.str (ws l)), some (.str (ws [d])), some (.int (k : Int)), o12, o13, o14, o15, o16, o17, o18, o19] c = .ok (.str (ws (l ++ [113]))) c := (op_c (x := .str (ws l)) rfl).trans (gadd_str (x := l) (y := [113]) (by simp; omega))
    refine mfn (acons q (acons (x := .int (n : Int)) (c1 := c) rfl anil)) rfl ((is_word_str (fun ch h => ?_) (by simp; omega)).trans ?_)
    · rcases List.mem_append.mp h with h | h
      · exact sm ch h
      · rw [List.mem_singleton.mp h]; decide
    · rw [decide_eq_false (by simp; omega)]
      rfl
  have i5 : mFn 2 F_is_word [(.int 200)] (aCons (m2 gAdd (m2 gAdd (mSl (mVar 9) (oNone) (oSome (mVar 11))) (mVar 10)) (mSl (mVar 9) (oSome (mVar 11)) (oNone))) (aNil)) [o0, some (.cell 0), o2, o3, o4, o5, o6, o7, some (.int (n : Int)), some (.str (ws l)), some (.str (ws [d])), some (.int (k : Int)), o12, o13, o14, o15, o16, o17, o18, o19] c = .ok (.bl false) c := by
    have q1 : mSl (mVar 9) (oNone) (oSome (mVar 11)) [o0, some (.cell 0), o2, o3, o4, o5, o6, o7, some (.int (n : Int)), some (.str (ws l)), some (.str (ws [d])), some (.int (k : Int)), o12, o13, o14, o15, o16, o17, o18, o19] c = .ok (.str (ws (l.take k))) c := by
      show (if (ws l).length ≤ 1000000 then R.ok (D.str (cutS (ws l) none (some (k : Int)))) c else .bad) = _
      rw [if_pos (by rw [ws_len]; omega), cut_to (by omega)]
    have q2 : mSl (mVar 9) (oSome (mVar 11)) (oNone) [o0, some (.cell 0), o2, o3, o4, o5, o6, o7, some (.int (n : Int)), some (.str (ws l)), some (.str (ws [d])), some (.int (k : Int)), o12, o13, o14, o15, o16, o17, o18, o19] c = .ok (.str (ws (l.drop k))) c := by
      show (if (ws l).length ≤ 1000000 then R.ok (D.str (cutS (ws l) (some (k : Int)) none)) c else .bad) = _
      rw [if_pos (by rw [ws_len]; omega), cut_from (by omega)]
    have q3 := (m2_ok (g := gAdd) (f2 := mVar 10) (y := .str (ws [d])) (c2 := c) q1 rfl).trans (gadd_str (by simp; omega))
    have q4 := (m2_ok (g := gAdd) q3 q2).trans (gadd_str (by simp; omega))
    refine mfn (acons q4 anil) rfl ((is_word_str (fun ch h => ?_) (by simp; omega)).trans ?_)
    · rcases List.mem_append.mp h with h | h
      · rcases List.mem_append.mp h with h | h
        · exact sm ch (List.mem_of_mem_take h)
        · rw [List.mem_singleton.mp h]; exact hd2
      · exact sm ch (List.mem_of_mem_drop h)
    · have : (l.take k ++ [d] ++ l.drop k).all LS.cps.contains = false := by
        rw [List.all_append, List.all_append]
        simp only [List.all_cons, hd, Bool.false_and, Bool.and_false]
      rw [this, Bool.and_false]
  have i6 : mFn 2 F_is_word [(.int 200)] (aCons (m2 gMulS (mC (.str "z")) (mC (.int 200))) (aNil)) [o0, some (.cell 0), o2, o3, o4, o5, o6, o7, some (.int (n : Int)), some (.str (ws l)), some (.str (ws [d])), some (.int (k : Int)), o12, o13, o14, o15, o16, o17, o18, o19] c = .ok (.bl true) c := by
    have q : m2 gMulS (mC (.str "z")) (mC (.int 200)) [o0, some (.cell 0), o2, o3, o4, o5, o6, o7, some (.int (n : Int)), some (.str (ws l)), some (.str (ws [d])), some (.int (k : Int)), o12, o13, o14, o15, o16, o17, o18, o19] c = .ok (.str (ws (List.replicate 200 122))) c := (m2_ok (x := .str "z") (y := .int 200) (c1 := c) (c2 := c) rfl rfl).trans (z_ok 200 (by decide) (by decide) (by decide +kernel))
    refine mfn (acons q anil) rfl ((is_word_str (fun ch h => ?_) (by simp)).trans ?_)
    · rw [(List.mem_replicate.mp h).2]; decide
    · have : (List.replicate 200 122).all LS.cps.contains = true := by
        rw [List.all_eq_true]
        intro ch h
        rw [(List.mem_replicate.mp h).2]
        exact ls_in 25 (by decide)
      rw [this, decide_eq_true (by simp)]
      rfl
  have i7 : mFn 2 F_is_word [(.int 200)] (aCons (m2 gMulS (mC (.str "z")) (mC (.int 201))) (aNil)) [o0, some (.cell 0), o2, o3, o4, o5, o6, o7, some (.int (n : Int)), some (.str (ws l)), some (.str (ws [d])), some (.int (k : Int)), o12, o13, o14, o15, o16, o17, o18, o19] c = .ok (.bl false) c := by
    have q : m2 gMulS (mC (.str "z")) (mC (.int 201)) [o0, some (.cell 0), o2, o3, o4, o5, o6, o7, some (.int (n : Int)), some (.str (ws l)), some (.str (ws [d])), some (.int (k : Int)), o12, o13, o14, o15, o16, o17, o18, o19] c = .ok (.str (ws (List.replicate 201 122))) c := (m2_ok (x := .str "z") (y := .int 201) (c1 := c) (c2 := c) rfl rfl).trans (z_ok 201 (by decide) (by decide) (by decide +kernel))
    refine mfn (acons q anil) rfl ((is_word_str (fun ch h => ?_) (by simp)).trans ?_)
    · rw [(List.mem_replicate.mp h).2]; decide
    · rw [decide_eq_false (by simp)]
      rfl
  have i8 : mFn 2 F_is_word [(.int 200)] (aCons (mC (.str "")) (aNil)) [o0, some (.cell 0), o2, o3, o4, o5, o6, o7, some (.int (n : Int)), some (.str (ws l)), some (.str (ws [d])), some (.int (k : Int)), o12, o13, o14, o15, o16, o17, o18, o19] c = .ok (.bl true) c :=
    mfn (acons (x := .str (ws [])) (c1 := c) rfl anil) rfl ((is_word_str (fun ch h => by cases h) (by simp)).trans rfl)
  exact sasg (i := 12) (mlst_ok (acons i1 (acons i2 (acons i3 (acons i4 (acons i5 (acons i6 (acons i7 (acons i8 anil)))))))) (by simp))
theorem t11 : T11 [o0, some (.cell 0), o2, o3, o4, o5, o6, o7, o8, o9, o10, o11, o12, o13, o14, o15, o16, o17, o18, o19] c = .nx [o0, some (.cell 0), o2, o3, o4, o5, o6, o7, o8, o9, o10, o11, o12, o13, o14, o15, o16, o17, o18, o19] c := by
  have q1 : mB (m2 gNe (mLc [7] (mIt (mLst (aCons (mC .non) (aCons (mC (.bl true)) (aCons (mC (.int 3)) (aCons (mTup (aCons (mC (.str "a")) (aNil))) (aCons (mLst (aCons (mC (.str "a")) (aNil))) (aNil)))))))) (gNm 7) (tYesD) (mFn 2 F_is_word [(.int 200)] (aCons (mVar 7) (aNil)))) (m2 gMul (mLst (aCons (mC (.bl false)) (aNil))) (mC (.int 5)))) [o0, some (.cell 0), o2, o3, o4, o5, o6, o7, o8, o9, o10, o11, o12, o13, o14, o15, o16, o17, o18, o19] c = .ok false c := by rfl
  have n1 : F_is_alphabet [.non] c = .ok (.bl false) c := by rfl
  have n2 : F_is_alphabet [.bl true] c = .ok (.bl false) c := by rfl
  have n3 : F_is_alphabet [.str ""] c = .ok (.bl false) c := (is_alphabet_str (l := []) (fun ch h => by cases h) (by decide)).trans (by rw [decide_eq_false (by simp)])
  have n4 : F_is_alphabet [.str "A"] c = .ok (.bl false) c := (is_alphabet_str (l := [65]) (by decide) (by decide)).trans (by rw [decide_eq_false (by rintro ⟨_, h, _⟩; exact absurd h (by decide +kernel))])
  have n5 : F_is_alphabet [.tup [.str "a"]] c = .ok (.bl false) c := by rfl
  have n6 : F_is_alphabet [.lst [.str "a"]] c = .ok (.bl false) c := by rfl
  have n7 : F_is_alphabet [.str "abcd"] c = .ok (.bl false) c := (is_alphabet_str (l := [97, 98, 99, 100]) (by decide) (by decide)).trans (by rw [decide_eq_false (by rintro ⟨h, _⟩; exact absurd h (by decide))])
  have n8 : F_is_alphabet [.str "a b"] c = .ok (.bl false) c := (is_alphabet_str (l := [97, 32, 98]) (by decide) (by decide)).trans (by rw [decide_eq_false (by rintro ⟨_, h, _⟩; exact absurd h (by decide +kernel))])
  have n9 : F_is_alphabet [.str "a1"] c = .ok (.bl false) c := (is_alphabet_str (l := [97, 49]) (by decide) (by decide)).trans (by rw [decide_eq_false (by rintro ⟨_, h, _⟩; exact absurd h (by decide +kernel))])
  have q2 : mB (m2 gNe (mLc [7] (mIt (mLst (aCons (mC .non) (aCons (mC (.bl true)) (aCons (mC (.str "")) (aCons (mC (.str "A")) (aCons (mTup (aCons (mC (.str "a")) (aNil))) (aCons (mLst (aCons (mC (.str "a")) (aNil))) (aCons (mC (.str "abcd")) (aCons (mC (.str "a b")) (aCons (mC (.str "a1")) (aNil)))))))))))) (gNm 7) (tYesD) (mFn 1 F_is_alphabet [] (aCons (mVar 7) (aNil)))) (m2 gMul (mLst (aCons (mC (.bl false)) (aNil))) (mC (.int 9)))) [o0, some (.cell 0), o2, o3, o4, o5, o6, o7, o8, o9, o10, o11, o12, o13, o14, o15, o16, o17, o18, o19] c = .ok false c := by
    have q3 : lcL (gNm 7) tYesD (mFn 1 F_is_alphabet [] (aCons (mVar 7) (aNil))) [o0, some (.cell 0), o2, o3, o4, o5, o6, none, o8, o9, o10, o11, o12, o13, o14, o15, o16, o17, o18, o19] [.non, .bl true, .str "", .str "A", .tup [.str "a"], .lst [.str "a"], .str "abcd", .str "a b", .str "a1"] c = .ok ([.non, .bl true, .str "", .str "A", .tup [.str "a"], .lst [.str "a"], .str "abcd", .str "a b", .str "a1"].map fun _ : D => D.bl false) c := by
      refine lcL_ok _ fun d hd => ⟨_, rfl, ?_⟩
      refine mfn (ds := [d]) (acons (x := d) (c1 := c) rfl anil) rfl ?_
      simp only [List.mem_cons, List.not_mem_nil, or_false] at hd
      rcases hd with rfl | rfl | rfl | rfl | rfl | rfl | rfl | rfl | rfl <;> assumption
    have q4 : mLc [7] (mIt (mLst (aCons (mC .non) (aCons (mC (.bl true)) (aCons (mC (.str "")) (aCons (mC (.str "A")) (aCons (mTup (aCons (mC (.str "a")) (aNil))) (aCons (mLst (aCons (mC (.str "a")) (aNil))) (aCons (mC (.str "abcd")) (aCons (mC (.str "a b")) (aCons (mC (.str "a1")) (aNil)))))))))))) (gNm 7) (tYesD) (mFn 1 F_is_alphabet [] (aCons (mVar 7) (aNil))) [o0, some (.cell 0), o2, o3, o4, o5, o6, o7, o8, o9, o10, o11, o12, o13, o14, o15, o16, o17, o18, o19] c = .ok (.lst ([.non, .bl true, .str "", .str "A", .tup [.str "a"], .lst [.str "a"], .str "abcd", .str "a b", .str "a1"].map fun _ : D => D.bl false)) c := by
      show ((lcL (gNm 7) tYesD (mFn 1 F_is_alphabet [] (aCons (mVar 7) (aNil))) [o0, some (.cell 0), o2, o3, o4, o5, o6, none, o8, o9, o10, o11, o12, o13, o14, o15, o16, o17, o18, o19] [.non, .bl true, .str "", .str "A", .tup [.str "a"], .lst [.str "a"], .str "abcd", .str "a b", .str "a1"] c).bind fun xs c => R.ok (D.lst xs) c) = _
      rw [q3]
      rfl
    exact mb_ok ((m2_ok q4 (y := .lst (List.replicate 9 (.bl false))) (c2 := c) rfl).trans rfl)
  exact (sif_f (mor_f q1 q2)).trans rfl
end
end K02
end

set_option linter.all false
set_option maxRecDepth 100000
set_option maxHeartbeats 4000000
noncomputable section
namespace K02
open PySem L2 Evl T
section
variable {r c : Cs} {o0 o2 o3 o4 o5 o6 o7 o8 o9 o10 o11 o12 o13 o14 o15 o16 o17 o18 o19 : Option D}
theorem rev_ws (l : List Nat) : (⟨(ws l).cps.reverse⟩ : Str) = ws l.reverse := by
  apply PySem.W.str_of_cps
  show (ws l).cps.reverse.toList = _
  rw [Array.toList_reverse, ws_cps, ws_cps]
theorem t12 {al : List Nat} (ha : AlOk al) : T12 [o0, some (.cell 0), o2, some (.str (ws al)), o4, o5, o6, o7, o8, o9, o10, o11, o12, o13, o14, o15, o16, o17, o18, o19] c = .nx [o0, some (.cell 0), o2, some (.str (ws al)), o4, o5, o6, o7, o8, o9, o10, o11, o12, o13, o14, o15, o16, o17, o18, o19] c := by
  have sm : ∀ ch ∈ al, ch < 1000 := fun ch h => by have := ha.lt ch h; omega
  have fw := ha.few
  have ps := ha.pos
  have lt : al.all LS.cps.contains = true := by rw [List.all_eq_true]; exact ha.ls
  have ne : al ≠ [] := fun z => by rw [z] at ps; simp at ps
  have i1 : mFn 1 F_is_alphabet [] (aCons (mVar 3) (aNil)) [o0, some (.cell 0), o2, some (.str (ws al)), o4, o5, o6, o7, o8, o9, o10, o11, o12, o13, o14, o15, o16, o17, o18, o19] c = .ok (.bl true) c :=
    mfn (acons (x := .str (ws al)) (c1 := c) rfl anil) rfl ((is_alphabet_str sm (by omega)).trans (by rw [decide_eq_true ⟨fw, lt, ne, ha.inc⟩]))
  have i2 : mFn 1 F_is_alphabet [] (aCons (m1 revS (mVar 3)) (aNil)) [o0, some (.cell 0), o2, some (.str (ws al)), o4, o5, o6, o7, o8, o9, o10, o11, o12, o13, o14, o15, o16, o17, o18, o19] c = .ok (.bl ((al.length : Int) == 1)) c := by
    have q : m1 revS (mVar 3) [o0, some (.cell 0), o2, some (.str (ws al)), o4, o5, o6, o7, o8, o9, o10, o11, o12, o13, o14, o15, o16, o17, o18, o19] c = .ok (.str (ws al.reverse)) c := by
      refine (m1_ok (x := .str (ws al)) (c1 := c) rfl).trans ?_
      show (if (ws al).length ≤ 1000000 then R.ok (D.str ⟨(ws al).cps.reverse⟩) c else .bad) = _
      rw [if_pos (by rw [ws_len]; omega), rev_ws]
    refine mfn (acons q anil) rfl ((is_alphabet_str (fun ch h => sm ch (List.mem_reverse.mp h)) (by rw [List.length_reverse]; omega)).trans ?_)
    have e : decide (al.reverse.length ≤ 3 ∧ al.reverse.all LS.cps.contains = true ∧ al.reverse ≠ [] ∧ al.reverse.Pairwise (· < ·)) = ((al.length : Int) == 1) := by
      match al, ha, fw, ps, lt, ne with
      | [x], ha, fw, ps, lt, ne =>
        rw [decide_eq_true ⟨by simp, by simpa using lt, by simp, by simp⟩]
        rfl
      | x :: y :: l, ha, fw, ps, lt, ne =>
        have h1 : x < y := (List.pairwise_cons.mp ha.inc).1 y List.mem_cons_self
        rw [decide_eq_false]
        · have : ¬ (((x :: y :: l).length : Int) = 1) := by simp; omega
          simp only [beq_eq_false_iff_ne.mpr this]
        · rintro ⟨_, _, _, h⟩
          rw [List.pairwise_reverse] at h
          have := (List.pairwise_cons.mp h).1 y List.mem_cons_self
          omega
    rw [e]
  have i3 : mFn 1 F_is_alphabet [] (aCons (m2 gAdd (m2 gIx (mVar 3) (mC (.int 0))) (mVar 3)) (aNil)) [o0, some (.cell 0), o2, some (.str (ws al)), o4, o5, o6, o7, o8, o9, o10, o11, o12, o13, o14, o15, o16, o17, o18, o19] c = .ok (.bl false) c := by
    obtain ⟨x, l, rfl⟩ : ∃ x l, al = x :: l := by
      cases al with
      | nil => exact absurd rfl ne
      | cons x l => exact ⟨x, l, rfl⟩
    have q1 : m2 gIx (mVar 3) (mC (.int 0)) [o0, some (.cell 0), o2, some (.str (ws (x :: l))), o4, o5, o6, o7, o8, o9, o10, o11, o12, o13, o14, o15, o16, o17, o18, o19] c = .ok (.str (ws [x])) c :=
      (op_c (x := .str (ws (x :: l))) rfl).trans (gix_str (j := 0) (by rw [ws_cps]; rfl) (by rw [ws_len]; omega))
    have q2 := (m2_ok (g := gAdd) (f2 := mVar 3) (y := .str (ws (x :: l))) (c2 := c) q1 rfl).trans (gadd_str (by simp; simp at fw; omega))
    refine mfn (acons q2 anil) rfl ((is_alphabet_str (fun ch h => ?_) (by simp; simp at fw; omega)).trans ?_)
    · rcases List.mem_append.mp h with h | h
      · rw [List.mem_singleton.mp h]; exact sm x List.mem_cons_self
      · exact sm ch h
    · rw [decide_eq_false]
      rintro ⟨_, _, _, h⟩
      have := (List.pairwise_cons.mp (show ([x] ++ x :: l).Pairwise (· < ·) from h)).1 x List.mem_cons_self
      omega
  have i4 : m2 gEq (mCall (one gLen) (aCons (mVar 3) (aNil))) (mC (.int 1)) [o0, some (.cell 0), o2, some (.str (ws al)), o4, o5, o6, o7, o8, o9, o10, o11, o12, o13, o14, o15, o16, o17, o18, o19] c = .ok (.bl ((al.length : Int) == 1)) c := by
    refine (op_c (x := .int (al.length : Int)) ((mcall (acons (x := .str (ws al)) (c1 := c) rfl anil)).trans ?_)).trans (geq_int _ _ _)
    rw [glen_str (by rw [ws_len]; omega), ws_len]
  exact (sif_f (mnot_ok (mb_ok (mfn (acons (mlst_ok (acons i1 (acons i2 (acons i3 anil))) (by simp)) (acons (mlst_ok (acons (x := .bl true) (c1 := c) rfl (acons i4 (acons (x := .bl false) (c1 := c) rfl anil))) (by simp)) anil)) rfl (like_3 _))))).trans rfl
theorem t16 {w : Int} (h0 : 0 ≤ w) (h : w ≤ 3) : T16 [o0, some (.cell 0), o2, o3, o4, o5, o6, o7, o8, o9, o10, o11, o12, o13, o14, some (.int w), o16, o17, o18, o19] c = .nx [o0, some (.cell 0), o2, o3, o4, o5, o6, o7, o8, o9, o10, o11, o12, o13, o14, some (.int w), some (.lst [.int 1, .int (1 + w), .int (1 + w + w * w), .int (1 + w + w * w + w * w * w)]), o17, o18, o19] c := by
  have sw : small w = true := small_of (by omega) (by omega)
  have ww : m2 gMul (mVar 15) (mVar 15) [o0, some (.cell 0), o2, o3, o4, o5, o6, o7, o8, o9, o10, o11, o12, o13, o14, some (.int w), o16, o17, o18, o19] c = .ok (.int (w * w)) c := (m2_ok (x := .int w) (y := .int w) (c1 := c) (c2 := c) rfl rfl).trans (gmul_r sw)
  have www : m2 gMul (m2 gMul (mVar 15) (mVar 15)) (mVar 15) [o0, some (.cell 0), o2, o3, o4, o5, o6, o7, o8, o9, o10, o11, o12, o13, o14, some (.int w), o16, o17, o18, o19] c = .ok (.int (w * w * w)) c := (m2_ok (y := .int w) (c2 := c) ww rfl).trans (gmul_r sw)
  have a1 : m2 gAdd (mC (.int 1)) (mVar 15) [o0, some (.cell 0), o2, o3, o4, o5, o6, o7, o8, o9, o10, o11, o12, o13, o14, some (.int w), o16, o17, o18, o19] c = .ok (.int (1 + w)) c := rfl
  have a2 := (m2_ok (g := gAdd) a1 ww).trans gadd_int
  have a3 := (m2_ok (g := gAdd) a2 www).trans gadd_int
  exact sasg (i := 16) (mlst_ok (acons (x := .int 1) (c1 := c) rfl (acons a1 (acons a2 (acons a3 anil)))) (by simp))
theorem t17 {al : List Nat} {m n : Nat} (hm : m ≤ 3) (hc : c[n]? = some (CO.lst (tD (upto al m)))) :
    T17 [o0, some (.cell 0), o2, o3, o4, o5, o6, o7, o8, o9, o10, o11, o12, some (.int (m : Int)), some (.cell n), o15, some (.lst [.int 1, .int (1 + al.length), .int (1 + al.length + al.length * al.length), .int (1 + al.length + al.length * al.length + al.length * al.length * al.length)]), o17, o18, o19] c =
      .nx [o0, some (.cell 0), o2, o3, o4, o5, o6, o7, o8, o9, o10, o11, o12, some (.int (m : Int)), some (.cell n), o15, some (.lst [.int 1, .int (1 + al.length), .int (1 + al.length + al.length * al.length), .int (1 + al.length + al.length * al.length + al.length * al.length * al.length)]), o17, o18, o19] c := by
  have q1 : mCall (two gIsi) (aCons (mVar 14) (aCons (mC (.ty "list")) (aNil))) [o0, some (.cell 0), o2, o3, o4, o5, o6, o7, o8, o9, o10, o11, o12, some (.int (m : Int)), some (.cell n), o15, some (.lst [.int 1, .int (1 + al.length), .int (1 + al.length + al.length * al.length), .int (1 + al.length + al.length * al.length + al.length * al.length * al.length)]), o17, o18, o19] c = .ok (.bl true) c := by
    refine (mcall (acons (x := .cell n) (c1 := c) rfl (acons (x := .ty "list") (c1 := c) rfl anil))).trans ?_
    show gIsi (.cell n) (.ty "list") c = _
    unfold gIsi
    have e : tagD (.cell n) c = some "list" := by
      show (match c[n]? with | some (.lst _) => some "list" | none => none) = _
      rw [hc]
    rw [e]
    rfl
  have q2 : m2 gNe (mCall (one gLen) (aCons (mVar 14) (aNil))) (m2 gIx (mVar 16) (mVar 13)) [o0, some (.cell 0), o2, o3, o4, o5, o6, o7, o8, o9, o10, o11, o12, some (.int (m : Int)), some (.cell n), o15, some (.lst [.int 1, .int (1 + al.length), .int (1 + al.length + al.length * al.length), .int (1 + al.length + al.length * al.length + al.length * al.length * al.length)]), o17, o18, o19] c = .ok (.bl false) c := by
    have l : m2 gIx (mVar 16) (mVar 13) [o0, some (.cell 0), o2, o3, o4, o5, o6, o7, o8, o9, o10, o11, o12, some (.int (m : Int)), some (.cell n), o15, some (.lst [.int 1, .int (1 + al.length), .int (1 + al.length + al.length * al.length), .int (1 + al.length + al.length * al.length + al.length * al.length * al.length)]), o17, o18, o19] c = .ok (.int ((tD (upto al m)).length : Int)) c := by
      refine (m2_ok (x := .lst [.int 1, .int (1 + al.length), .int (1 + al.length + al.length * al.length), .int (1 + al.length + al.length * al.length + al.length * al.length * al.length)]) (y := .int (m : Int)) (c1 := c) (c2 := c) rfl rfl).trans (gix_at ?_)
      rw [List.length_map]
      have hm' : m = 0 ∨ m = 1 ∨ m = 2 ∨ m = 3 := by omega
      rcases hm' with rfl | rfl | rfl | rfl
      · rfl
      · simp [upto, lev_len]; omega
      · simp [upto, lev_len, Nat.pow_succ]; omega
      · simp [upto, lev_len, Nat.pow_succ]; omega
    exact (m2_ok (x := .int ((tD (upto al m)).length : Int)) (c1 := c) ((mcall (acons (x := .cell n) (c1 := c) rfl anil)).trans (glen_cell hc)) l).trans (gne_int _)
  have q3 : m2 gNe (m2 gIx (mVar 14) (mC (.int 0))) (mC (.str "")) [o0, some (.cell 0), o2, o3, o4, o5, o6, o7, o8, o9, o10, o11, o12, some (.int (m : Int)), some (.cell n), o15, some (.lst [.int 1, .int (1 + al.length), .int (1 + al.length + al.length * al.length), .int (1 + al.length + al.length * al.length + al.length * al.length * al.length)]), o17, o18, o19] c = .ok (.bl false) c := by
    obtain ⟨R, hR⟩ := upto_head al m
    rw [hR] at hc
    refine (op_c (x := .str (ws [])) ((op_c (x := .cell n) rfl).trans (gix_cell hc))).trans ?_
    unfold gNe
    rw [eqD_str _ _ (okS_ws fun ch h => by cases h) ok_nil]
    have : decide (ws [] = ("" : Str)) = true := decide_eq_true (by rfl)
    rw [this]
    rfl
  exact (sif_f (mor_f (mnot_ok (mb_ok q1)) (mor_f (mb_ok q2) (mb_ok q3)))).trans rfl
theorem up40 {al : List Nat} {m : Nat} (ha : AlOk al) (hm : m ≤ 3) : (upto al m).length ≤ 64 := by
  have := upto_le ha.few m
  have h2 : (4 : Nat) ^ m ≤ 4 ^ 3 := Nat.pow_le_pow_right (by decide) hm
  omega
def pr2 : D → D
  | .str x => D.tup [.int (x.length : Int), .str x]
  | _ => D.non
def ln2 : D → D
  | .str x => D.int (x.length : Int)
  | _ => D.non
theorem t18 {al : List Nat} {m n : Nat} (ha : AlOk al) (hm : m ≤ 3) (hc : c[n]? = some (CO.lst (tD (upto al m)))) : T18 [o0, some (.cell 0), o2, o3, o4, o5, o6, o7, o8, o9, o10, o11, o12, o13, some (.cell n), o15, o16, o17, o18, o19] c = .nx [o0, some (.cell 0), o2, o3, o4, o5, o6, o7, o8, o9, o10, o11, o12, o13, some (.cell n), o15, o16, some (.lst (List.map (fun p : Int × Str => D.tup [.int p.1, .str p.2]) ((upto al m).map fun w => ((w.length : Int), ws w)))), o18, o19] c := by
  refine sasg (i := 17) ((mlcC_ok (n := n) (h := pr2) rfl hc (by rw [List.length_map]; have := up40 ha hm; omega) fun d hd => ?_).trans ?_)
  · obtain ⟨w, hw, rfl⟩ := List.mem_map.mp hd
    have hl := (upto_word al m w hw).1
    refine ⟨_, rfl, ?_⟩
    exact mtup_ok (acons ((mcall (acons (x := .str (ws w)) (c1 := c) rfl anil)).trans (glen_str (by rw [ws_len]; omega))) (acons (x := .str (ws w)) (c1 := c) rfl anil)) (by simp)
  · rw [List.map_map, List.map_map]
    have : (pr2 ∘ fun w : List Nat => D.str (ws w)) = ((fun p : Int × Str => D.tup [.int p.1, .str p.2]) ∘ fun w : List Nat => ((w.length : Int), ws w)) := by
      funext w
      show D.tup [.int ((ws w).length : Int), .str (ws w)] = D.tup [.int (w.length : Int), .str (ws w)]
      rw [ws_len]
    rw [this]
theorem t20 {al : List Nat} {m n : Nat} (ha : AlOk al) (hm : m ≤ 3) (hc : c[n]? = some (CO.lst (tD (upto al m)))) : T20 [o0, some (.cell 0), o2, o3, o4, o5, o6, o7, o8, o9, o10, o11, o12, some (.int (m : Int)), some (.cell n), o15, o16, o17, o18, o19] c = .nx [o0, some (.cell 0), o2, o3, o4, o5, o6, o7, o8, o9, o10, o11, o12, some (.int (m : Int)), some (.cell n), o15, o16, o17, o18, o19] c := by
  have q1 : mLcC [18] (mVar 14) (gNm 18) (tYesD) (mCall (one gLen) (aCons (mVar 18) (aNil))) [o0, some (.cell 0), o2, o3, o4, o5, o6, o7, o8, o9, o10, o11, o12, some (.int (m : Int)), some (.cell n), o15, o16, o17, o18, o19] c = .ok (.lst ((upto al m).map fun w => D.int (w.length : Int))) c := by
    refine (mlcC_ok (n := n) (h := ln2) rfl hc (by rw [List.length_map]; have := up40 ha hm; omega) fun d hd => ?_).trans ?_
    · obtain ⟨w, hw, rfl⟩ := List.mem_map.mp hd
      have hl := (upto_word al m w hw).1
      exact ⟨_, rfl, (mcall (acons (x := .str (ws w)) (c1 := c) rfl anil)).trans (glen_str (by rw [ws_len]; omega))⟩
    · rw [List.map_map]
      have : (ln2 ∘ fun w : List Nat => D.str (ws w)) = fun w : List Nat => D.int (w.length : Int) := by
        funext w
        show D.int ((ws w).length : Int) = _
        rw [ws_len]
      rw [this]
  have q2 : mCall (one gMaxL) (aCons (mLcC [18] (mVar 14) (gNm 18) (tYesD) (mCall (one gLen) (aCons (mVar 18) (aNil)))) (aNil)) [o0, some (.cell 0), o2, o3, o4, o5, o6, o7, o8, o9, o10, o11, o12, some (.int (m : Int)), some (.cell n), o15, o16, o17, o18, o19] c = .ok (.int m) c := by
    refine (mcall (acons q1 anil)).trans (max_ok (fun w hw => (upto_word al m w hw).1) ?_)
    have hp : 0 < (lev al m).length := by rw [lev_len]; exact Nat.pow_pos ha.pos
    have hm2 := List.getElem_mem hp
    exact ⟨_, lev_in al m _ hm2, (lev_word al m _ hm2).1⟩
  exact (sif_f (mb_ok ((m2_ok (y := .int m) (c2 := c) q2 rfl).trans (gne_int _)))).trans rfl
theorem t21 {al : List Nat} {m n : Nat} (ha : AlOk al) (hm : m ≤ 3) (hc : c[n]? = some (CO.lst (tD (upto al m)))) : T21 [o0, some (.cell 0), o2, o3, o4, o5, o6, o7, o8, o9, o10, o11, o12, o13, some (.cell n), o15, o16, o17, o18, o19] c = .nx [o0, some (.cell 0), o2, o3, o4, o5, o6, o7, o8, o9, o10, o11, o12, o13, some (.cell n), o15, o16, o17, o18, o19] (c.set n (.lst (tD (upto al m) ++ [D.str "x"]))) := by
  refine sdrop (d := .non) ?_
  have l1 : isLstD (.cell n) c = true := by
    show (match c[n]? with | some (.lst _) => true | none => false) = true
    rw [hc]
  show (if isLstD (.cell n) c then gApp (.cell n) [D.str "x"] c else .bad) = _
  rw [if_pos l1]
  show (match c[n]? with | some (.lst xs) => if xs.length < 1000000 then R.ok D.non (c.set n (CO.lst (xs ++ [D.str "x"]))) else .bad | none => .bad) = _
  rw [hc]
  simp only
  rw [if_pos (by rw [List.length_map]; have := up40 ha hm; omega)]
theorem t22 {al : List Nat} {m n : Nat} (ha : AlOk al) (hm : m ≤ 3) (hc : c[n]? = some (CO.lst (tD (upto al m) ++ [D.str "x"]))) : T22 [o0, some (.cell 0), o2, some (.str (ws al)), o4, o5, o6, o7, o8, o9, o10, o11, o12, some (.int (m : Int)), some (.cell n), o15, o16, o17, o18, o19] c = .nx [o0, some (.cell 0), o2, some (.str (ws al)), o4, o5, o6, o7, o8, o9, o10, o11, o12, some (.int (m : Int)), some (.cell n), o15, o16, o17, o18, o19] (c ++ [.lst (tD (upto al m))]) := by
  have q1 : mKw 2 2 (fun l => [l.getD 1 D.non, l.getD 0 D.non]) F_words_of (aCons (mVar 13) (aCons (mVar 3) (aNil))) [o0, some (.cell 0), o2, some (.str (ws al)), o4, o5, o6, o7, o8, o9, o10, o11, o12, some (.int (m : Int)), some (.cell n), o15, o16, o17, o18, o19] c = .ok (.cell c.length) (c ++ [.lst (tD (upto al m))]) := by
    unfold mKw
    rw [mcall (acons (x := .int m) (c1 := c) rfl (acons (x := .str (ws al)) (c1 := c) rfl anil))]
    show (if 2 = 2 ∧ 2 = 2 then (F_words_of [.str (ws al), .int m] c).ne else .bad) = _
    rw [if_pos ⟨rfl, rfl⟩, words_ok ha.few m hm]
    rfl
  have q2 : mCall (one gLen) (aCons (mKw 2 2 (fun l => [l.getD 1 D.non, l.getD 0 D.non]) F_words_of (aCons (mVar 13) (aCons (mVar 3) (aNil)))) (aNil)) [o0, some (.cell 0), o2, some (.str (ws al)), o4, o5, o6, o7, o8, o9, o10, o11, o12, some (.int (m : Int)), some (.cell n), o15, o16, o17, o18, o19] c = .ok (.int ((tD (upto al m)).length : Int)) (c ++ [.lst (tD (upto al m))]) :=
    (mcall (acons q1 anil)).trans (glen_cell (at_end' _ _))
  have hn : n < c.length := (List.getElem?_eq_some_iff.mp hc).1
  have q3 : m2 gSub (mCall (one gLen) (aCons (mVar 14) (aNil))) (mC (.int 1)) [o0, some (.cell 0), o2, some (.str (ws al)), o4, o5, o6, o7, o8, o9, o10, o11, o12, some (.int (m : Int)), some (.cell n), o15, o16, o17, o18, o19] (c ++ [.lst (tD (upto al m))]) = .ok (.int ((tD (upto al m)).length : Int)) (c ++ [.lst (tD (upto al m))]) := by
    have q4 : mCall (one gLen) (aCons (mVar 14) (aNil)) [o0, some (.cell 0), o2, some (.str (ws al)), o4, o5, o6, o7, o8, o9, o10, o11, o12, some (.int (m : Int)), some (.cell n), o15, o16, o17, o18, o19] (c ++ [.lst (tD (upto al m))]) = .ok (.int ((tD (upto al m) ++ [D.str "x"]).length : Int)) (c ++ [.lst (tD (upto al m))]) := by
      refine (mcall (acons (x := .cell n) (c1 := c ++ [.lst (tD (upto al m))]) rfl anil)).trans (glen_cell ?_)
      rw [List.getElem?_append_left hn]
      exact hc
    refine (op_c q4).trans ?_
    rw [gsub_int, List.length_append]
    congr 2
    simp
  exact (sif_f (mb_ok ((m2_ok q2 q3).trans (gne_int _)))).trans rfl
end
end K02
end

set_option linter.all false
set_option maxRecDepth 100000
set_option maxHeartbeats 4000000
noncomputable section
namespace K02
open PySem L2 Evl T
section
variable {r c : Cs} {o0 o2 o3 o4 o5 o6 o7 o8 o9 o10 o11 o12 o13 o14 o15 o16 o17 o18 o19 : Option D}
theorem tD_str (L : List (List Nat)) : tD L = (L.map ws).map D.str := by rw [List.map_map]; rfl
theorem t19 {al : List Nat} {m n : Nat} (ha : AlOk al) (hm : m ≤ 3) (hc : c[n]? = some (CO.lst (tD (upto al m)))) : T19 [o0, some (.cell 0), o2, some (.str (ws al)), o4, o5, o6, o7, o8, o9, o10, o11, o12, o13, some (.cell n), o15, o16, some (.lst (List.map (fun p : Int × Str => D.tup [.int p.1, .str p.2]) ((upto al m).map fun w => ((w.length : Int), ws w)))), o18, o19] c = .nx [o0, some (.cell 0), o2, some (.str (ws al)), o4, o5, o6, o7, o8, o9, o10, o11, o12, o13, some (.cell n), o15, o16, some (.lst (List.map (fun p : Int × Str => D.tup [.int p.1, .str p.2]) ((upto al m).map fun w => ((w.length : Int), ws w)))), o18, o19] c := by
  have h64 := up40 ha hm
  have sm : ∀ w ∈ upto al m, ∀ ch ∈ w, ch < 1000 := fun w hw ch h => by
    have := ha.lt ch ((upto_word al m w hw).2 ch h)
    omega
  have q1 : m2 gNe (mVar 17) (mCall (one gSorted) (aCons (mVar 17) (aNil))) [o0, some (.cell 0), o2, some (.str (ws al)), o4, o5, o6, o7, o8, o9, o10, o11, o12, o13, some (.cell n), o15, o16, some (.lst (List.map (fun p : Int × Str => D.tup [.int p.1, .str p.2]) ((upto al m).map fun w => ((w.length : Int), ws w)))), o18, o19] c = .ok (.bl false) c := by
    have e : mCall (one gSorted) (aCons (mVar 17) (aNil)) [o0, some (.cell 0), o2, some (.str (ws al)), o4, o5, o6, o7, o8, o9, o10, o11, o12, o13, some (.cell n), o15, o16, some (.lst (List.map (fun p : Int × Str => D.tup [.int p.1, .str p.2]) ((upto al m).map fun w => ((w.length : Int), ws w)))), o18, o19] c = .ok (.lst (List.map (fun p : Int × Str => D.tup [.int p.1, .str p.2]) ((upto al m).map fun w => ((w.length : Int), ws w)))) c :=
      (mcall (acons (x := .lst (List.map (fun p : Int × Str => D.tup [.int p.1, .str p.2]) ((upto al m).map fun w => ((w.length : Int), ws w)))) (c1 := c) rfl anil)).trans (sorted_ok _ (by rw [List.length_map]; omega) (keys_ok _ (upto_pw ha.inc m)))
    refine (m2_ok (x := .lst (List.map (fun p : Int × Str => D.tup [.int p.1, .str p.2]) ((upto al m).map fun w => ((w.length : Int), ws w)))) (c1 := c) rfl e).trans (ne_pairs _ fun p hp => ?_)
    obtain ⟨w, hw, rfl⟩ := List.mem_map.mp hp
    exact okS_ws (sm w hw)
  have q2 : m2 gNe (m1 gLenSet (mVar 14)) (mCall (one gLen) (aCons (mVar 14) (aNil))) [o0, some (.cell 0), o2, some (.str (ws al)), o4, o5, o6, o7, o8, o9, o10, o11, o12, o13, some (.cell n), o15, o16, some (.lst (List.map (fun p : Int × Str => D.tup [.int p.1, .str p.2]) ((upto al m).map fun w => ((w.length : Int), ws w)))), o18, o19] c = .ok (.bl false) c := by
    have nd : ((upto al m).map ws).Nodup := List.pairwise_map.mpr ((upto_nd ha.inc m).imp fun h e => h (ws_inj e))
    have e1 : m1 gLenSet (mVar 14) [o0, some (.cell 0), o2, some (.str (ws al)), o4, o5, o6, o7, o8, o9, o10, o11, o12, o13, some (.cell n), o15, o16, some (.lst (List.map (fun p : Int × Str => D.tup [.int p.1, .str p.2]) ((upto al m).map fun w => ((w.length : Int), ws w)))), o18, o19] c = .ok (.int ((tD (upto al m)).length : Int)) c := by
      refine (m1_ok (x := .cell n) (c1 := c) rfl).trans ?_
      unfold gLenSet
      have s1 : seqD (.cell n) c = some (tD (upto al m)) := by
        show (match c[n]? with | some (.lst ds) => some ds | none => none) = _
        rw [hc]
      rw [s1]
      simp only [Option.bind]
      rw [tD_str, strsD_map]
      simp only
      rw [if_pos (by rw [List.length_map]; omega)]
      have : (dd ((upto al m).map ws)).length = ((upto al m).map ws).length := ((dd_perm nd fun y => Iff.rfl).length_eq).symm
      rw [this, List.length_map, List.length_map, List.length_map]
    have e2 : mCall (one gLen) (aCons (mVar 14) (aNil)) [o0, some (.cell 0), o2, some (.str (ws al)), o4, o5, o6, o7, o8, o9, o10, o11, o12, o13, some (.cell n), o15, o16, some (.lst (List.map (fun p : Int × Str => D.tup [.int p.1, .str p.2]) ((upto al m).map fun w => ((w.length : Int), ws w)))), o18, o19] c = .ok (.int ((tD (upto al m)).length : Int)) c := (mcall (acons (x := .cell n) (c1 := c) rfl anil)).trans (glen_cell hc)
    exact (m2_ok e1 e2).trans (gne_int _)
  have q3 : mCall (one gAll) (aCons (mLcC [18] (mVar 14) (gNm 18) (tYesD) (mAndV (mCall (two gIsi) (aCons (mVar 18) (aCons (mC (.ty "str")) (aNil)))) (mCall (one gAll) (aCons (mLc [19] (mItS (mVar 18)) (gNm 19) (tYesD) (m2 gInS (mVar 19) (mVar 3))) (aNil))))) (aNil)) [o0, some (.cell 0), o2, some (.str (ws al)), o4, o5, o6, o7, o8, o9, o10, o11, o12, o13, some (.cell n), o15, o16, some (.lst (List.map (fun p : Int × Str => D.tup [.int p.1, .str p.2]) ((upto al m).map fun w => ((w.length : Int), ws w)))), o18, o19] c = .ok (.bl true) c := by
    have e1 : mLcC [18] (mVar 14) (gNm 18) (tYesD) (mAndV (mCall (two gIsi) (aCons (mVar 18) (aCons (mC (.ty "str")) (aNil)))) (mCall (one gAll) (aCons (mLc [19] (mItS (mVar 18)) (gNm 19) (tYesD) (m2 gInS (mVar 19) (mVar 3))) (aNil)))) [o0, some (.cell 0), o2, some (.str (ws al)), o4, o5, o6, o7, o8, o9, o10, o11, o12, o13, some (.cell n), o15, o16, some (.lst (List.map (fun p : Int × Str => D.tup [.int p.1, .str p.2]) ((upto al m).map fun w => ((w.length : Int), ws w)))), o18, o19] c = .ok (.lst ((tD (upto al m)).map fun _ => D.bl true)) c := by
      refine mlcC_ok (n := n) rfl hc (by rw [List.length_map]; omega) fun d hd => ?_
      obtain ⟨w, hw, rfl⟩ := List.mem_map.mp hd
      have hl := (upto_word al m w hw).1
      refine ⟨[o0, some (.cell 0), o2, some (.str (ws al)), o4, o5, o6, o7, o8, o9, o10, o11, o12, o13, some (.cell n), o15, o16, some (.lst (List.map (fun p : Int × Str => D.tup [.int p.1, .str p.2]) ((upto al m).map fun w => ((w.length : Int), ws w)))), some (.str (ws w)), o19], rfl, ?_⟩
      refine mand_t (c' := c) rfl ?_
      have e2 : lcL (gNm 19) tYesD (m2 gInS (mVar 19) (mVar 3)) [o0, some (.cell 0), o2, some (.str (ws al)), o4, o5, o6, o7, o8, o9, o10, o11, o12, o13, some (.cell n), o15, o16, some (.lst (List.map (fun p : Int × Str => D.tup [.int p.1, .str p.2]) ((upto al m).map fun w => ((w.length : Int), ws w)))), some (.str (ws w)), none] (signs (ws w)) c = .ok ((signs (ws w)).map fun _ => D.bl true) c := by
        refine lcL_ok _ fun d hd => ?_
        rw [signs_ws] at hd
        obtain ⟨ch, hch, rfl⟩ := List.mem_map.mp hd
        refine ⟨_, rfl, ?_⟩
        refine (m2_ok (x := .str (ws [ch])) (y := .str (ws al)) (c1 := c) (c2 := c) rfl rfl).trans ?_
        show R.ok (D.bl (decide (ch ∈ (ws al).cps.toList))) c = _
        rw [decide_eq_true (by rw [ws_cps]; exact (upto_word al m w hw).2 ch hch)]
      have e3 : mLc [19] (mItS (mVar 18)) (gNm 19) (tYesD) (m2 gInS (mVar 19) (mVar 3)) [o0, some (.cell 0), o2, some (.str (ws al)), o4, o5, o6, o7, o8, o9, o10, o11, o12, o13, some (.cell n), o15, o16, some (.lst (List.map (fun p : Int × Str => D.tup [.int p.1, .str p.2]) ((upto al m).map fun w => ((w.length : Int), ws w)))), some (.str (ws w)), o19] c = .ok (.lst ((signs (ws w)).map fun _ => D.bl true)) c := by
        unfold mLc
        have q : mItS (mVar 18) [o0, some (.cell 0), o2, some (.str (ws al)), o4, o5, o6, o7, o8, o9, o10, o11, o12, o13, some (.cell n), o15, o16, some (.lst (List.map (fun p : Int × Str => D.tup [.int p.1, .str p.2]) ((upto al m).map fun w => ((w.length : Int), ws w)))), some (.str (ws w)), o19] c = .ok (signs (ws w)) c := rfl
        rw [q]
        simp only [R.bind]
        rw [if_pos (by rw [signs_ws, List.length_map]; omega)]
        have q' : wipeD [o0, some (.cell 0), o2, some (.str (ws al)), o4, o5, o6, o7, o8, o9, o10, o11, o12, o13, some (.cell n), o15, o16, some (.lst (List.map (fun p : Int × Str => D.tup [.int p.1, .str p.2]) ((upto al m).map fun w => ((w.length : Int), ws w)))), some (.str (ws w)), o19] [19] = [o0, some (.cell 0), o2, some (.str (ws al)), o4, o5, o6, o7, o8, o9, o10, o11, o12, o13, some (.cell n), o15, o16, some (.lst (List.map (fun p : Int × Str => D.tup [.int p.1, .str p.2]) ((upto al m).map fun w => ((w.length : Int), ws w)))), some (.str (ws w)), none] := rfl
        rw [q', e2]
      refine (mcall (acons e3 anil)).trans ?_
      rw [map_true]
      exact all_true _
    refine (mcall (acons e1 anil)).trans ?_
    rw [map_true]
    exact all_true _
  exact (sif_f (mor_f (mb_ok q1) (mor_f (mb_ok q2) (mnot_ok (mb_ok q3))))).trans rfl

theorem turn_ok (hb : BagOk r c) : ∃ p0 p2 p3 p4 p5 p6 p7 p8 p9 p10 p11 p12 p13 p14 p15 p16 p17 p18 p19 r' c', TT [o0, some (.cell 0), o2, o3, o4, o5, o6, o7, o8, o9, o10, o11, o12, o13, o14, o15, o16, o17, o18, o19] c = .nx [p0, some (.cell 0), p2, p3, p4, p5, p6, p7, p8, p9, p10, p11, p12, p13, p14, p15, p16, p17, p18, p19] c' ∧ BagOk r' c' := by
  obtain ⟨al, a, c1, e1, b1, ha, a1, a2⟩ := t1 (o0 := o0) (o2 := o2) (o3 := o3) (o4 := o4) (o5 := o5) (o6 := o6) (o7 := o7) (o8 := o8) (o9 := o9) (o10 := o10) (o11 := o11) (o12 := o12) (o13 := o13) (o14 := o14) (o15 := o15) (o16 := o16) (o17 := o17) (o18 := o18) (o19 := o19) hb
  obtain ⟨k2, c2, e2, b2, k21, k22⟩ := t2 (o0 := o0) (o2 := o2) (o3 := some (.str (ws al))) (o5 := o5) (o6 := o6) (o7 := o7) (o8 := o8) (o9 := o9) (o10 := o10) (o11 := o11) (o12 := o12) (o13 := o13) (o14 := o14) (o15 := o15) (o16 := o16) (o17 := o17) (o18 := o18) (o19 := o19) (a := a) b1
  obtain ⟨o6', e3⟩ := t3 (c := c2) (o0 := o0) (o2 := o2) (o3 := some (.str (ws al))) (o6 := o6) (o7 := o7) (o8 := o8) (o9 := o9) (o10 := o10) (o11 := o11) (o12 := o12) (o13 := o13) (o14 := o14) (o15 := o15) (o16 := o16) (o17 := o17) (o18 := o18) (o19 := o19) (a := a) (b := a + k2) ⟨a1, a2⟩ ⟨by omega, by omega⟩
  have e4 := t4 (c := c2) (o0 := o0) (o2 := o2) (o3 := some (.str (ws al))) (o4 := some (.int a)) (o5 := some (.int (a + k2))) (o6 := o6') (o7 := o7) (o8 := o8) (o9 := o9) (o10 := o10) (o11 := o11) (o12 := o12) (o13 := o13) (o14 := o14) (o15 := o15) (o16 := o16) (o17 := o17) (o18 := o18) (o19 := o19)
  obtain ⟨n, c5, e5, b5, hn⟩ := t5 (o0 := o0) (o2 := o2) (o3 := some (.str (ws al))) (o4 := some (.int a)) (o5 := some (.int (a + k2))) (o6 := o6') (o7 := o7) (o8 := o8) (o9 := o9) (o10 := o10) (o11 := o11) (o12 := o12) (o13 := o13) (o14 := o14) (o15 := o15) (o16 := o16) (o17 := o17) (o18 := o18) (o19 := o19) b2
  obtain ⟨l, c6, e6, b6, hl, hla⟩ := t6 (o0 := o0) (o2 := o2) (o4 := some (.int a)) (o5 := some (.int (a + k2))) (o6 := o6') (o7 := o7) (o9 := o9) (o10 := o10) (o11 := o11) (o12 := o12) (o13 := o13) (o14 := o14) (o15 := o15) (o16 := o16) (o17 := o17) (o18 := o18) (o19 := o19) (al := al) (n := n) ha hn b5
  obtain ⟨d, c7, e7, b7, hd1, hd2⟩ := t7 (o0 := o0) (o2 := o2) (o3 := some (.str (ws al))) (o4 := some (.int a)) (o5 := some (.int (a + k2))) (o6 := o6') (o7 := o7) (o8 := some (.int (n : Int))) (o9 := some (.str (ws l))) (o10 := o10) (o11 := o11) (o12 := o12) (o13 := o13) (o14 := o14) (o15 := o15) (o16 := o16) (o17 := o17) (o18 := o18) (o19 := o19) b6
  obtain ⟨k, c8, e8, b8, hk⟩ := t8 (o0 := o0) (o2 := o2) (o3 := some (.str (ws al))) (o4 := some (.int a)) (o5 := some (.int (a + k2))) (o6 := o6') (o7 := o7) (o9 := some (.str (ws l))) (o10 := some (.str (ws [d]))) (o11 := o11) (o12 := o12) (o13 := o13) (o14 := o14) (o15 := o15) (o16 := o16) (o17 := o17) (o18 := o18) (o19 := o19) (n := n) hn b7
  have e9 := t9 (c := c8) (o0 := o0) (o2 := o2) (o3 := some (.str (ws al))) (o4 := some (.int a)) (o5 := some (.int (a + k2))) (o6 := o6') (o7 := o7) (o12 := o12) (o13 := o13) (o14 := o14) (o15 := o15) (o16 := o16) (o17 := o17) (o18 := o18) (o19 := o19) (l := l) (n := n) (d := d) (k := k) hl hn (fun ch h => ⟨ha.ls ch (hla ch h), by have := ha.lt ch (hla ch h); omega⟩) hd1 hd2 hk
  have e10 := t10 (c := c8) (o0 := o0) (o2 := o2) (o3 := some (.str (ws al))) (o4 := some (.int a)) (o5 := some (.int (a + k2))) (o6 := o6') (o7 := o7) (o8 := some (.int (n : Int))) (o9 := some (.str (ws l))) (o10 := some (.str (ws [d]))) (o11 := some (.int (k : Int))) (o13 := o13) (o14 := o14) (o15 := o15) (o16 := o16) (o17 := o17) (o18 := o18) (o19 := o19)
  have e11 := t11 (c := c8) (o0 := o0) (o2 := o2) (o3 := some (.str (ws al))) (o4 := some (.int a)) (o5 := some (.int (a + k2))) (o6 := o6') (o7 := o7) (o8 := some (.int (n : Int))) (o9 := some (.str (ws l))) (o10 := some (.str (ws [d]))) (o11 := some (.int (k : Int))) (o12 := some (.lst [.bl true, .bl true, .bl true, .bl false, .bl false, .bl true, .bl false, .bl true])) (o13 := o13) (o14 := o14) (o15 := o15) (o16 := o16) (o17 := o17) (o18 := o18) (o19 := o19)
  have e12 := t12 (c := c8) (o0 := o0) (o2 := o2) (o4 := some (.int a)) (o5 := some (.int (a + k2))) (o6 := o6') (o7 := o7) (o8 := some (.int (n : Int))) (o9 := some (.str (ws l))) (o10 := some (.str (ws [d]))) (o11 := some (.int (k : Int))) (o12 := some (.lst [.bl true, .bl true, .bl true, .bl false, .bl false, .bl true, .bl false, .bl true])) (o13 := o13) (o14 := o14) (o15 := o15) (o16 := o16) (o17 := o17) (o18 := o18) (o19 := o19) (al := al) ha
  obtain ⟨m, c13, e13, b13, hm⟩ := t13 (o0 := o0) (o2 := o2) (o3 := some (.str (ws al))) (o4 := some (.int a)) (o5 := some (.int (a + k2))) (o6 := o6') (o7 := o7) (o8 := some (.int (n : Int))) (o9 := some (.str (ws l))) (o10 := some (.str (ws [d]))) (o11 := some (.int (k : Int))) (o12 := some (.lst [.bl true, .bl true, .bl true, .bl false, .bl false, .bl true, .bl false, .bl true])) (o13 := o13) (o14 := o14) (o15 := o15) (o16 := o16) (o17 := o17) (o18 := o18) (o19 := o19) b8
  have e14 := t14 (c := c13) (o0 := o0) (o2 := o2) (o4 := some (.int a)) (o5 := some (.int (a + k2))) (o6 := o6') (o7 := o7) (o8 := some (.int (n : Int))) (o9 := some (.str (ws l))) (o10 := some (.str (ws [d]))) (o11 := some (.int (k : Int))) (o12 := some (.lst [.bl true, .bl true, .bl true, .bl false, .bl false, .bl true, .bl false, .bl true])) (o14 := o14) (o15 := o15) (o16 := o16) (o17 := o17) (o18 := o18) (o19 := o19) (al := al) (m := m) ha hm
  have b14 := bag_app (CO.lst (tD (upto al m))) b13
  have hc := at_end' c13 (CO.lst (tD (upto al m)))
  have hp := bag_len b13
  have hlen : c13.length < (c13 ++ [CO.lst (tD (upto al m))]).length := by simp
  generalize hc14 : c13 ++ [CO.lst (tD (upto al m))] = c14 at e14 b14 hc hlen
  have e15 := t15 (c := c14) (o0 := o0) (o2 := o2) (o4 := some (.int a)) (o5 := some (.int (a + k2))) (o6 := o6') (o7 := o7) (o8 := some (.int (n : Int))) (o9 := some (.str (ws l))) (o10 := some (.str (ws [d]))) (o11 := some (.int (k : Int))) (o12 := some (.lst [.bl true, .bl true, .bl true, .bl false, .bl false, .bl true, .bl false, .bl true])) (o13 := some (.int (m : Int))) (o14 := some (.cell c13.length)) (o15 := o15) (o16 := o16) (o17 := o17) (o18 := o18) (o19 := o19) (al := al) ha
  have e16 := t16 (c := c14) (o0 := o0) (o2 := o2) (o3 := some (.str (ws al))) (o4 := some (.int a)) (o5 := some (.int (a + k2))) (o6 := o6') (o7 := o7) (o8 := some (.int (n : Int))) (o9 := some (.str (ws l))) (o10 := some (.str (ws [d]))) (o11 := some (.int (k : Int))) (o12 := some (.lst [.bl true, .bl true, .bl true, .bl false, .bl false, .bl true, .bl false, .bl true])) (o13 := some (.int (m : Int))) (o14 := some (.cell c13.length)) (o16 := o16) (o17 := o17) (o18 := o18) (o19 := o19) (w := (al.length : Int)) (by omega) (by have := ha.few; omega)
  have e17 := t17 (c := c14) (o0 := o0) (o2 := o2) (o3 := some (.str (ws al))) (o4 := some (.int a)) (o5 := some (.int (a + k2))) (o6 := o6') (o7 := o7) (o8 := some (.int (n : Int))) (o9 := some (.str (ws l))) (o10 := some (.str (ws [d]))) (o11 := some (.int (k : Int))) (o12 := some (.lst [.bl true, .bl true, .bl true, .bl false, .bl false, .bl true, .bl false, .bl true])) (o15 := some (.int (al.length : Int))) (o17 := o17) (o18 := o18) (o19 := o19) (al := al) (m := m) (n := c13.length) hm hc
  have e18 := t18 (c := c14) (o0 := o0) (o2 := o2) (o3 := some (.str (ws al))) (o4 := some (.int a)) (o5 := some (.int (a + k2))) (o6 := o6') (o7 := o7) (o8 := some (.int (n : Int))) (o9 := some (.str (ws l))) (o10 := some (.str (ws [d]))) (o11 := some (.int (k : Int))) (o12 := some (.lst [.bl true, .bl true, .bl true, .bl false, .bl false, .bl true, .bl false, .bl true])) (o13 := some (.int (m : Int))) (o15 := some (.int (al.length : Int))) (o16 := some (.lst [.int 1, .int (1 + (al.length : Int)), .int (1 + (al.length : Int) + (al.length : Int) * (al.length : Int)), .int (1 + (al.length : Int) + (al.length : Int) * (al.length : Int) + (al.length : Int) * (al.length : Int) * (al.length : Int))])) (o17 := o17) (o18 := o18) (o19 := o19) (al := al) (m := m) (n := c13.length) ha hm hc
  have e19 := t19 (c := c14) (o0 := o0) (o2 := o2) (o4 := some (.int a)) (o5 := some (.int (a + k2))) (o6 := o6') (o7 := o7) (o8 := some (.int (n : Int))) (o9 := some (.str (ws l))) (o10 := some (.str (ws [d]))) (o11 := some (.int (k : Int))) (o12 := some (.lst [.bl true, .bl true, .bl true, .bl false, .bl false, .bl true, .bl false, .bl true])) (o13 := some (.int (m : Int))) (o15 := some (.int (al.length : Int))) (o16 := some (.lst [.int 1, .int (1 + (al.length : Int)), .int (1 + (al.length : Int) + (al.length : Int) * (al.length : Int)), .int (1 + (al.length : Int) + (al.length : Int) * (al.length : Int) + (al.length : Int) * (al.length : Int) * (al.length : Int))])) (o18 := o18) (o19 := o19) (al := al) (m := m) (n := c13.length) ha hm hc
  have e20 := t20 (c := c14) (o0 := o0) (o2 := o2) (o3 := some (.str (ws al))) (o4 := some (.int a)) (o5 := some (.int (a + k2))) (o6 := o6') (o7 := o7) (o8 := some (.int (n : Int))) (o9 := some (.str (ws l))) (o10 := some (.str (ws [d]))) (o11 := some (.int (k : Int))) (o12 := some (.lst [.bl true, .bl true, .bl true, .bl false, .bl false, .bl true, .bl false, .bl true])) (o15 := some (.int (al.length : Int))) (o16 := some (.lst [.int 1, .int (1 + (al.length : Int)), .int (1 + (al.length : Int) + (al.length : Int) * (al.length : Int)), .int (1 + (al.length : Int) + (al.length : Int) * (al.length : Int) + (al.length : Int) * (al.length : Int) * (al.length : Int))])) (o17 := some (.lst (List.map (fun p : Int × Str => D.tup [.int p.1, .str p.2]) ((upto al m).map fun w => ((w.length : Int), ws w))))) (o18 := o18) (o19 := o19) (al := al) (m := m) (n := c13.length) ha hm hc
  have e21 := t21 (c := c14) (o0 := o0) (o2 := o2) (o3 := some (.str (ws al))) (o4 := some (.int a)) (o5 := some (.int (a + k2))) (o6 := o6') (o7 := o7) (o8 := some (.int (n : Int))) (o9 := some (.str (ws l))) (o10 := some (.str (ws [d]))) (o11 := some (.int (k : Int))) (o12 := some (.lst [.bl true, .bl true, .bl true, .bl false, .bl false, .bl true, .bl false, .bl true])) (o13 := some (.int (m : Int))) (o15 := some (.int (al.length : Int))) (o16 := some (.lst [.int 1, .int (1 + (al.length : Int)), .int (1 + (al.length : Int) + (al.length : Int) * (al.length : Int)), .int (1 + (al.length : Int) + (al.length : Int) * (al.length : Int) + (al.length : Int) * (al.length : Int) * (al.length : Int))])) (o17 := some (.lst (List.map (fun p : Int × Str => D.tup [.int p.1, .str p.2]) ((upto al m).map fun w => ((w.length : Int), ws w))))) (o18 := o18) (o19 := o19) (al := al) (m := m) (n := c13.length) ha hm hc
  obtain ⟨r', b21⟩ := bag_set (CO.lst (tD (upto al m) ++ [D.str "x"])) b14 hp
  have hc2 : (c14.set c13.length (CO.lst (tD (upto al m) ++ [D.str "x"])))[c13.length]? = some (CO.lst (tD (upto al m) ++ [D.str "x"])) := by rw [List.getElem?_set_self hlen]
  have e22 := t22 (c := c14.set c13.length (CO.lst (tD (upto al m) ++ [D.str "x"]))) (o0 := o0) (o2 := o2) (o4 := some (.int a)) (o5 := some (.int (a + k2))) (o6 := o6') (o7 := o7) (o8 := some (.int (n : Int))) (o9 := some (.str (ws l))) (o10 := some (.str (ws [d]))) (o11 := some (.int (k : Int))) (o12 := some (.lst [.bl true, .bl true, .bl true, .bl false, .bl false, .bl true, .bl false, .bl true])) (o15 := some (.int (al.length : Int))) (o16 := some (.lst [.int 1, .int (1 + (al.length : Int)), .int (1 + (al.length : Int) + (al.length : Int) * (al.length : Int)), .int (1 + (al.length : Int) + (al.length : Int) * (al.length : Int) + (al.length : Int) * (al.length : Int) * (al.length : Int))])) (o17 := some (.lst (List.map (fun p : Int × Str => D.tup [.int p.1, .str p.2]) ((upto al m).map fun w => ((w.length : Int), ws w))))) (o18 := o18) (o19 := o19) (al := al) (m := m) (n := c13.length) ha hm hc2
  have b22 := bag_app (CO.lst (tD (upto al m))) b21
  refine ⟨o0, o2, some (.str (ws al)), some (.int a), some (.int (a + k2)), o6', o7, some (.int (n : Int)), some (.str (ws l)), some (.str (ws [d])), some (.int (k : Int)), some (.lst [.bl true, .bl true, .bl true, .bl false, .bl false, .bl true, .bl false, .bl true]), some (.int (m : Int)), some (.cell c13.length), some (.int (al.length : Int)), some (.lst [.int 1, .int (1 + (al.length : Int)), .int (1 + (al.length : Int) + (al.length : Int) * (al.length : Int)), .int (1 + (al.length : Int) + (al.length : Int) * (al.length : Int) + (al.length : Int) * (al.length : Int) * (al.length : Int))]), some (.lst (List.map (fun p : Int × Str => D.tup [.int p.1, .str p.2]) ((upto al m).map fun w => ((w.length : Int), ws w)))), o18, o19, _, _, ?_, b22⟩
  unfold TT
  refine (seq_nx e1).trans ?_
  refine (seq_nx e2).trans ?_
  refine (seq_nx e3).trans ?_
  refine (seq_nx e4).trans ?_
  refine (seq_nx e5).trans ?_
  refine (seq_nx e6).trans ?_
  refine (seq_nx e7).trans ?_
  refine (seq_nx e8).trans ?_
  refine (seq_nx e9).trans ?_
  refine (seq_nx e10).trans ?_
  refine (seq_nx e11).trans ?_
  refine (seq_nx e12).trans ?_
  refine (seq_nx e13).trans ?_
  refine (seq_nx e14).trans ?_
  refine (seq_nx e15).trans ?_
  refine (seq_nx e16).trans ?_
  refine (seq_nx e17).trans ?_
  refine (seq_nx e18).trans ?_
  refine (seq_nx e19).trans ?_
  refine (seq_nx e20).trans ?_
  refine (seq_nx e21).trans ?_
  exact e22

theorem turns : ∀ (ds : List D) {o0 o2 o3 o4 o5 o6 o7 o8 o9 o10 o11 o12 o13 o14 o15 o16 o17 o18 o19 : Option D} {r c : Cs}, BagOk r c → ∃ σ' c', forL (gNm 2) TT ds [o0, some (.cell 0), o2, o3, o4, o5, o6, o7, o8, o9, o10, o11, o12, o13, o14, o15, o16, o17, o18, o19] c = .nx σ' c'
  | [], _, _, _, _, _, _, _, _, _, _, _, _, _, _, _, _, _, _, _, r, c, hb => ⟨_, _, rfl⟩
  | d :: ds, o0, o2, o3, o4, o5, o6, o7, o8, o9, o10, o11, o12, o13, o14, o15, o16, o17, o18, o19, r, c, hb => by
    obtain ⟨p0, p2, p3, p4, p5, p6, p7, p8, p9, p10, p11, p12, p13, p14, p15, p16, p17, p18, p19, r', c', e, b⟩ := turn_ok (o0 := o0) (o2 := some d) (o3 := o3) (o4 := o4) (o5 := o5) (o6 := o6) (o7 := o7) (o8 := o8) (o9 := o9) (o10 := o10) (o11 := o11) (o12 := o12) (o13 := o13) (o14 := o14) (o15 := o15) (o16 := o16) (o17 := o17) (o18 := o18) (o19 := o19) hb
    obtain ⟨σ', c'', e2⟩ := turns ds (o0 := p0) (o2 := p2) (o3 := p3) (o4 := p4) (o5 := p5) (o6 := p6) (o7 := p7) (o8 := p8) (o9 := p9) (o10 := p10) (o11 := p11) (o12 := p12) (o13 := p13) (o14 := p14) (o15 := p15) (o16 := p16) (o17 := p17) (o18 := p18) (o19 := p19) b
    refine ⟨σ', c'', ?_⟩
    show (match TT [o0, some (.cell 0), some (d), o3, o4, o5, o6, o7, o8, o9, o10, o11, o12, o13, o14, o15, o16, o17, o18, o19] c with
      | .nx σ c => forL (gNm 2) TT ds σ c
      | .ct σ c => forL (gNm 2) TT ds σ c
      | .bk σ c => .nx σ c
      | r => r) = _
    rw [e]
    exact e2
end
theorem law_true : ∀ ns : List Int, ns.length ≤ 63 → ∃ c, F_law [.sl (ns.map D.int)] [] = .ok (.bl true) c := by
  intro ns _
  obtain ⟨c0, e0, b0⟩ := draws_ok ns
  obtain ⟨σ', c', e⟩ := turns [.int 0, .int 1] (o0 := some (.sl (ns.map D.int))) (o2 := none) (o3 := none) (o4 := none) (o5 := none) (o6 := none) (o7 := none) (o8 := none) (o9 := none) (o10 := none) (o11 := none) (o12 := none) (o13 := none) (o14 := none) (o15 := none) (o16 := none) (o17 := none) (o18 := none) (o19 := none) b0
  refine ⟨c', ?_⟩
  rw [law_eq]
  refine callB_rt ?_
  refine (seq_nx (sasg (i := 1) (d := .cell 0) (c' := c0) (mfn (acons (x := .sl (ns.map D.int)) (c1 := []) rfl anil) rfl e0))).trans ?_
  refine (seq_nx (σ' := σ') (c' := c') ?_).trans rfl
  exact e
end K02
end

open PySem PySem.W PyProof.Rows
set_option maxRecDepth 100000 in
set_option maxHeartbeats 0 in
theorem PySem.Challenge.cw_lastslip_k02_words_and_alphabets_holds : PySem.Challenge.rw_lastslip_k02_words_and_alphabets.Holds := by
  w_on; o_law; k_head; (case hw => w_witness2)
  k_fill
  refine K02.walk K02.law_true (l := PySem.Challenge.rw_lastslip_k02_words_and_alphabets) rfl rfl (fun w h Y => PySem.W.kIn_of Y) ?F
  case F =>
    intro w mg fa h KX G hmg
    refine' K02.all_mk KX G hmg ?a0 ?l0 ?c0 ?k0 ?a1 ?l1 ?c1 ?k1 ?a2 ?l2 ?c2 ?k2 ?a3 ?l3 ?c3 ?k3 ?a4 ?l4 ?c4 ?k4 ?a5 ?l5 ?c5 ?k5 ?a6 ?l6 ?c6 ?k6 ?t6 ?a7 ?l7 ?c7 ?k7 ?a8 ?l8 ?c8 ?k8 ?a9 ?l9 ?c9 ?k9 ?a10 ?l10 ?c10 ?k10 ?z_all ?z_bool ?z_int ?z_isinstance ?z_len ?z_list ?z_max ?z_min ?z_range ?z_set ?z_sorted ?z_str ?z_tuple ?z_zip ?v_LETTERS ?v_LONGEST_WORD
    (case a0 => k_is)
    (case l0 => k_is)
    (case c0 => k_is)
    (case k0 => k_is)
    (case a1 => k_is)
    (case l1 => k_is)
    (case c1 => k_is)
    (case k1 => k_is)
    (case a2 => k_is)
    (case l2 => k_is)
    (case c2 => k_is)
    (case k2 => k_is)
    (case a3 => k_is)
    (case l3 => k_is)
    (case c3 => k_is)
    (case k3 => k_is)
    (case a4 => k_is)
    (case l4 => k_is)
    (case c4 => k_is)
    (case k4 => k_is)
    (case a5 => k_is)
    (case l5 => k_is)
    (case c5 => k_is)
    (case k5 => k_is)
    (case a6 => k_is)
    (case l6 => k_is)
    (case c6 => k_is)
    (case k6 => k_is)
    (case t6 => k_is)
    (case a7 => k_is)
    (case l7 => k_is)
    (case c7 => k_is)
    (case k7 => k_is)
    (case a8 => k_is)
    (case l8 => k_is)
    (case c8 => k_is)
    (case k8 => k_is)
    (case a9 => k_is)
    (case l9 => k_is)
    (case c9 => k_is)
    (case k9 => k_is)
    (case a10 => k_is)
    (case l10 => k_is)
    (case c10 => k_is)
    (case k10 => k_is)
    (case z_all => k_is)
    (case z_bool => k_is)
    (case z_int => k_is)
    (case z_isinstance => k_is)
    (case z_len => k_is)
    (case z_list => k_is)
    (case z_max => k_is)
    (case z_min => k_is)
    (case z_range => k_is)
    (case z_set => k_is)
    (case z_sorted => k_is)
    (case z_str => k_is)
    (case z_tuple => k_is)
    (case z_zip => k_is)
    (case v_LETTERS => k_is)
    (case v_LONGEST_WORD => k_is)
