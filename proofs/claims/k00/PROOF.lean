import PyProof.Rows.All
import Wide.All
import OpenK.AllK
import Wide.FinOn
import HandS.ForExc
import HandS.Lambda
import HandS.CallSlots
import HandS.TryMany
import HandS.Flow
import HandS.Wide
import HandS.WideBits
import HandS.TupMul
import HandS.Style
import HandS.IsInst
import HandS.Gcd
import HandS.TupAny
import HandS.Codes
import HandS.Dict
import HandS.WordsDict
import HandS.RevRange
import HandS.ExcInit
import HandS.Comp
import HandS.EndTab
import HandS.Words
import PySem.Challenge.RW_quotientcells_k00_schemes_of_any_value
section
set_option Elab.async false
set_option linter.all false
set_option maxRecDepth 100000
set_option autoImplicit false
/-! Values as plain data, the store of lists and dicts, how they lie in the abstract heap. -/
namespace Q
open PySem PySem.Spec PyProof.Rows L2

inductive D where
  | non | bl (b : Bool) | int (i : Int) | str (x : Str) | tup (ds : List D) | fz (ds : List D) | loc (n : Nat) | exo (k : Nat)
  deriving Inhabited

inductive Ob where
  | lst (ds : List D) | dK (kvs : List (Key × D)) | dT (kvs : List (List Key × D))
  deriving Inhabited

abbrev Sto := List Ob

inductive Res (α : Type) where
  | ok (a : α) (st : Sto) | exc (c : Nat) (d : D) (st : Sto) | err

def Res.bind {α β : Type} : Res α → (α → Sto → Res β) → Res β
  | .ok a st, f => f a st
  | .exc c d st, _ => .exc c d st
  | .err, _ => .err

abbrev Ev := List (Option D)

def NT (o : HO) : Prop := ∀ ps, o ≠ .tbl ps

/-- a locked list, or one of the written part -/
def SqF (K : PySem.W.Frag) (H : Hp) (a : Addr) (xs : List V) : Prop :=
  (∃ o, H a = some (.frz o (.lst xs))) ∨
    ∃ (o : Obj) (its : Array Value) (n : Nat), K.lookup a = some o ∧ o.cls = .type "list" ∧ o.dict = none ∧ o.data = .seq its n ∧ its.size ≤ sizeLine ∧ Vals xs its.toList
theorem SqF.sq {K : PySem.W.Frag} {H : Hp} {a : Addr} {xs : List V} (h : SqF K H a xs) : SqL K H a xs := h.elim (fun h => .inl (.inr h)) .inr
theorem SqF.of_sq {K : PySem.W.Frag} {H : Hp} {a : Addr} {xs : List V} (h : SqL K H a xs) (n : ∀ ys, H a ≠ some (.lst ys)) : SqF K H a xs := by
  rcases h with (h | h) | h
  · exact absurd h (n _)
  · exact .inl h
  · exact .inr h

section
variable (K : PySem.W.Frag) (M : List Addr) (H : Hp)
mutual
def DV : D → V → Prop
  | .non, v => v = .non
  | .bl b, v => v = .bl b
  | .int i, v => v = .int i
  | .str x, v => v = .str x
  | .tup ds, v => ∃ a vs, v = .ref a ∧ SqT K H a vs ∧ DVs ds vs
  | .fz ds, v => ∃ a vs, v = .ref a ∧ SqF K H a vs ∧ DVs ds vs
  | .loc n, v => ∃ a, v = .ref a ∧ M[n]? = some a
  | .exo _, _ => False
def DVs : List D → List V → Prop
  | [], vs => vs = []
  | d :: ds, vs => ∃ v vr, vs = v :: vr ∧ DV d v ∧ DVs ds vr
end
def DKs {κ : Type} : List (κ × D) → List (κ × V) → Prop
  | [], vs => vs = []
  | (k, d) :: ds, vs => ∃ v vr, vs = (k, v) :: vr ∧ DV K M H d v ∧ DKs ds vr
def ObV (a : Addr) : Ob → Prop
  | .lst ds => ∃ vs, H a = some (.lst vs) ∧ DVs K M H ds vs
  | .dK kvs => ∃ vs, H a = some (.dK vs) ∧ DKs K M H kvs vs
  | .dT kvs => ∃ vs, H a = some (.dT vs) ∧ DKs K M H kvs vs
structure Rel (st : Sto) : Prop where
  len : M.length = st.length
  nd : M.Nodup
  ob : ∀ (n : Nat) (o : Ob), st[n]? = some o → ∃ a : Addr, M[n]? = some a ∧ ObV K M H a o
end
/-- nothing there, or a table -/
def Tb (H : Hp) (a : Addr) : Prop := ∀ o, H a = some o → ¬ NT o
theorem tb_none {H : Hp} {a : Addr} (h : H a = none) : Tb H a := fun o e => by rw [h] at e; cases e
structure Stp (M : List Addr) (H : Hp) (M' : List Addr) (H' : Hp) : Prop where
  pre : ∃ more, M' = M ++ more ∧ ∀ a ∈ more, Tb H a
  keep : ∀ b o, H b = some o → b ∉ M → NT o → H' b = some o
  dom : ∀ b o, H b = some o → NT o → ∃ o', H' b = some o' ∧ NT o'
theorem Stp.refl (M : List Addr) (H : Hp) : Stp M H M H := ⟨⟨[], by simp, by simp⟩, fun _ _ h _ _ => h, fun _ _ h n => ⟨_, h, n⟩⟩
theorem Stp.tb {M M' : List Addr} {H H' : Hp} (s : Stp M H M' H') {a : Addr} (h : Tb H' a) : Tb H a := fun o e n => by
  obtain ⟨o', e', n'⟩ := s.dom a o e n
  exact h o' e' n'
theorem Stp.trans {M M1 M2 : List Addr} {H H1 H2 : Hp} (a : Stp M H M1 H1) (b : Stp M1 H1 M2 H2) : Stp M H M2 H2 := by
  obtain ⟨m1, e1, n1⟩ := a.pre
  obtain ⟨m2, e2, n2⟩ := b.pre
  refine ⟨⟨m1 ++ m2, by rw [e2, e1, List.append_assoc], fun x hx => ?_⟩, fun x o h hx n => b.keep x o (a.keep x o h hx n) (fun z => ?_) n, fun x o h n => ?_⟩
  · rcases List.mem_append.mp hx with h | h
    · exact n1 x h
    · exact a.tb (n2 x h)
  · rw [e1] at z
    rcases List.mem_append.mp z with z | z
    · exact hx z
    · exact n1 x z o h n
  · obtain ⟨o', h', n'⟩ := a.dom x o h n
    exact b.dom x o' h' n'
theorem Stp.get {M M' : List Addr} {H H' : Hp} (s : Stp M H M' H') {n : Nat} {a : Addr} (h : M[n]? = some a) : M'[n]? = some a := by
  obtain ⟨more, e, _⟩ := s.pre
  rw [e, List.getElem?_append_left (List.getElem?_eq_some_iff.mp h).1]
  exact h
/-- but for tables all stays -/
theorem Stp.ext {M : List Addr} {H H' : Hp} (h : ∀ b o, H b = some o → NT o → H' b = some o) : Stp M H M H' := ⟨⟨[], by simp, by simp⟩, fun b o e _ n => h b o e n, fun b o e n => ⟨o, h b o e n, n⟩⟩

/-- what a location's object is -/
def IsMut (o : HO) : Prop := (∃ xs, o = .lst xs) ∨ (∃ xs, o = .dK xs) ∨ ∃ xs, o = .dT xs
def MOk (M : List Addr) (H : Hp) : Prop := ∀ a ∈ M, ∃ o, H a = some o ∧ IsMut o
theorem Rel.mok {K : PySem.W.Frag} {M : List Addr} {H : Hp} {st : Sto} (r : Rel K M H st) : MOk M H := fun a ha => by
  obtain ⟨n, hn, e⟩ := List.getElem_of_mem ha
  have hl : n < st.length := by rw [← r.len]; exact hn
  obtain ⟨b, hb, q⟩ := r.ob n st[n] (List.getElem?_eq_getElem hl)
  rw [List.getElem?_eq_getElem hn, e] at hb
  cases hb
  cases ho : st[n] with
  | lst ds => rw [ho] at q; obtain ⟨vs, h, _⟩ := q; exact ⟨_, h, .inl ⟨vs, rfl⟩⟩
  | dK ds => rw [ho] at q; obtain ⟨vs, h, _⟩ := q; exact ⟨_, h, .inr (.inl ⟨vs, rfl⟩)⟩
  | dT ds => rw [ho] at q; obtain ⟨vs, h, _⟩ := q; exact ⟨_, h, .inr (.inr ⟨vs, rfl⟩)⟩
theorem MOk.not {M : List Addr} {H : Hp} (m : MOk M H) {a : Addr} {o : HO} (h : H a = some o) (n : ¬ IsMut o) : a ∉ M := fun ha => by
  obtain ⟨o', h', q⟩ := m a ha
  rw [h] at h'; cases h'
  exact n q
theorem notMut_tup {xs : List V} : ¬ IsMut (.tup xs) := fun h => by
  rcases h with ⟨_, h⟩ | ⟨_, h⟩ | ⟨_, h⟩ <;> cases h
theorem notMut_frz {o : Obj} {u : HO} : ¬ IsMut (.frz o u) := fun h => by
  rcases h with ⟨_, h⟩ | ⟨_, h⟩ | ⟨_, h⟩ <;> cases h
theorem nt_tup {xs : List V} : NT (.tup xs) := fun _ h => by cases h
theorem nt_lst {xs : List V} : NT (.lst xs) := fun _ h => by cases h
theorem nt_frz {o : Obj} {u : HO} : NT (.frz o u) := fun _ h => by cases h
theorem nt_mut {o : HO} (h : IsMut o) : NT o := fun ps e => by
  rcases h with ⟨_, h⟩ | ⟨_, h⟩ | ⟨_, h⟩ <;> rw [e] at h <;> cases h
section
variable {K : PySem.W.Frag} {M M' : List Addr} {H H' : Hp}
theorem sqT_mono (m : MOk M H) (s : Stp M H M' H') {a : Addr} {vs : List V} (h : SqT K H a vs) : SqT K H' a vs := by
  rcases h with (h | ⟨o, h⟩) | h
  · exact .inl (.inl (s.keep _ _ h (m.not h notMut_tup) nt_tup))
  · exact .inl (.inr ⟨o, s.keep _ _ h (m.not h notMut_frz) nt_frz⟩)
  · exact .inr h
theorem sqF_mono (m : MOk M H) (s : Stp M H M' H') {a : Addr} {vs : List V} (h : SqF K H a vs) : SqF K H' a vs := by
  rcases h with ⟨o, h⟩ | h
  · exact .inl ⟨o, s.keep _ _ h (m.not h notMut_frz) nt_frz⟩
  · exact .inr h
mutual
theorem DV.mono (m : MOk M H) (s : Stp M H M' H') : ∀ {d : D} {v : V}, DV K M H d v → DV K M' H' d v
  | .non, _, h => by unfold DV at h ⊢; exact h
  | .bl b, _, h => by unfold DV at h ⊢; exact h
  | .int b, _, h => by unfold DV at h ⊢; exact h
  | .str b, _, h => by unfold DV at h ⊢; exact h
  | .tup ds, v, h => by
    unfold DV at h ⊢
    obtain ⟨a, vs, e, h1, h2⟩ := h
    exact ⟨a, vs, e, sqT_mono m s h1, DVs.mono m s h2⟩
  | .fz ds, v, h => by
    unfold DV at h ⊢
    obtain ⟨a, vs, e, h1, h2⟩ := h
    exact ⟨a, vs, e, sqF_mono m s h1, DVs.mono m s h2⟩
  | .loc n, v, h => by
    unfold DV at h ⊢
    obtain ⟨a, e, h1⟩ := h
    exact ⟨a, e, s.get h1⟩
  | .exo _, v, h => by
    unfold DV at h
    exact h.elim
theorem DVs.mono (m : MOk M H) (s : Stp M H M' H') : ∀ {ds : List D} {vs : List V}, DVs K M H ds vs → DVs K M' H' ds vs
  | [], _, h => by unfold DVs at h ⊢; exact h
  | d :: ds, vs, h => by
    unfold DVs at h ⊢
    obtain ⟨v, vr, e, h1, h2⟩ := h
    exact ⟨v, vr, e, DV.mono m s h1, DVs.mono m s h2⟩
end
theorem DKs.mono (m : MOk M H) (s : Stp M H M' H') {κ : Type} : ∀ {ds : List (κ × D)} {vs : List (κ × V)}, DKs K M H ds vs → DKs K M' H' ds vs
  | [], _, h => by unfold DKs at h ⊢; exact h
  | (k, d) :: ds, vs, h => by
    unfold DKs at h ⊢
    obtain ⟨v, vr, e, h1, h2⟩ := h
    exact ⟨v, vr, e, h1.mono m s, DKs.mono m s h2⟩
theorem DVs.length : ∀ {ds : List D} {vs : List V}, DVs K M H ds vs → ds.length = vs.length
  | [], vs, h => by unfold DVs at h; rw [h]; rfl
  | d :: ds, vs, h => by
    unfold DVs at h
    obtain ⟨v, vr, e, h1, h2⟩ := h
    rw [e, List.length_cons, List.length_cons, DVs.length h2]
theorem DVs.get : ∀ {ds : List D} {vs : List V} {i : Nat} {d : D}, DVs K M H ds vs → ds[i]? = some d → ∃ v, vs[i]? = some v ∧ DV K M H d v
  | [], vs, i, d, h, e => by simp at e
  | d :: ds, vs, 0, d', h, e => by
    unfold DVs at h
    obtain ⟨v, vr, q, h1, h2⟩ := h
    simp at e
    subst e
    exact ⟨v, by rw [q]; rfl, h1⟩
  | d :: ds, vs, i + 1, d', h, e => by
    unfold DVs at h
    obtain ⟨v, vr, q, h1, h2⟩ := h
    rw [q]
    simpa using DVs.get h2 (by simpa using e)
theorem DVs.append : ∀ {ds es : List D} {vs ws : List V}, DVs K M H ds vs → DVs K M H es ws → DVs K M H (ds ++ es) (vs ++ ws)
  | [], es, vs, ws, h, g => by unfold DVs at h; rw [h]; exact g
  | d :: ds, es, vs, ws, h, g => by
    unfold DVs at h
    obtain ⟨v, vr, q, h1, h2⟩ := h
    rw [q]
    show DVs K M H (d :: (ds ++ es)) (v :: (vr ++ ws))
    unfold DVs
    exact ⟨v, vr ++ ws, rfl, h1, DVs.append h2 g⟩
theorem dvs_nil : DVs K M H [] [] := by unfold DVs; rfl
theorem dvs_cons {d : D} {ds : List D} {v : V} {vs : List V} (h : DV K M H d v) (t : DVs K M H ds vs) : DVs K M H (d :: ds) (v :: vs) := by unfold DVs; exact ⟨v, vs, rfl, h, t⟩
theorem DVs.cons_inv {d : D} {ds : List D} {vs : List V} (h : DVs K M H (d :: ds) vs) : ∃ v vr, vs = v :: vr ∧ DV K M H d v ∧ DVs K M H ds vr := by unfold DVs at h; exact h
theorem DVs.nil_inv {vs : List V} (h : DVs K M H [] vs) : vs = [] := by unfold DVs at h; exact h
theorem DVs.take : ∀ {ds : List D} {vs : List V} (n : Nat), DVs K M H ds vs → DVs K M H (ds.take n) (vs.take n)
  | [], vs, n, h => by rw [h.nil_inv]; simp; exact dvs_nil
  | d :: ds, vs, 0, h => by simp; exact dvs_nil
  | d :: ds, vs, n + 1, h => by
    obtain ⟨v, vr, q, h1, h2⟩ := h.cons_inv
    rw [q]
    exact dvs_cons h1 (DVs.take n h2)
theorem DVs.drop : ∀ {ds : List D} {vs : List V} (n : Nat), DVs K M H ds vs → DVs K M H (ds.drop n) (vs.drop n)
  | [], vs, n, h => by rw [h.nil_inv]; simp; exact dvs_nil
  | d :: ds, vs, 0, h => h
  | d :: ds, vs, n + 1, h => by
    obtain ⟨v, vr, q, h1, h2⟩ := h.cons_inv
    rw [q]
    exact DVs.drop n h2
theorem DVs.reverse : ∀ {ds : List D} {vs : List V}, DVs K M H ds vs → DVs K M H ds.reverse vs.reverse
  | [], vs, h => by rw [h.nil_inv]; exact dvs_nil
  | d :: ds, vs, h => by
    obtain ⟨v, vr, q, h1, h2⟩ := h.cons_inv
    rw [q, List.reverse_cons, List.reverse_cons]
    exact (DVs.reverse h2).append (dvs_cons h1 dvs_nil)
theorem DVs.set : ∀ {ds : List D} {vs : List V} {d : D} {v : V} (i : Nat), DV K M H d v → DVs K M H ds vs → DVs K M H (ds.set i d) (vs.set i v)
  | [], vs, d, v, i, r, h => by rw [h.nil_inv]; exact dvs_nil
  | d' :: ds, vs, d, v, 0, r, h => by
    obtain ⟨v', vr, q, h1, h2⟩ := h.cons_inv
    rw [q]
    exact dvs_cons r h2
  | d' :: ds, vs, d, v, i + 1, r, h => by
    obtain ⟨v', vr, q, h1, h2⟩ := h.cons_inv
    rw [q]
    exact dvs_cons h1 (DVs.set i r h2)
theorem dvs_ints : ∀ (ns : List Int), DVs K M H (ns.map D.int) (ns.map V.int)
  | [] => dvs_nil
  | n :: ns => dvs_cons (by unfold DV; rfl) (dvs_ints ns)
end

/-! ### how the store changes -/
section
variable {K : PySem.W.Frag} {M : List Addr} {H : Hp} {st : Sto} {p : Addr} {o : HO}
/-- a new object that is no location's -/
theorem stp_new (hp : H p = none) : Stp M H M (upd H p o) :=
  ⟨⟨[], by simp, by simp⟩, fun b o' h _ _ => by rw [upd_ne (ne_of_none h hp)]; exact h, fun b o' h n => ⟨o', by rw [upd_ne (ne_of_none h hp)]; exact h, n⟩⟩
theorem ObV.mono {M' : List Addr} {H' : Hp} (m : MOk M H) (s : Stp M H M' H') {a : Addr} {o : Ob} (h : ObV K M H a o) (e : H' a = H a) : ObV K M' H' a o := by
  cases o with
  | lst ds => obtain ⟨vs, h1, h2⟩ := h; exact ⟨vs, e.trans h1, h2.mono m s⟩
  | dK ds => obtain ⟨vs, h1, h2⟩ := h; exact ⟨vs, e.trans h1, h2.mono m s⟩
  | dT ds => obtain ⟨vs, h1, h2⟩ := h; exact ⟨vs, e.trans h1, h2.mono m s⟩
theorem Rel.new (r : Rel K M H st) (hp : H p = none) : Rel K M (upd H p o) st := by
  refine ⟨r.len, r.nd, fun n ob e => ?_⟩
  obtain ⟨a, h1, h2⟩ := r.ob n ob e
  refine ⟨a, h1, h2.mono r.mok (stp_new hp) (upd_ne ?_)⟩
  obtain ⟨o', h3, _⟩ := r.mok a (List.mem_of_getElem? h1)
  exact ne_of_none h3 hp
/-- a new location -/
theorem stp_loc (hp : H p = none) : Stp M H (M ++ [p]) (upd H p o) :=
  ⟨⟨[p], rfl, fun a ha => by rw [List.mem_singleton.mp ha]; exact tb_none hp⟩, fun b o' h _ _ => by rw [upd_ne (ne_of_none h hp)]; exact h, fun b o' h n => ⟨o', by rw [upd_ne (ne_of_none h hp)]; exact h, n⟩⟩
theorem Rel.loc {ob : Ob} (r : Rel K M H st) (hp : H p = none) (h : ObV K (M ++ [p]) (upd H p o) p ob) : Rel K (M ++ [p]) (upd H p o) (st ++ [ob]) := by
  have np : p ∉ M := fun z => by
    obtain ⟨o', h3, _⟩ := r.mok p z
    rw [hp] at h3; cases h3
  refine ⟨by rw [List.length_append, List.length_append, r.len]; rfl, List.nodup_append.mpr ⟨r.nd, by simp, fun a ha b hb e => ?_⟩, fun n ob' e => ?_⟩
  · rw [List.mem_singleton.mp hb] at e
    rw [e] at ha
    exact np ha
  · by_cases hn : n < st.length
    · rw [List.getElem?_append_left hn] at e
      obtain ⟨a, h1, h2⟩ := r.ob n ob' e
      refine ⟨a, (stp_loc (o := o) hp).get h1, h2.mono r.mok (stp_loc hp) (upd_ne fun z => np ?_)⟩
      rw [← z]
      exact List.mem_of_getElem? h1
    · have e2 : n = st.length := by
        have := (List.getElem?_eq_some_iff.mp e).1
        rw [List.length_append, List.length_singleton] at this
        omega
      subst e2
      rw [List.getElem?_append_right (Nat.le_refl _), Nat.sub_self] at e
      simp at e
      subst e
      exact ⟨p, by rw [← r.len, List.getElem?_append_right (Nat.le_refl _), Nat.sub_self]; rfl, h⟩
theorem nodup_ixA {N : List Addr} (hN : N.Nodup) {i j : Nat} {x : Addr} (a : N[i]? = some x) (b : N[j]? = some x) : i = j := by
  obtain ⟨_, e1⟩ := List.getElem?_eq_some_iff.mp a
  obtain ⟨_, e2⟩ := List.getElem?_eq_some_iff.mp b
  exact (List.getElem_inj hN).mp (e1.trans e2.symm)
/-- a location is written -/
theorem ObV.nt {K : PySem.W.Frag} {M : List Addr} {H : Hp} {a : Addr} {ob : Ob} (h : ObV K M H a ob) : ∃ o, H a = some o ∧ NT o := by
  cases ob with
  | lst ds => obtain ⟨vs, h, _⟩ := h; exact ⟨_, h, nt_mut (.inl ⟨_, rfl⟩)⟩
  | dK ds => obtain ⟨vs, h, _⟩ := h; exact ⟨_, h, nt_mut (.inr (.inl ⟨_, rfl⟩))⟩
  | dT ds => obtain ⟨vs, h, _⟩ := h; exact ⟨_, h, nt_mut (.inr (.inr ⟨_, rfl⟩))⟩
theorem stp_set {n : Nat} (hm : M[n]? = some p) (ho : NT o) : Stp M H M (upd H p o) :=
  ⟨⟨[], by simp, by simp⟩, fun b o' h hb _ => by rw [upd_ne (fun z => hb (by rw [z]; exact List.mem_of_getElem? hm))]; exact h, fun b o' h n => by
    by_cases e : b = p
    · exact ⟨o, by rw [e, upd_same], ho⟩
    · exact ⟨o', by rw [upd_ne e]; exact h, n⟩⟩
theorem Rel.set {n : Nat} {ob : Ob} (r : Rel K M H st) (hm : M[n]? = some p) (h : ObV K M (upd H p o) p ob) : Rel K M (upd H p o) (st.set n ob) := by
  have ho : NT o := by
    obtain ⟨o1, e1, n1⟩ := h.nt
    rw [upd_same] at e1
    cases e1
    exact n1
  refine ⟨by rw [List.length_set]; exact r.len, r.nd, fun m ob' e => ?_⟩
  by_cases hn : m = n
  · subst hn
    have hl := (List.getElem?_eq_some_iff.mp e).1
    rw [List.getElem?_set_self (by rw [List.length_set] at hl; exact hl)] at e
    cases e
    exact ⟨p, hm, h⟩
  · rw [List.getElem?_set_ne (Ne.symm hn)] at e
    obtain ⟨a, h1, h2⟩ := r.ob m ob' e
    refine ⟨a, h1, h2.mono r.mok (stp_set hm ho) (upd_ne fun z => hn ?_)⟩
    rw [z] at h1
    exact nodup_ixA r.nd h1 hm
end
end Q
end

section
set_option Elab.async false
set_option linter.all false
set_option maxRecDepth 100000
set_option autoImplicit false
/-! What is wanted behind an evaluation, by data; the rules for expressions. -/
namespace Q
open PySem PySem.Spec PyProof.Rows L2

structure Par where
  /-- the tables of code objects: the name of those within that are functions -/
  T : List (Addr × Str)
  CA : Nat → Addr
  FN : Nat → Str
  XV : List (Addr × Str × D) := []
  /-- what the slots of .exo k hold -/
  xa : Nat → Option Addr := fun _ => none
  /-- what stood before -/
  SB : List (List Addr × Hp) := []

abbrev TabP (H : Hp) (t : Addr) (q : Str) : Prop := LamX.TabS H t q

structure At (K : PySem.W.Frag) (P : Par) (M : List Addr) (H : Hp) (st : Sto) : Prop where
  rel : Rel K M H st
  tab : ∀ p ∈ P.T, TabP H p.1 p.2
  exn : ∀ q ∈ P.XV, ∃ v, H q.1 = some (.xd [(q.2.1, v)]) ∧ DV K M H q.2.2 v
  sup : ∀ q ∈ P.SB, Stp q.1 q.2 M H ∧ MOk q.1 q.2

/-- a slot's value: data, or the exception that an except suite holds -/
def DVx (K : PySem.W.Frag) (P : Par) (M : List Addr) (H : Hp) (d : D) (v : V) : Prop := match d with
  | .exo k => ∃ a, P.xa k = some a ∧ v = .ref a
  | d => DV K M H d v
def EvR (K : PySem.W.Frag) (P : Par) (M : List Addr) (H : Hp) (σ : L2.St) (env : Ev) : Prop :=
  env.length = σ.length ∧ ∀ (i : Nat) (d : D), env[i]? = some (some d) → ∃ v, σ[i]? = some (some v) ∧ DVx K P M H d v

section
variable {K : PySem.W.Frag} {P : Par} {M M' M1 : List Addr} {H H' H1 : Hp} {st st' : Sto} {σ : L2.St} {env : Ev}
theorem At.mok (a : At K P M H st) : MOk M H := a.rel.mok
theorem dv_exo {k : Nat} {v : V} (h : DV K M H (.exo k) v) : False := by unfold DV at h; exact h
theorem DV.x {d : D} {v : V} (h : DV K M H d v) : DVx K P M H d v := by
  unfold DVx
  split
  · exact (dv_exo h).elim
  · exact h
theorem DVx.mono (m : MOk M H) (s : Stp M H M' H') {d : D} {v : V} (h : DVx K P M H d v) : DVx K P M' H' d v := by
  unfold DVx at h ⊢
  split
  · exact h
  · split at h
    · rename_i z; exact (z _ rfl).elim
    · exact h.mono m s
theorem EvR.mono (m : MOk M H) (s : Stp M H M' H') (h : EvR K P M H σ env) : EvR K P M' H' σ env := ⟨h.1, fun i d e => by
  obtain ⟨v, h1, h2⟩ := h.2 i d e
  exact ⟨v, h1, h2.mono m s⟩⟩
theorem EvR.set {i : Nat} {d : D} {v : V} (h : EvR K P M H σ env) (r : DV K M H d v) : EvR K P M H (σ.set i (some v)) (env.set i (some d)) := by
  refine ⟨by rw [List.length_set, List.length_set]; exact h.1, fun j d' e => ?_⟩
  by_cases hj : i = j
  · subst hj
    have hl : i < env.length := by
      have := (List.getElem?_eq_some_iff.mp e).1
      rwa [List.length_set] at this
    rw [List.getElem?_set_self hl] at e
    cases e
    exact ⟨v, List.getElem?_set_self (by rw [← h.1]; exact hl), r.x⟩
  · rw [List.getElem?_set_ne hj] at e
    rw [List.getElem?_set_ne hj]
    exact h.2 j d' e

def Post {α β : Type} (K : PySem.W.Frag) (P : Par) (M : List Addr) (H : Hp) (R : List Addr → Hp → α → β → Prop) (Wx : Value → Option Addr → Hp → Prop) (r : Res α) (Q : β → Hp → Prop) : Prop :=
  match r with
  | .ok a st' => ∀ (b : β) (M' : List Addr) (H' : Hp), Stp M H M' H' → At K P M' H' st' → R M' H' a b → Q b H'
  | .exc c d st' => ∀ (dd : Addr) (v : V) (M' : List Addr) (H' : Hp), Stp M H M' H' → At K P M' H' st' → DV K M' H' d v → H' dd = some (.xd [(P.FN c, v)]) → Wx (.ref (P.CA c)) (some dd) H'
  | .err => False
section
variable {α β γ δ : Type} {R : List Addr → Hp → α → β → Prop} {R' : List Addr → Hp → γ → δ → Prop} {Wx : Value → Option Addr → Hp → Prop} {Q Q' : β → Hp → Prop}
theorem Post.imp {r : Res α} (h : Post K P M H R Wx r Q) (k : ∀ b H', Q b H' → Q' b H') : Post K P M H R Wx r Q' := by
  cases r with
  | ok a st' => exact fun b M' H' s t q => k _ _ (h b M' H' s t q)
  | exc c d st' => exact h
  | err => exact h
theorem Post.step {r : Res α} (s : Stp M H M1 H1) (h : Post K P M H R Wx r Q) : Post K P M1 H1 R Wx r Q := by
  cases r with
  | ok a st' => exact fun b M' H' s' t q => h b M' H' (s.trans s') t q
  | exc c d st' => exact fun dd v M' H' s' t q e => h dd v M' H' (s.trans s') t q e
  | err => exact h
/-- what holds behind a first part -/
def Mid (K : PySem.W.Frag) (P : Par) (M : List Addr) (H : Hp) (R' : List Addr → Hp → γ → δ → Prop) (k : γ → Sto → List Addr → Hp → Prop) (b : δ) (H1 : Hp) : Prop :=
  ∃ (a : γ) (M1 : List Addr) (st1 : Sto), Stp M H M1 H1 ∧ At K P M1 H1 st1 ∧ R' M1 H1 a b ∧ k a st1 M1 H1
theorem Post.bind {r : Res γ} {G : γ → Sto → Res α} (h : Post K P M H R Wx (r.bind G) Q) :
    Post K P M H R' Wx r (Mid K P M H R' fun a st1 M1 H1 => Post K P M1 H1 R Wx (G a st1) Q) := by
  cases r with
  | ok a st' => exact fun b M' H' s t q => ⟨a, M', st', s, t, q, Post.step s h⟩
  | exc c d st' => exact h
  | err => exact h.elim
end

/-- results of what raises nothing -/
abbrev OD := Option (D × Sto)
def ofO : OD → Res D
  | some (d, st) => .ok d st
  | none => .err
def PostO (K : PySem.W.Frag) (P : Par) (M : List Addr) (H : Hp) (r : OD) (Q : VK) : Prop := ∃ d st', r = some (d, st') ∧ ∀ v M' H', Stp M H M' H' → At K P M' H' st' → DV K M' H' d v → Q v H'
theorem Post.toO {Wx : Value → Option Addr → Hp → Prop} {r : OD} {Q : VK} (h : Post K P M H (DV K) Wx (ofO r) Q) : PostO K P M H r Q := by
  cases r with
  | none => exact h.elim
  | some p => exact ⟨p.1, p.2, rfl, h⟩
/-- the plain ends -/
theorem PostO.same {d : D} {st : Sto} {Q : VK} {v : V} {r : OD} (h : PostO K P M H r Q) (e : r = some (d, st)) (a : At K P M H st) (q : DV K M H d v) : Q v H := by
  obtain ⟨d', st', e', k⟩ := h
  rw [e] at e'
  cases e'
  exact k v M H (Stp.refl _ _) a q
theorem TabP.ext {t : Addr} {q : Str} (h : TabP H t q) (e : ∀ b o, H b = some o → H' b = some o) : TabP H' t q := LamX.TabS.ext h e
theorem TabP.but {t : Addr} {q : Str} (h : TabP H t q) (e : ∀ b o, H b = some o → ¬ IsMut o → H' b = some o) : TabP H' t q := by
  obtain ⟨ps, h1, h2, h3⟩ := h
  refine ⟨ps, e _ _ h1 ?_, h2, fun pos cv hc => ?_⟩
  · rintro (⟨_, h⟩ | ⟨_, h⟩ | ⟨_, h⟩) <;> cases h
  obtain ⟨c, e1, e2⟩ := h3 pos cv hc
  refine ⟨c, e1, e _ _ e2 ?_⟩
  unfold LamX.CodeO
  rintro (⟨_, h⟩ | ⟨_, h⟩ | ⟨_, h⟩) <;> cases h
/-- but for the tables all stays -/
theorem At.ext (a : At K P M H st) (e : LamX.ExtN H H') (t : LamX.Tabs P.T H') : At K P M H' st := by
  have s : Stp M H M H' := Stp.ext e
  refine ⟨⟨a.rel.len, a.rel.nd, fun n ob h => ?_⟩, t, fun q hq => ?_, fun q hq => ⟨(a.sup q hq).1.trans s, (a.sup q hq).2⟩⟩
  · obtain ⟨p, h1, h2⟩ := a.rel.ob n ob h
    obtain ⟨o, h3, h4⟩ := h2.nt
    exact ⟨p, h1, h2.mono a.mok s (by rw [h3]; exact e _ _ h3 h4)⟩
  · obtain ⟨v, h1, h2⟩ := a.exn q hq
    exact ⟨v, e _ _ h1 (fun ps z => nomatch z), h2.mono a.mok s⟩
/-- what stands now is noted -/
theorem At.note (a : At K P M H st) (x : Nat → Option Addr) : At K { P with SB := (M, H) :: P.SB, xa := x } M H st := ⟨a.rel, a.tab, a.exn, fun q hq => by
  rcases List.mem_cons.mp hq with rfl | hq
  · exact ⟨Stp.refl _ _, a.mok⟩
  · exact a.sup q hq⟩
theorem At.drop {x : Nat → Option Addr} {q : List Addr × Hp} (a : At K { P with SB := q :: P.SB, xa := x } M H st) : At K P M H st := ⟨a.rel, a.tab, a.exn, fun q hq => a.sup q (List.mem_cons_of_mem _ hq)⟩
theorem At.back {x : Nat → Option Addr} {q : List Addr × Hp} (a : At K P M H st) (s : Stp q.1 q.2 M H) (m : MOk q.1 q.2) : At K { P with SB := q :: P.SB, xa := x } M H st := ⟨a.rel, a.tab, a.exn, fun r hr => by
  rcases List.mem_cons.mp hr with rfl | hr
  · exact ⟨s, m⟩
  · exact a.sup r hr⟩
theorem At.new {p : Addr} {o : HO} (a : At K P M H st) (hp : H p = .none) : At K P M (upd H p o) st :=
  ⟨a.rel.new hp, fun q hq => (a.tab q hq).ext fun b o' e => by rw [upd_ne (ne_of_none e hp)]; exact e, fun q hq => by
    obtain ⟨v, h1, h2⟩ := a.exn q hq
    exact ⟨v, by rw [upd_ne (ne_of_none h1 hp)]; exact h1, h2.mono a.mok (stp_new hp)⟩, fun q hq => ⟨(a.sup q hq).1.trans (stp_new hp), (a.sup q hq).2⟩⟩
theorem At.loc {p : Addr} {o : HO} {ob : Ob} (a : At K P M H st) (hp : H p = .none) (h : ObV K (M ++ [p]) (upd H p o) p ob) : At K P (M ++ [p]) (upd H p o) (st ++ [ob]) :=
  ⟨a.rel.loc hp h, fun q hq => (a.tab q hq).ext fun b o' e => by rw [upd_ne (ne_of_none e hp)]; exact e, fun q hq => by
    obtain ⟨v, h1, h2⟩ := a.exn q hq
    exact ⟨v, by rw [upd_ne (ne_of_none h1 hp)]; exact h1, h2.mono a.mok (stp_loc hp)⟩, fun q hq => ⟨(a.sup q hq).1.trans (stp_loc hp), (a.sup q hq).2⟩⟩
theorem At.set {p : Addr} {n : Nat} {o : HO} {ob : Ob} (a : At K P M H st) (hm : M[n]? = some p) (h : ObV K M (upd H p o) p ob) : At K P M (upd H p o) (st.set n ob) := by
  have ho : NT o := by
    obtain ⟨o1, e1, n1⟩ := h.nt
    rw [upd_same] at e1
    cases e1
    exact n1
  refine ⟨a.rel.set hm h, fun q hq => (a.tab q hq).but fun b o' e n => ?_, fun q hq => ?_, fun q hq => ⟨(a.sup q hq).1.trans (stp_set hm ho), (a.sup q hq).2⟩⟩
  · rw [upd_ne (fun z => ?_)]
    · exact e
    · obtain ⟨o2, e2, m2⟩ := a.mok p (List.mem_of_getElem? hm)
      rw [z, e2] at e
      cases e
      exact n m2
  · obtain ⟨v, h1, h2⟩ := a.exn q hq
    refine ⟨v, ?_, h2.mono a.mok (stp_set hm ho)⟩
    rw [upd_ne (fun z => ?_)]
    · exact h1
    · obtain ⟨o2, e2, m2⟩ := a.mok p (List.mem_of_getElem? hm)
      rw [z, e2] at h1
      cases h1
      rcases m2 with ⟨_, m2⟩ | ⟨_, m2⟩ | ⟨_, m2⟩ <;> cases m2
theorem PostO.tup {ds : List D} {vs : List V} {st : Sto} {Q : VK} {p : Addr} {r : OD} (h : PostO K P M H r Q) (e : r = some (.tup ds, st)) (a : At K P M H st) (q : DVs K M H ds vs) (hp : H p = .none) : Q (.ref p) (upd H p (.tup vs)) := by
  obtain ⟨d', st', e', k⟩ := h
  rw [e] at e'
  cases e'
  refine k _ M _ (stp_new hp) (a.new hp) ?_
  unfold DV
  exact ⟨p, vs, rfl, SqT.of upd_same, q.mono a.mok (stp_new hp)⟩
theorem PostO.lst {ds : List D} {vs : List V} {st : Sto} {Q : VK} {p : Addr} {r : OD} (h : PostO K P M H r Q) (e : r = some (.loc st.length, st ++ [.lst ds])) (a : At K P M H st) (q : DVs K M H ds vs) (hp : H p = .none) : Q (.ref p) (upd H p (.lst vs)) := by
  obtain ⟨d', st', e', k⟩ := h
  rw [e] at e'
  cases e'
  have s : Stp M H (M ++ [p]) (upd H p (.lst vs)) := stp_loc hp
  refine k _ (M ++ [p]) _ s (a.loc hp ⟨vs, upd_same, q.mono a.mok s⟩) ?_
  unfold DV
  exact ⟨p, rfl, by rw [← a.rel.len, List.getElem?_append_right (Nat.le_refl _), Nat.sub_self]; rfl⟩
end

/-! ### readings -/
def tG {α β : Type} (K : PySem.W.Frag) (P : Par) (W : WX) (R : List Addr → Hp → α → β → Prop) (F : Ev → Sto → Res α) : L2.St → Hp → (β → Hp → Prop) → Prop :=
  fun σ H Q => ∃ (M : List Addr) (env : Ev) (st : Sto), EvR K P M H σ env ∧ At K P M H st ∧ Post K P M H R (fun c d H' => W c d σ H') (F env st) Q
abbrev tE (K : PySem.W.Frag) (P : Par) (W : WX) (F : Ev → Sto → Res D) : TE := tG K P W (DV K) F
abbrev tL (K : PySem.W.Frag) (P : Par) (W : WX) (F : Ev → Sto → Res (List D)) : TA := tG K P W (DVs K) F
abbrev tT (K : PySem.W.Frag) (P : Par) (W : WX) (F : Ev → Sto → Res Bool) : TT := tG K P W (fun _ _ (a b : Bool) => a = b) F

/-- a step of a reading -/
theorem tG.go {α β γ δ : Type} {K : PySem.W.Frag} {P : Par} {W : WX} {R : List Addr → Hp → α → β → Prop} {R' : List Addr → Hp → γ → δ → Prop} {F : Ev → Sto → Res γ} {G : γ → Sto → Res α} {M : List Addr} {env : Ev} {st : Sto} {σ : L2.St} {H : Hp} {Q : β → Hp → Prop}
    {Q' : δ → Hp → Prop} (sl : EvR K P M H σ env) (a : At K P M H st) (h : Post K P M H R (fun c d H' => W c d σ H') ((F env st).bind G) Q)
    (k : ∀ b H1 d M1 st1, Stp M H M1 H1 → At K P M1 H1 st1 → EvR K P M1 H1 σ env → R' M1 H1 d b → Post K P M1 H1 R (fun c d H' => W c d σ H') (G d st1) Q → Q' b H1) : tG K P W R' F σ H Q' :=
  ⟨M, env, st, sl, a, (Post.bind h).imp fun b H1 ⟨d, M1, st1, s1, a1, r1, p1⟩ => k b H1 d M1 st1 s1 a1 (sl.mono a.mok s1) r1 p1⟩
theorem tG.last {α β : Type} {K : PySem.W.Frag} {P : Par} {W : WX} {R : List Addr → Hp → α → β → Prop} {F : Ev → Sto → Res α} {M : List Addr} {env : Ev} {st : Sto} {σ : L2.St} {H : Hp} {Q : β → Hp → Prop}
    (sl : EvR K P M H σ env) (a : At K P M H st) (h : Post K P M H R (fun c d H' => W c d σ H') (F env st) Q) : tG K P W R F σ H Q := ⟨M, env, st, sl, a, h⟩

/-! ### values by one, two, many -/
def rD2 (K : PySem.W.Frag) (P : Par) (g : D → D → Sto → OD) : R2 := fun x y H Q => ∃ M st dx dy, At K P M H st ∧ DV K M H dx x ∧ DV K M H dy y ∧ PostO K P M H (g dx dy st) Q
def rD1 (K : PySem.W.Frag) (P : Par) (g : D → Sto → OD) : V → Hp → VK → Prop := fun x H Q => ∃ M st dx, At K P M H st ∧ DV K M H dx x ∧ PostO K P M H (g dx st) Q
def rDL (K : PySem.W.Frag) (P : Par) (g : List D → Sto → OD) : List V → Hp → VK → Prop := fun xs H Q => ∃ M st ds, At K P M H st ∧ DVs K M H ds xs ∧ PostO K P M H (g ds st) Q
def rDM (K : PySem.W.Frag) (P : Par) (g : D → List D → Sto → OD) : V → List V → Hp → VK → Prop := fun x xs H Q => ∃ M st d ds, At K P M H st ∧ DV K M H d x ∧ DVs K M H ds xs ∧ PostO K P M H (g d ds st) Q

section
variable {X : Cx} {P : Par} {W : WX} {a b c : Expr} {Fa Fb Fc : Ev → Sto → Res D} {pos : Pos}
def vGet (i : Nat) (env : Ev) (st : Sto) : Res D := match env[i]? with
  | some (some (.exo _)) => .err
  | some (some d) => .ok d st
  | _ => .err
theorem q_var {i : Nat} {x : Str} {pos : Pos} (hN : X.N[i]? = some x) (hv : Vis X.env.scope x) (hd : (x == ("__debug__" : Str)) = false) (hcd : (x == ("__classdict__" : Str)) = false) :
    PE X (.Name x pos) (tE X.K P W (vGet i)) := by
  refine ⟨fun pins s σ H Q I h => (pe_var hN hv hd hcd).run pins s σ H Q I ?_⟩
  obtain ⟨M, env, st, sl, at_, p⟩ := h
  show ∃ v, _ ∧ _
  unfold vGet at p
  split at p
  · exact p.elim
  · rename_i d e n
    obtain ⟨v, h1, h2⟩ := sl.2 i d n
    refine ⟨v, h1, p v M H (Stp.refl _ _) at_ ?_⟩
    unfold DVx at h2
    split at h2
    · exact (e _ rfl).elim
    · exact h2
  · exact p.elim
theorem q_const {e : Expr} {d : D} {v : V} (h : PE X e (tC v)) (hd : ∀ M H, DV X.K M H d v) : PE X e (tE X.K P W fun _ st => .ok d st) := by
  refine ⟨fun pins s σ H Q I hh => h.run pins s σ H Q I ?_⟩
  obtain ⟨M, env, st, sl, at_, p⟩ := hh
  exact p v M H (Stp.refl _ _) at_ (hd M H)
theorem q_op2 {f : Expr} {g : D → D → Sto → OD} (ho : ∀ {ta tb : TE}, PE X a ta → PE X b tb → PE X f (tOp (rD2 X.K P g) ta tb)) (ha : PE X a (tE X.K P W Fa)) (hb : PE X b (tE X.K P W Fb)) :
    PE X f (tE X.K P W fun env st => (Fa env st).bind fun x s1 => (Fb env s1).bind fun y s2 => ofO (g x y s2)) := by
  refine ⟨fun pins s σ H Q I h => (ho ha hb).run pins s σ H Q I ?_⟩
  obtain ⟨M, env, st, sl, at_, p⟩ := h
  exact tG.go sl at_ p fun x H1 dx M1 st1 s1 a1 sl1 r1 p1 => tG.go sl1 a1 p1 fun y H2 dy M2 st2 s2 a2 sl2 r2 p2 => ⟨M2, st2, dx, dy, a2, r1.mono a1.mok s2, r2, p2.toO⟩
theorem q_bin {op : Operator} {g : D → D → Sto → OD} (ho : OpR X (binaryOp op) (rD2 X.K P g)) (ha : PE X a (tE X.K P W Fa)) (hb : PE X b (tE X.K P W Fb)) :
    PE X (.BinOp a op b pos) (tE X.K P W fun env st => (Fa env st).bind fun x s1 => (Fb env s1).bind fun y s2 => ofO (g x y s2)) := q_op2 (fun ha hb => pe_op ho ha hb) ha hb
theorem q_cmp {op : CmpOp} {g : D → D → Sto → OD} (ho : OpR X (compareOp op) (rD2 X.K P g)) (ha : PE X a (tE X.K P W Fa)) (hb : PE X b (tE X.K P W Fb)) (hm : behindInMarks op b = false) :
    PE X (.Compare a [op] [b] pos) (tE X.K P W fun env st => (Fa env st).bind fun x s1 => (Fb env s1).bind fun y s2 => ofO (g x y s2)) := q_op2 (fun ha hb => pe_cmpR ho ha hb hm) ha hb
theorem q_ix {g : D → D → Sto → OD} (ho : IxR X (rD2 X.K P g)) (ha : PE X a (tE X.K P W Fa)) (hb : PE X b (tE X.K P W Fb)) (hs : PlainIx b) :
    PE X (.Subscript a b pos) (tE X.K P W fun env st => (Fa env st).bind fun x s1 => (Fb env s1).bind fun y s2 => ofO (g x y s2)) := q_op2 (fun ha hb => pe_ix ho ha hb hs) ha hb
theorem q_un {op : UnaryOp} {g : D → Sto → OD} (ho : UnR X (unaryOp op) (rD1 X.K P g)) (ha : PE X a (tE X.K P W Fa)) :
    PE X (.UnaryOp op a pos) (tE X.K P W fun env st => (Fa env st).bind fun x s1 => ofO (g x s1)) := by
  refine ⟨fun pins s σ H Q I h => (pe_un ho ha).run pins s σ H Q I ?_⟩
  obtain ⟨M, env, st, sl, at_, p⟩ := h
  exact tG.go sl at_ p fun x H1 dx M1 st1 s1 a1 sl1 r1 p1 => ⟨M1, st1, dx, a1, r1, p1.toO⟩
/-! argument lists -/
theorem q_nil : PA X [] (tL X.K P W fun _ st => .ok [] st) := by
  refine ⟨fun pos pins s σ H Q I h => pa_nil.run pos pins s σ H Q I ?_⟩
  obtain ⟨M, env, st, sl, at_, p⟩ := h
  exact p [] M H (Stp.refl _ _) at_ dvs_nil
theorem q_cons {e : Expr} {es : List Expr} {F : Ev → Sto → Res D} {G : Ev → Sto → Res (List D)} (ha : PE X e (tE X.K P W F)) (hr : PA X es (tL X.K P W G)) (hs : starEach (e :: es) X.env = (false, eval e X.env) :: starEach es X.env) :
    PA X (e :: es) (tL X.K P W fun env st => (F env st).bind fun d s1 => (G env s1).bind fun ds s2 => .ok (d :: ds) s2) := by
  refine ⟨fun pos pins s σ H Q I h => (pa_cons ha hr hs).run pos pins s σ H Q I ?_⟩
  obtain ⟨M, env, st, sl, at_, p⟩ := h
  refine tG.go sl at_ p fun x H1 dx M1 st1 s1 a1 sl1 r1 p1 => tG.go sl1 a1 p1 fun xs H2 ds M2 st2 s2 a2 sl2 r2 p2 => ?_
  exact p2 (x :: xs) M2 H2 (Stp.refl _ _) a2 (dvs_cons (r1.mono a1.mok s2) r2)
section
variable {es : List Expr} {G : Ev → Sto → Res (List D)}
def mkTup (ds : List D) (st : Sto) : OD := if ds.length ≤ 100000 then some (.tup ds, st) else none
def mkLst (ds : List D) (st : Sto) : OD := if ds.length ≤ 100000 then some (.loc st.length, st ++ [.lst ds]) else none
theorem le_line {n : Nat} (h : n ≤ 100000) : n ≤ sizeLine := by rw [sizeLine_eq]; omega
theorem q_tup {k : Nat} (h : PA X es (tL X.K P W G)) : PE X (.Tuple es k pos) (tE X.K P W fun env st => (G env st).bind fun ds s1 => ofO (mkTup ds s1)) := by
  refine ⟨fun pins s σ H Q I hh => (pe_tup h).run pins s σ H Q I ?_⟩
  obtain ⟨M, env, st, sl, at_, p⟩ := hh
  refine tG.go sl at_ p fun xs H1 ds M1 st1 s1 a1 sl1 r1 p1 => ?_
  have p1 := p1.toO
  unfold mkTup at p1
  split at p1
  · rename_i hl
    exact ⟨by rw [← r1.length]; exact le_line hl, fun q hq => p1.tup rfl a1 r1 hq⟩
  · obtain ⟨_, _, e, _⟩ := p1; cases e
theorem q_lst (h : PA X es (tL X.K P W G)) : PE X (.List es pos) (tE X.K P W fun env st => (G env st).bind fun ds s1 => ofO (mkLst ds s1)) := by
  refine ⟨fun pins s σ H Q I hh => (pe_lst h).run pins s σ H Q I ?_⟩
  obtain ⟨M, env, st, sl, at_, p⟩ := hh
  refine tG.go sl at_ p fun xs H1 ds M1 st1 s1 a1 sl1 r1 p1 => ?_
  have p1 := p1.toO
  unfold mkLst at p1
  split at p1
  · rename_i hl
    exact ⟨by rw [← r1.length]; exact le_line hl, fun q hq => p1.lst rfl a1 r1 hq⟩
  · obtain ⟨_, _, e, _⟩ := p1; cases e
/-- a builtin called by its name -/
theorem q_blt {e : Expr} {x : Str} {id : String} {f : List D → Sto → OD} {p : Pos} {G : Ev → Sto → Res (List D)} (hc : CallR X (.builtin id) (rDL X.K P f)) (hg : Gl X x) (hm : X.mg x = none) (hv : bootBuiltins x = some (.builtin id)) (ha : PA X (e :: es) (tL X.K P W G)) (hn : x ≠ "__name__") (hdb : (x == ("__debug__" : Str)) = false)
    (he : starEach (e :: es) X.env = (false, eval e X.env) :: starEach es X.env) (hpl : (backTo pos (starEach es X.env)).any (·.1) = false) :
    PE X (.Call (.Name x p) (e :: es) [] pos) (tE X.K P W fun env st => (G env st).bind fun ds s1 => ofO (f ds s1)) := by
  refine ⟨fun pins s σ H Q I hh => (pe_callB hc hg hm hv ha hn hdb he hpl).run pins s σ H Q I ?_⟩
  obtain ⟨M, env, st, sl, at_, q⟩ := hh
  exact tG.go sl at_ q fun xs H1 ds M1 st1 s1 a1 sl1 r1 p1 => ⟨M1, st1, ds, a1, r1, p1.toO⟩
theorem q_bty {e : Expr} {x : Str} {T : String} {f : List D → Sto → OD} {p : Pos} {G : Ev → Sto → Res (List D)} (hc : CallR X (.type T) (rDL X.K P f)) (hg : Gl X x) (hm : X.mg x = none) (hv : bootBuiltins x = some (.type T)) (ha : PA X (e :: es) (tL X.K P W G)) (hn : x ≠ "__name__") (hdb : (x == ("__debug__" : Str)) = false)
    (he : starEach (e :: es) X.env = (false, eval e X.env) :: starEach es X.env) (hpl : (backTo pos (starEach es X.env)).any (·.1) = false) :
    PE X (.Call (.Name x p) (e :: es) [] pos) (tE X.K P W fun env st => (G env st).bind fun ds s1 => ofO (f ds s1)) := by
  refine ⟨fun pins s σ H Q I hh => (pe_callTy hc hg hm hv ha hn hdb he hpl).run pins s σ H Q I ?_⟩
  obtain ⟨M, env, st, sl, at_, q⟩ := hh
  exact tG.go sl at_ q fun xs H1 ds M1 st1 s1 a1 sl1 r1 p1 => ⟨M1, st1, ds, a1, r1, p1.toO⟩
end
end
end Q
end

section
set_option Elab.async false
set_option linter.all false
set_option maxRecDepth 100000
set_option maxHeartbeats 1000000
set_option autoImplicit false
/-! Operators and builtin functions, by data. -/
namespace Q
open PySem PySem.Spec PyProof.Rows L2

section
variable {K : PySem.W.Frag} {P : Par} {M : List Addr} {H : Hp} {st : Sto}
theorem dv_int {i : Int} {v : V} : DV K M H (.int i) v ↔ v = .int i := by unfold DV; exact Iff.rfl
theorem dv_bl {b : Bool} {v : V} : DV K M H (.bl b) v ↔ v = .bl b := by unfold DV; exact Iff.rfl
theorem dv_str {x : Str} {v : V} : DV K M H (.str x) v ↔ v = .str x := by unfold DV; exact Iff.rfl
theorem dv_non {v : V} : DV K M H .non v ↔ v = .non := by unfold DV; exact Iff.rfl
theorem dv_tup {ds : List D} {v : V} : DV K M H (.tup ds) v ↔ ∃ a vs, v = .ref a ∧ SqT K H a vs ∧ DVs K M H ds vs := by unfold DV; exact Iff.rfl
theorem dv_fz {ds : List D} {v : V} : DV K M H (.fz ds) v ↔ ∃ a vs, v = .ref a ∧ SqF K H a vs ∧ DVs K M H ds vs := by unfold DV; exact Iff.rfl
theorem dv_loc {n : Nat} {v : V} : DV K M H (.loc n) v ↔ ∃ a, v = .ref a ∧ M[n]? = some a := by unfold DV; exact Iff.rfl
theorem At.lst (a : At K P M H st) {n : Nat} {ds : List D} (h : st[n]? = some (.lst ds)) : ∃ p vs, M[n]? = some p ∧ H p = some (.lst vs) ∧ DVs K M H ds vs := by
  obtain ⟨p, h1, vs, h2, h3⟩ := a.rel.ob n _ h
  exact ⟨p, vs, h1, h2, h3⟩
theorem At.dK (a : At K P M H st) {n : Nat} {ds : List (Key × D)} (h : st[n]? = some (.dK ds)) : ∃ p vs, M[n]? = some p ∧ H p = some (.dK vs) ∧ DKs K M H ds vs := by
  obtain ⟨p, h1, vs, h2, h3⟩ := a.rel.ob n _ h
  exact ⟨p, vs, h1, h2, h3⟩
theorem PostO.not {Q : VK} (h : PostO K P M H none Q) : False := by obtain ⟨_, _, e, _⟩ := h; cases e
theorem PostO.pure {Q : VK} {d : D} {v : V} (h : PostO K P M H (some (d, st)) Q) (a : At K P M H st) (q : DV K M H d v) : Q v H := h.same rfl a q
theorem PostO.int {Q : VK} {i : Int} (h : PostO K P M H (some (.int i, st)) Q) (a : At K P M H st) : Q (.int i) H := h.same rfl a (dv_int.mpr rfl)
theorem PostO.bl {Q : VK} {i : Bool} (h : PostO K P M H (some (.bl i, st)) Q) (a : At K P M H st) : Q (.bl i) H := h.same rfl a (dv_bl.mpr rfl)
theorem PostO.str {Q : VK} {i : Str} (h : PostO K P M H (some (.str i, st)) Q) (a : At K P M H st) : Q (.str i) H := h.same rfl a (dv_str.mpr rfl)

/-! ### int operators -/
/-- the numbers that stand behind an int operator -/
def int2 (f : Int → Int → Option Int) : D → D → Sto → OD
  | .int i, .int j, st => (f i j).map fun k => (.int k, st)
  | _, _, _ => none
def int2b (f : Int → Int → Bool) : D → D → Sto → OD
  | .int i, .int j, st => some (.bl (f i j), st)
  | _, _, _ => none
section
variable {X : Cx} {P : Par}
theorem int2_ok {f : Value → Value → Sem Value} {C : Int → Int → Prop} {g : Int → Int → Int} {h : Int → Int → Option Int} (o : OpR X f (rI C fun i j => .int (g i j))) (hc : ∀ i j k, h i j = some k → C i j ∧ k = g i j) : OpR X f (rD2 X.K P (int2 h)) := by
  intro pins s σ H x y v u Q I rx ry q
  obtain ⟨M, st, dx, dy, a, r1, r2, p⟩ := q
  unfold int2 at p
  split at p
  · rename_i i j
    rw [dv_int] at r1 r2
    cases e : h i j with
    | none => rw [e] at p; exact p.not.elim
    | some k =>
      rw [e] at p
      obtain ⟨c, rfl⟩ := hc i j k e
      exact o pins s σ H x y v u Q I rx ry ⟨i, j, r1, r2, c, p.int a⟩
  · exact p.not.elim
theorem int20_ok {f : Value → Value → Sem Value} {g : Int → Int → Int} (o : OpR X f (rI0 fun i j => .int (g i j))) : OpR X f (rD2 X.K P (int2 fun i j => some (g i j))) := by
  intro pins s σ H x y v u Q I rx ry q
  obtain ⟨M, st, dx, dy, a, r1, r2, p⟩ := q
  unfold int2 at p
  split at p
  · rename_i i j
    rw [dv_int] at r1 r2
    exact o pins s σ H x y v u Q I rx ry ⟨i, j, r1, r2, p.int a⟩
  · exact p.not.elim
theorem int2b_ok {f : Value → Value → Sem Value} {g : Int → Int → Bool} (o : OpR X f (rI0 fun i j => .bl (g i j))) : OpR X f (rD2 X.K P (int2b g)) := by
  intro pins s σ H x y v u Q I rx ry q
  obtain ⟨M, st, dx, dy, a, r1, r2, p⟩ := q
  unfold int2b at p
  split at p
  · rename_i i j
    rw [dv_int] at r1 r2
    exact o pins s σ H x y v u Q I rx ry ⟨i, j, r1, r2, p.bl a⟩
  · exact p.not.elim
/-- one or the other -/
def alt2 (f g : D → D → Sto → OD) : D → D → Sto → OD := fun x y st => match f x y st with
  | some r => some r
  | none => g x y st
theorem alt2_ok {f : Value → Value → Sem Value} {g h : D → D → Sto → OD} (o1 : OpR X f (rD2 X.K P g)) (o2 : OpR X f (rD2 X.K P h)) : OpR X f (rD2 X.K P (alt2 g h)) := by
  intro pins s σ H x y v u Q I rx ry q
  obtain ⟨M, st, dx, dy, a, r1, r2, p⟩ := q
  unfold alt2 at p
  cases e : g dx dy st with
  | none => rw [e] at p; exact o2 pins s σ H x y v u Q I rx ry ⟨M, st, dx, dy, a, r1, r2, p⟩
  | some r => rw [e] at p; exact o1 pins s σ H x y v u Q I rx ry ⟨M, st, dx, dy, a, r1, r2, by rw [e]; exact p⟩
def bits (i : Int) : Nat := i.natAbs.log2
def mulI (i j : Int) : Option Int := if bits i + bits j < 1000000 then some (i * j) else none
def fdivI (i j : Int) : Option Int := if j ≠ 0 ∧ j.natAbs < 1073741824 then some (i.fdiv j) else if 0 < j ∧ bits j < 9000 then some (i.fdiv j) else none
def modI (i j : Int) : Option Int := if j ≠ 0 then some (i.fmod j) else none
def powI (i j : Int) : Option Int := if 0 ≤ j ∧ j ≤ 1000000 ∧ i.natAbs < 18446744073709551616 then some (i ^ j.toNat) else none
def shlI (i j : Int) : Option Int := if 0 ≤ j ∧ j ≤ 1000000 ∧ bits i < 1000000 then some (i * 2 ^ j.toNat) else none
def shrI (i j : Int) : Option Int := if 0 ≤ j then some (i / 2 ^ j.toNat) else none
theorem mul_ok : OpR X (binaryOp .Mult) (rD2 X.K P (int2 mulI)) := int2_ok op_mulW fun i j k h => by
  unfold mulI at h
  split at h
  · exact ⟨by assumption, (Option.some.inj h).symm⟩
  · cases h
theorem or_fdiv : OpR X (binaryOp .FloorDiv) (rI (fun i j => CDivN i j ∨ CDivW i j) fun i j => .int (i.fdiv j)) := by
  intro pins s σ H x y v u Q I rx ry q
  obtain ⟨i, j, e1, e2, c, q⟩ := q
  rcases c with c | c
  · exact op_fdivN pins s σ H x y v u Q I rx ry ⟨i, j, e1, e2, c, q⟩
  · refine op_fdivW pins s σ H x y v u Q I rx ry ⟨i, j, e1, e2, c, ?_⟩
    show Q (V.int (i / j)) H
    rw [← Int.fdiv_eq_ediv_of_nonneg _ (Int.le_of_lt c.1)]
    exact q
theorem fdiv_ok : OpR X (binaryOp .FloorDiv) (rD2 X.K P (int2 fdivI)) := int2_ok or_fdiv fun i j k h => by
  unfold fdivI at h
  split at h
  · exact ⟨.inl (by assumption), (Option.some.inj h).symm⟩
  · split at h
    · exact ⟨.inr (by assumption), (Option.some.inj h).symm⟩
    · cases h
theorem mod_ok : OpR X (binaryOp .Mod) (rD2 X.K P (int2 modI)) := int2_ok op_modN fun i j k h => by
  unfold modI at h
  split at h
  · exact ⟨by assumption, (Option.some.inj h).symm⟩
  · cases h
theorem pow_ok : OpR X (binaryOp .Pow) (rD2 X.K P (int2 powI)) := int2_ok op_pow fun i j k h => by
  unfold powI at h
  split at h
  · exact ⟨by assumption, (Option.some.inj h).symm⟩
  · cases h
theorem shl_ok' : OpR X (binaryOp .LShift) (rD2 X.K P (int2 shlI)) := int2_ok op_shlW fun i j k h => by
  unfold shlI at h
  split at h
  · rename_i c
    refine ⟨?_, (Option.some.inj h).symm⟩
    obtain ⟨c1, c2, c3⟩ := c
    have h2 : i.natAbs < 2 ^ 1000000 := by
      by_cases h0 : i.natAbs = 0
      · rw [h0]; exact Nat.two_pow_pos _
      · exact (Nat.log2_lt h0).mp c3
    have := shl_ok (i := i) (j := j.toNat) h2 (by omega)
    rwa [Int.toNat_of_nonneg c1] at this
  · cases h
theorem shr_ok : OpR X (binaryOp .RShift) (rD2 X.K P (int2 shrI)) := int2_ok op_shr fun i j k h => by
  unfold shrI at h
  split at h
  · exact ⟨by assumption, (Option.some.inj h).symm⟩
  · cases h

/-! ### texts, tuples, lists -/
def addS : D → D → Sto → OD
  | .str x, .str y, st => if x.length + y.length ≤ 16000000 then some (.str (x ++ y), st) else none
  | _, _, _ => none
theorem addS_ok : OpR X (binaryOp .Add) (rD2 X.K P addS) := by
  intro pins s σ H x y v u Q I rx ry q
  obtain ⟨M, st, dx, dy, a, r1, r2, p⟩ := q
  unfold addS at p
  split at p
  · rename_i i j
    rw [dv_str] at r1 r2
    split at p
    · exact op_add_str pins s σ H x y v u Q I rx ry ⟨i, j, r1, r2, by rw [sizeLine_eq]; omega, p.str a⟩
    · exact p.not.elim
  · exact p.not.elim
def addT : D → D → Sto → OD
  | .tup xs, .tup ys, st => if xs.length + ys.length ≤ 100000 then some (.tup (xs ++ ys), st) else none
  | _, _, _ => none
theorem addT_ok : OpR X (binaryOp .Add) (rD2 X.K P addT) := by
  intro pins s σ H x y v u Q I rx ry q
  obtain ⟨M, st, dx, dy, a, r1, r2, p⟩ := q
  unfold addT at p
  split at p
  · rename_i xs ys
    split at p
    · rename_i hl
      obtain ⟨t1, vs, rfl, h1, g1⟩ := dv_tup.mp r1
      obtain ⟨t2, ws, rfl, h2, g2⟩ := dv_tup.mp r2
      refine op_catA pins s σ H _ _ v u Q I rx ry ⟨t1, t2, vs, ws, rfl, rfl, h1, h2, by rw [← g1.length, ← g2.length]; exact le_line hl, fun e => ?_, fun _ e => ?_, fun _ _ p' hp => p.tup rfl a (g1.append g2) hp⟩
      · subst e
        have : xs = [] := List.eq_nil_of_length_eq_zero g1.length
        subst this
        exact p.pure a r2
      · subst e
        have : ys = [] := List.eq_nil_of_length_eq_zero g2.length
        subst this
        rw [List.append_nil] at p
        exact p.pure a r1
    · exact p.not.elim
  · exact p.not.elim
def addL : D → D → Sto → OD
  | .loc n, .loc m, st => match st[n]?, st[m]? with
    | some (.lst xs), some (.lst ys) => if xs.length + ys.length ≤ 100000 then some (.loc st.length, st ++ [.lst (xs ++ ys)]) else none
    | _, _ => none
  | _, _, _ => none
theorem addL_ok : OpR X (binaryOp .Add) (rD2 X.K P addL) := by
  intro pins s σ H x y v u Q I rx ry q
  obtain ⟨M, st, dx, dy, a, r1, r2, p⟩ := q
  unfold addL at p
  split at p
  · rename_i n m
    split at p
    · rename_i xs ys e1 e2
      split at p
      · rename_i hl
        obtain ⟨t1, rfl, h1⟩ := dv_loc.mp r1
        obtain ⟨t2, rfl, h2⟩ := dv_loc.mp r2
        obtain ⟨q1, vs, k1, k2, g1⟩ := a.lst e1
        obtain ⟨q2, ws, k3, k4, g2⟩ := a.lst e2
        rw [h1] at k1; cases k1
        rw [h2] at k3; cases k3
        exact op_cat pins s σ H _ _ v u Q I rx ry ⟨t1, t2, vs, ws, rfl, rfl, k2, k4, by rw [← g1.length, ← g2.length]; exact le_line hl, fun p' hp => p.lst rfl a (g1.append g2) hp⟩
      · exact p.not.elim
    · exact p.not.elim
  · exact p.not.elim
def addD : D → D → Sto → OD := alt2 (int2 fun i j => some (i + j)) (alt2 addS (alt2 addT addL))
theorem add_ok : OpR X (binaryOp .Add) (rD2 X.K P addD) := alt2_ok (int20_ok op_add) (alt2_ok addS_ok (alt2_ok addT_ok addL_ok))
def subD : D → D → Sto → OD := int2 fun i j => some (i - j)
theorem sub_ok : OpR X (binaryOp .Sub) (rD2 X.K P subD) := int20_ok op_sub
def repT : D → D → Sto → OD
  | .tup xs, .int k, st => if xs ≠ [] ∧ 2 ≤ k ∧ k ≤ 1000 ∧ xs.length ≤ 1000 then some (.tup (List.replicate k.toNat xs).flatten, st) else none
  | _, _, _ => none
theorem DVs.rep {K : PySem.W.Frag} {M : List Addr} {H : Hp} {ds : List D} {vs : List V} (h : DVs K M H ds vs) : ∀ k : Nat, DVs K M H (List.replicate k ds).flatten (List.replicate k vs).flatten
  | 0 => dvs_nil
  | k + 1 => by
    rw [List.replicate_succ, List.replicate_succ, List.flatten_cons, List.flatten_cons]
    exact h.append (DVs.rep h k)
theorem repT_ok : OpR X (binaryOp .Mult) (rD2 X.K P repT) := by
  intro pins s σ H x y v u Q I rx ry q
  obtain ⟨M, st, dx, dy, a, r1, r2, p⟩ := q
  unfold repT at p
  split at p
  · rename_i xs k
    rw [dv_int] at r2
    obtain ⟨t1, vs, rfl, h1, g1⟩ := dv_tup.mp r1
    split at p
    · rename_i hl
      obtain ⟨c1, c2, c3, c4⟩ := hl
      refine op_repT pins s σ H _ y v u Q I rx ry ⟨t1, k, vs, rfl, r2, h1, fun e => c1 ?_, c2, c3, by rw [← g1.length]; exact c4, fun p' hp => p.tup rfl a (g1.rep _) hp⟩
      subst e
      exact List.eq_nil_of_length_eq_zero g1.length
    · exact p.not.elim
  · exact p.not.elim
def repL : D → D → Sto → OD
  | .loc n, .int k, st => match st[n]? with
    | some (.lst xs) => if -1000000 ≤ k ∧ k ≤ 1000000 ∧ xs.length * k.toNat ≤ 100000 then some (.loc st.length, st ++ [.lst (List.replicate k.toNat xs).flatten]) else none
    | _ => none
  | _, _, _ => none
theorem repL_ok : OpR X (binaryOp .Mult) (rD2 X.K P repL) := by
  intro pins s σ H x y v u Q I rx ry q
  obtain ⟨M, st, dx, dy, a, r1, r2, p⟩ := q
  unfold repL at p
  split at p
  · rename_i n k
    rw [dv_int] at r2
    split at p
    · rename_i xs e1
      split at p
      · rename_i hl
        obtain ⟨c1, c2, c3⟩ := hl
        obtain ⟨t1, rfl, h1⟩ := dv_loc.mp r1
        obtain ⟨q1, vs, k1, k2, g1⟩ := a.lst e1
        rw [h1] at k1; cases k1
        exact op_rep pins s σ H _ y v u Q I rx ry ⟨t1, k, vs, rfl, r2, k2, by omega, by omega, by rw [← g1.length]; exact le_line c3, fun p' hp => p.lst rfl a (g1.rep _) hp⟩
      · exact p.not.elim
    · exact p.not.elim
  · exact p.not.elim
def mulD : D → D → Sto → OD := alt2 (int2 mulI) (alt2 repT repL)
theorem mulD_ok : OpR X (binaryOp .Mult) (rD2 X.K P mulD) := alt2_ok mul_ok (alt2_ok repT_ok repL_ok)

/-! ### comparisons -/
/-! ### == -/
def eqS : D → D → Sto → OD
  | .int a, .int b, st => some (.bl (decide (a = b)), st)
  | .str a, .str b, st => some (.bl (decide (a = b)), st)
  | .bl a, .bl b, st => some (.bl (decide (a = b)), st)
  | .non, .non, st => some (.bl true, st)
  | .non, .int _, st => some (.bl false, st)
  | .int _, .non, st => some (.bl false, st)
  | .non, .str _, st => some (.bl false, st)
  | .str _, .non, st => some (.bl false, st)
  | .non, .bl _, st => some (.bl false, st)
  | .bl _, .non, st => some (.bl false, st)
  | .int _, .str _, st => some (.bl false, st)
  | .str _, .int _, st => some (.bl false, st)
  | .bl _, .str _, st => some (.bl false, st)
  | .str _, .bl _, st => some (.bl false, st)
  | _, _, _ => none
/-- what scalars are as values -/
def scV : D → Option V
  | .non => some .non | .bl b => some (.bl b) | .int i => some (.int i) | .str x => some (.str x) | _ => none
theorem scV_of {K : PySem.W.Frag} {M : List Addr} {H : Hp} {d : D} {v w : V} (h : DV K M H d v) (e : scV d = some w) : v = w := by
  cases d <;> simp only [scV, Option.some.injEq, reduceCtorEq] at e <;> subst e
  · exact dv_non.mp h
  · exact dv_bl.mp h
  · exact dv_int.mp h
  · exact dv_str.mp h
theorem eqS_sc {a b : D} {st : Sto} {r : D × Sto} (h : eqS a b st = some r) : ∃ v w, scV a = some v ∧ scV b = some w ∧ scal v w = true ∧ r = (.bl (decide (v = w)), st) := by
  cases a <;> cases b <;> simp only [eqS, Option.some.injEq, reduceCtorEq] at h <;> subst h <;> refine ⟨_, _, rfl, rfl, rfl, ?_⟩ <;> simp
theorem eqS_ok : OpR X (compareOp .Eq) (rD2 X.K P eqS) := by
  intro pins s σ H x y v u Q I rx ry q
  obtain ⟨M, st, dx, dy, a, r1, r2, p⟩ := q
  cases e : eqS dx dy st with
  | none => rw [e] at p; exact p.not.elim
  | some r =>
    rw [e] at p
    obtain ⟨x', y', h1, h2, h3, rfl⟩ := eqS_sc e
    have e1 := scV_of r1 h1
    have e2 := scV_of r2 h2
    subst e1 e2
    exact op_eq pins s σ H _ _ v u Q I rx ry ⟨h3, p.bl a⟩
def negB (f : D → D → Sto → OD) : D → D → Sto → OD := fun x y st => match f x y st with
  | some (.bl b, st') => some (.bl (!b), st')
  | _ => none
theorem neS_ok : OpR X (compareOp .NotEq) (rD2 X.K P (negB eqS)) := by
  intro pins s σ H x y v u Q I rx ry q
  obtain ⟨M, st, dx, dy, a, r1, r2, p⟩ := q
  unfold negB at p
  cases e : eqS dx dy st with
  | none => rw [e] at p; exact p.not.elim
  | some r =>
    rw [e] at p
    obtain ⟨x', y', h1, h2, h3, rfl⟩ := eqS_sc e
    have e1 := scV_of r1 h1
    have e2 := scV_of r2 h2
    subst e1 e2
    exact op_ne pins s σ H _ _ v u Q I rx ry ⟨h3, p.bl a⟩
/-- all or none -/
def mapO {α β : Type} (f : α → Option β) : List α → Option (List β)
  | [] => some []
  | x :: xs => match f x, mapO f xs with
    | some y, some ys => some (y :: ys)
    | _, _ => none
def keyP : Key → PyData
  | .inl i => .int i | .inr x => .str x
/-- the data that a value tells -/
def toP (st : Sto) : Nat → D → Option PyData
  | 0, _ => none
  | _ + 1, .non => some .none
  | _ + 1, .bl b => some (.bool b)
  | _ + 1, .int i => some (.int i)
  | _ + 1, .str x => some (.str x)
  | n + 1, .tup ds => (mapO (toP st n) ds).map .tuple
  | n + 1, .fz ds => (mapO (toP st n) ds).map .list
  | n + 1, .loc k => match st[k]? with
    | some (.lst ds) => (mapO (toP st n) ds).map .list
    | some (.dK kvs) => (mapO (fun kv => (toP st n kv.2).map fun p => (keyP kv.1, p)) kvs).map .dict
    | _ => none
  | _ + 1, .exo _ => none
mutual
def noList : PyData → Bool
  | .list _ => false
  | .tuple xs => noListAll xs
  | .dict kvs => noListKv kvs
  | _ => true
def noListAll : List PyData → Bool
  | [] => true
  | x :: xs => noList x && noListAll xs
def noListKv : List (PyData × PyData) → Bool
  | [] => true
  | (k, v) :: r => noList k && noList v && noListKv r
end
section
variable {pins : List (Addr × Obj)} {s : Shared} {σ : L2.St} {H : Hp} {M : List Addr} {st : Sto}
/-- reads, and where no list is in it none of the addresses is the one that may not be read -/
def RdP (h : Heap) (u : Value) (p : PyData) : Prop := ∃ as, Reads h u p as ∧ (noList p = true → sysModules ∉ as)
def RdPs (h : Heap) (us : List Value) (ps : List PyData) : Prop := ∃ as, ReadsAll h us ps as ∧ (noListAll ps = true → sysModules ∉ as)
theorem rd_all {n : Nat} (ih : ∀ (d : D) (p : PyData) (v : V) (u : Value), toP st n d = some p → DV X.K M H d v → RelV v u → RdP s.heap u p) :
    ∀ (ds : List D) (ps : List PyData) (vs : List V) (us : List Value), mapO (toP st n) ds = some ps → DVs X.K M H ds vs → Vals vs us → RdPs s.heap us ps
  | [], ps, vs, us, e, h, r => by
    simp only [mapO, Option.some.injEq] at e
    subst e
    rw [h.nil_inv] at r
    cases r
    exact ⟨_, .nil, fun _ => by simp⟩
  | d :: ds, ps, vs, us, e, h, r => by
    simp only [mapO] at e
    split at e
    · rename_i y ys e1 e2
      cases e
      obtain ⟨v, vr, rfl, h1, h2⟩ := h.cons_inv
      cases r with
      | cons r1 r2 =>
        obtain ⟨as, q1, q2⟩ := ih d y v _ e1 h1 r1
        obtain ⟨bs, q3, q4⟩ := rd_all ih ds ys vr _ e2 h2 r2
        refine ⟨_, .cons q1 q3, fun hn => ?_⟩
        simp only [noListAll, Bool.and_eq_true] at hn
        rw [List.mem_append]
        rintro (z | z)
        · exact q2 hn.1 z
        · exact q4 hn.2 z
    · cases e
theorem rd_pairs {n : Nat} (ih : ∀ (d : D) (p : PyData) (v : V) (u : Value), toP st n d = some p → DV X.K M H d v → RelV v u → RdP s.heap u p) :
    ∀ (kvs : List (Key × D)) (ps : List (PyData × PyData)) (ws : List (Key × V)) (us : List (Key × Value)) (es : List DictEntry), mapO (fun kv => (toP st n kv.2).map fun p => (keyP kv.1, p)) kvs = some ps → DKs X.K M H kvs ws → KV ws us → Pairs (mixKind X.prog X.w) es us →
    ∃ bs, ReadsAll s.heap (es.map (·.key)) (ps.map (·.1)) [] ∧ ReadsAll s.heap (es.map (·.val)) (ps.map (·.2)) bs ∧ (noListKv ps = true → sysModules ∉ bs)
  | [], ps, ws, us, es, e, h, r, pr => by
    simp only [mapO, Option.some.injEq] at e
    subst e
    unfold DKs at h
    subst h
    cases r
    cases pr
    exact ⟨_, .nil, .nil, fun _ => by simp⟩
  | (k, d) :: kvs, ps, ws, us, es, e, h, r, pr => by
    simp only [mapO] at e
    split at e
    · rename_i y ys e1 e2
      cases e
      unfold DKs at h
      obtain ⟨v, vr, rfl, h1, h2⟩ := h
      cases r with
      | cons r1 r2 =>
        cases pr with
        | @cons en kv es' kvs' p1 p2 p3 =>
          obtain ⟨rk, rv⟩ := r1
          obtain ⟨bs, q1, q2, q3⟩ := rd_pairs ih kvs ys vr _ _ e2 h2 r2 p3
          obtain ⟨pd, hp, rfl⟩ := Option.map_eq_some_iff.mp e1
          obtain ⟨as, t1, t2⟩ := ih d pd v _ hp h1 rv
          have hk : Reads s.heap en.key (keyP k) [] := by
            rw [← rk] at p1
            rcases keyIs_shape p1 with ⟨i, t, e3, e4⟩ | ⟨i, t, e3, e4⟩
            · rw [e4, show k = _ from e3]; exact .int i t
            · rw [e4, show k = _ from e3]; exact .str i t
          rw [← p2] at t1
          refine ⟨as ++ bs, ?_, .cons t1 q2, fun hn => ?_⟩
          · have := ReadsAll.cons hk q1
            simpa using this
          · simp only [noListKv, Bool.and_eq_true] at hn
            rw [List.mem_append]
            rintro (z | z)
            · exact t2 hn.1.2 z
            · exact q3 hn.2 z
    · cases e
theorem rd_of (I : Inv X pins σ H s) (a : At X.K P M H st) : ∀ (n : Nat) (d : D) (p : PyData) (v : V) (u : Value), toP st n d = some p → DV X.K M H d v → RelV v u → RdP s.heap u p
  | 0, _, _, _, _, e, _, _ => by cases e
  | n + 1, d, p, v, u, e, h, r => by
    have ih := rd_of I a n
    cases d with
    | non => cases e; rw [dv_non.mp h] at r; cases r; exact ⟨_, .none, fun _ => by simp⟩
    | bl b => cases e; rw [dv_bl.mp h] at r; cases r; exact ⟨_, .bool b, fun _ => by simp⟩
    | int i => cases e; rw [dv_int.mp h] at r; obtain ⟨t, rfl⟩ := r; exact ⟨_, .int i t, fun _ => by simp⟩
    | str i => cases e; rw [dv_str.mp h] at r; obtain ⟨t, rfl⟩ := r; exact ⟨_, .str i t, fun _ => by simp⟩
    | tup ds =>
      obtain ⟨ps, hp, rfl⟩ := Option.map_eq_some_iff.mp e
      obtain ⟨b, vs, rfl, h1, h2⟩ := dv_tup.mp h
      cases r
      obtain ⟨its, rv, ⟨o, ho, hc, k, hd⟩, _⟩ := I.tuple h1
      obtain ⟨as, q1, q2⟩ := rd_all ih ds ps vs its hp h2 rv
      exact ⟨as, .tuple ho hc hd q1, q2⟩
    | fz ds =>
      obtain ⟨ps, hp, rfl⟩ := Option.map_eq_some_iff.mp e
      obtain ⟨b, vs, rfl, h1, h2⟩ := dv_fz.mp h
      cases r
      obtain ⟨its, rv, ⟨o, k, ho, hc, _, hd⟩, _⟩ := I.list h1.sq
      obtain ⟨as, q1, q2⟩ := rd_all ih ds ps vs its hp h2 rv
      exact ⟨_, .list ho hc hd q1, fun z => by cases z⟩
    | loc k =>
      obtain ⟨b, rfl, hb⟩ := dv_loc.mp h
      cases r
      simp only [toP] at e
      split at e
      · rename_i ds e1
        obtain ⟨ps, hp, rfl⟩ := Option.map_eq_some_iff.mp e
        obtain ⟨b', vs, k1, k2, h2⟩ := a.lst e1
        rw [hb] at k1; cases k1
        obtain ⟨its, rv, ⟨o, k', ho, hc, _, hd⟩, _⟩ := I.list (SqL.of k2)
        obtain ⟨as, q1, q2⟩ := rd_all ih ds ps vs its hp h2 rv
        exact ⟨_, .list ho hc hd q1, fun z => by cases z⟩
      · rename_i kvs e1
        obtain ⟨ps, hp, rfl⟩ := Option.map_eq_some_iff.mp e
        obtain ⟨b', vs, k1, k2, h2⟩ := a.dK e1
        rw [hb] at k1; cases k1
        obtain ⟨_, hsys, us, rk, o, es, ep, ho, ⟨hx, _⟩, hd, _, pr, _⟩ := I.hok b _ k2
        obtain ⟨bs, q1, q2, q3⟩ := rd_pairs ih kvs ps vs us es.toList hp h2 rk pr
        refine ⟨_, .dict ho hx hd q1 q2, fun z => ?_⟩
        rw [List.cons_append, List.nil_append, List.mem_cons]
        rintro (y | y)
        · rw [← y] at hsys; simp at hsys
        · exact q3 z y
      · cases e
    | exo k => exact (dv_exo h).elim
end
def shownD (d : D) (st : Sto) : Option Str := match toP st 30 d with
  | some p => if p.showable = true ∧ p.shown.length ≤ 16000000 ∧ p.depth ≤ 50 ∧ (p.hasDict = true → noList p = true) then some p.shown else none
  | none => none
def eqP : D → D → Sto → OD := fun x y st => match toP st 30 x, toP st 30 y with
  | some p, some q => if SeqAt.shaped p = true ∧ SeqAt.shaped q = true then some (.bl (PyData.eqv p q), st) else none
  | _, _ => none
theorem eqP_ok (hu : X.A.units + 64 < cLine) : OpR X (compareOp .Eq) (rD2 X.K P eqP) := by
  intro pins s σ H x y v u Q I rx ry q
  obtain ⟨M, st, dx, dy, a, r1, r2, p⟩ := q
  unfold eqP at p
  split at p
  · rename_i p1 p2 e1 e2
    split at p
    · rename_i hs
      obtain ⟨as, q1, _⟩ := rd_of I a 30 dx p1 x v e1 r1 rx
      obtain ⟨bs, q2, _⟩ := rd_of I a 30 dy p2 y u e2 r2 ry
      exact SeqAt.compareEq_shaped q1 q2 hs.1 hs.2 hu ⟨.bl _, H, I, rfl, p.bl a⟩
    · exact p.not.elim
  · exact p.not.elim
theorem neP_ok (hu : X.A.units + 64 < cLine) : OpR X (compareOp .NotEq) (rD2 X.K P (negB eqP)) := by
  intro pins s σ H x y v u Q I rx ry q
  obtain ⟨M, st, dx, dy, a, r1, r2, p⟩ := q
  unfold negB eqP at p
  split at p
  · rename_i b st' e
    split at e
    · rename_i p1 p2 e1 e2
      split at e
      · rename_i hs
        cases e
        obtain ⟨as, q1, _⟩ := rd_of I a 30 dx p1 x v e1 r1 rx
        obtain ⟨bs, q2, _⟩ := rd_of I a 30 dy p2 y u e2 r2 ry
        exact SeqAt.compareNe_shaped q1 q2 hs.1 hs.2 hu ⟨.bl _, H, I, rfl, p.bl a⟩
      · cases e
    · cases e
  · exact p.not.elim
def eqD : D → D → Sto → OD := alt2 eqS eqP
def neD : D → D → Sto → OD := alt2 (negB eqS) (negB eqP)
theorem eq_ok (hu : X.A.units + 64 < cLine) : OpR X (compareOp .Eq) (rD2 X.K P eqD) := alt2_ok eqS_ok (eqP_ok hu)
theorem ne_ok (hu : X.A.units + 64 < cLine) : OpR X (compareOp .NotEq) (rD2 X.K P neD) := alt2_ok neS_ok (neP_ok hu)
def reprD : List D → Sto → OD
  | [d], st => (shownD d st).map fun x => (.str x, st)
  | _, _ => none
theorem repr_any {pins : List (Addr × Obj)} {s : Shared} {σ : L2.St} {H : Hp} {Q : VK} {u : Value} {p : PyData} (I : Inv X pins σ H s) (hu : X.A.units + 64 < cLine) (hg : X.A.guards = some []) (r : RdP s.heap u p) (h1 : p.showable = true) (h2 : p.shown.length ≤ 16000000) (h3 : p.depth ≤ 50) (h4 : p.hasDict = true → noList p = true)
    (q : Q (.str p.shown) H) : wpAny (model X.prog X.w) X.A (call (.builtin "repr") [u]) (EP X pins σ Q) X.xe s := by
  have hz : p.shown.length ≤ sizeLine := by rw [sizeLine_eq]; omega
  obtain ⟨as, r, hs⟩ := r
  have fin : ∀ h' t tk, (∀ b o, s.heap.get? b = some o → h'.get? b = some o) → EP X pins σ Q (.str p.shown t) { s with heap := h', toks := tk } := fun h' t tk k => ⟨.str p.shown, H, I.kept k, ⟨t, rfl⟩, q⟩
  cases r with
  | none => exact PySem.P.repr_of_none (fin _ _ _ fun _ _ h => h)
  | bool b => exact PySem.P.repr_of_bool (fin _ _ _ fun _ _ h => h)
  | int i t => exact PySem.P.repr_of_int (by simpa [PyData.showable] using h1) (fin _ _ _ fun _ _ h => h)
  | str x t => exact PySem.P.repr_of_str (fin _ _ _ fun _ _ h => h) hz
  | list a1 a2 a3 a4 => exact repr_of_reads' (.list a1 a2 a3 a4) h1 (fun hd => hs (h4 hd)) hg (by omega) (fun _ _ h => h) fin hz
  | tuple a1 a2 a3 a4 => exact repr_of_reads' (.tuple a1 a2 a3 a4) h1 (fun hd => hs (h4 hd)) hg (by omega) (fun _ _ h => h) fin hz
  | dict a1 a2 a3 a4 a5 => exact repr_of_reads' (.dict a1 a2 a3 a4 a5) h1 (fun hd => hs (h4 hd)) hg (by omega) (fun _ _ h => h) fin hz
theorem vals_one {x : V} {us : List Value} (r : Vals [x] us) : ∃ u, us = [u] ∧ RelV x u := vals1 r
theorem repr_ok (hu : X.A.units + 64 < cLine) (hg : X.A.guards = some []) : CallR X (.builtin "repr") (rDL X.K P reprD) := by
  intro pins s σ H xs us Q I r h
  obtain ⟨M, st, ds, a, rd, p⟩ := h
  unfold reprD at p
  split at p
  · rename_i d
    obtain ⟨v, vr, rfl, h1, h2⟩ := rd.cons_inv
    rw [h2.nil_inv] at r
    obtain ⟨u, rfl, ru⟩ := vals1 r
    unfold shownD at p
    split at p
    · rename_i w e
      split at p
      · rename_i hc
        obtain ⟨c1, c2, c3, c4⟩ := hc
        exact repr_any I hu hg (rd_of I a 30 d w v u e h1 ru) c1 c2 c3 c4 (p.str a)
      · exact p.not.elim
    · exact p.not.elim
  · exact p.not.elim
end
end
end Q
end

section
set_option Elab.async false
set_option linter.all false
set_option maxRecDepth 100000
set_option maxHeartbeats 1000000
set_option autoImplicit false
/-! Truth, and, or, chains, choices, places, slices; builtin functions and methods. -/
namespace Q
open PySem PySem.Spec PyProof.Rows L2

def cutD {α : Type} (xs : List α) (lo hi : Option Int) : List α := (xs.drop (HT.sIx xs.length 0 lo)).take (HT.sIx xs.length xs.length hi - HT.sIx xs.length 0 lo)
def truD (d : D) (st : Sto) : Option Bool := match d with
  | .non => some false
  | .bl b => some b
  | .int i => some (i != 0)
  | .str x => if x.length ≤ 16000000 then some ((x.length : Int) != 0) else none
  | .tup ds => some (!ds.isEmpty)
  | .fz ds => some (!ds.isEmpty)
  | .loc n => match st[n]? with
    | some (.lst ds) => some (!ds.isEmpty)
    | some (.dK ds) => some (!ds.isEmpty)
    | _ => none
  | .exo _ => none
def lenD : List D → Sto → OD
  | [.str x], st => if x.length ≤ 16000000 then some (.int x.length, st) else none
  | [.tup ds], st => some (.int ds.length, st)
  | [.fz ds], st => some (.int ds.length, st)
  | [.loc n], st => match st[n]? with
    | some (.lst ds) => some (.int ds.length, st)
    | some (.dK ds) => some (.int ds.length, st)
    | _ => none
  | _, _ => none
section
variable {K : PySem.W.Frag} {P : Par} {M : List Addr} {H : Hp} {st : Sto}
theorem DVs.empty {ds : List D} {vs : List V} (h : DVs K M H ds vs) : (!ds.isEmpty) = !vs.isEmpty := by
  cases ds with
  | nil => rw [h.nil_inv]; rfl
  | cons d ds => obtain ⟨v, vr, rfl, _⟩ := h.cons_inv; rfl
theorem DKs.length {κ : Type} : ∀ {ds : List (κ × D)} {vs : List (κ × V)}, DKs K M H ds vs → ds.length = vs.length
  | [], _, h => by unfold DKs at h; rw [h]; rfl
  | (k, d) :: ds, _, h => by
    unfold DKs at h
    obtain ⟨v, vr, rfl, _, h2⟩ := h
    rw [List.length_cons, List.length_cons, DKs.length h2]
theorem DKs.empty {κ : Type} {ds : List (κ × D)} {vs : List (κ × V)} (h : DKs K M H ds vs) : (!ds.isEmpty) = !vs.isEmpty := by
  have := h.length
  cases ds <;> cases vs <;> simp at this ⊢
theorem tru_of (a : At K P M H st) {d : D} {v : V} {k : Bool} (h : DV K M H d v) (e : truD d st = some k) : TruV K v H k := by
  cases d with
  | non => rw [dv_non.mp h]; cases e; rfl
  | bl b => rw [dv_bl.mp h]; cases e; rfl
  | int b => rw [dv_int.mp h]; cases e; rfl
  | str b =>
    rw [dv_str.mp h]
    simp only [truD] at e
    split at e
    · cases e; exact ⟨by rw [sizeLine_eq]; omega, rfl⟩
    · cases e
  | tup ds =>
    obtain ⟨p, vs, rfl, h1, h2⟩ := dv_tup.mp h
    cases e
    exact .inr (.inl ⟨vs, h1, h2.empty⟩)
  | fz ds =>
    obtain ⟨p, vs, rfl, h1, h2⟩ := dv_fz.mp h
    cases e
    exact .inl ⟨vs, h1.sq, h2.empty⟩
  | loc n =>
    obtain ⟨p, rfl, h1⟩ := dv_loc.mp h
    simp only [truD] at e
    split at e
    · rename_i ds e1
      obtain ⟨q, vs, k1, k2, h2⟩ := a.lst e1
      rw [h1] at k1; cases k1
      cases e
      exact .inl ⟨vs, SqL.of k2, h2.empty⟩
    · rename_i ds e1
      obtain ⟨q, vs, k1, k2, h2⟩ := a.dK e1
      rw [h1] at k1; cases k1
      cases e
      exact .inr (.inr ⟨vs, k2, h2.empty⟩)
    · cases e
  | exo k => cases e
end
def ofB (r : Option Bool) (st : Sto) : Res Bool := match r with
  | some b => .ok b st
  | none => .err
def blB (d : D) (st : Sto) : Res Bool := match d with
  | .bl b => .ok b st
  | _ => .err
section
variable {X : Cx} {P : Par} {W : WX} {a b c : Expr} {Fa Fb Fc : Ev → Sto → Res D} {Ta Tb Tc : Ev → Sto → Res Bool} {pos : Pos}
abbrev fTru (Fa : Ev → Sto → Res D) : Ev → Sto → Res Bool := fun env st => (Fa env st).bind fun d s1 => ofB (truD d s1) s1
theorem q_tru (ha : PE X a (tE X.K P W Fa)) (he : ∀ whole, isTrue a X.env whole = (do let v ← whole; standAt a.pos; holding [v] (truthy v))) : PT X a (tT X.K P W (fTru Fa)) := by
  refine ⟨fun pins s σ H Q I h => (pt_truth ha he).run pins s σ H Q I ?_⟩
  obtain ⟨M, env, st, sl, at_, p⟩ := h
  refine tG.go sl at_ p fun x H1 d M1 st1 s1 a1 sl1 r1 p1 => ?_
  cases e : truD d st1 with
  | none => rw [e] at p1; exact p1.elim
  | some k => rw [e] at p1; exact ⟨k, tru_of a1 r1 e, p1 k M1 H1 (Stp.refl _ _) a1 rfl⟩
abbrev fBl (Fa : Ev → Sto → Res D) : Ev → Sto → Res Bool := fun env st => (Fa env st).bind blB
/-- a test of which the value's rule is known to give a bool -/
theorem q_tb {ta : TE} (hp : PT X c (tTest ta)) (hr : ∀ σ H Q, tE X.K P W Fa σ H Q → ta σ H Q) : PT X c (tT X.K P W (fBl Fa)) := by
  refine ⟨fun pins s σ H Q I h => hp.run pins s σ H Q I (hr _ _ _ ?_)⟩
  obtain ⟨M, env, st, sl, at_, p⟩ := h
  refine tG.go sl at_ p fun x H1 d M1 st1 s1 a1 sl1 r1 p1 => ?_
  cases d with
  | bl k => exact ⟨k, dv_bl.mp r1, p1 k M1 H1 (Stp.refl _ _) a1 rfl⟩
  | _ => exact p1.elim
theorem q_tcmp {op : CmpOp} {g : D → D → Sto → OD} (ho : OpR X (compareOp op) (rD2 X.K P g)) (ha : PE X a (tE X.K P W Fa)) (hb : PE X b (tE X.K P W Fb)) (hm : behindInMarks op b = false) :
    PT X (.Compare a [op] [b] pos) (tT X.K P W (fBl fun env st => (Fa env st).bind fun x s1 => (Fb env s1).bind fun y s2 => ofO (g x y s2))) := by
  refine q_tb (pt_cmpR ho ha hb hm) fun σ H Q h => ?_
  obtain ⟨M, env, st, sl, at_, p⟩ := h
  exact tG.go sl at_ p fun x H1 dx M1 st1 s1 a1 sl1 r1 p1 => tG.go sl1 a1 p1 fun y H2 dy M2 st2 s2 a2 sl2 r2 p2 => ⟨M2, st2, dx, dy, a2, r1.mono a1.mok s2, r2, p2.toO⟩
/-! chains -/
abbrev fChain (g g' : D → D → Sto → OD) (Fa Fb Fc : Ev → Sto → Res D) : Ev → Sto → Res D := fun env st => (Fa env st).bind fun x s1 => (Fb env s1).bind fun y s2 => (ofO (g x y s2)).bind fun z s3 => (blB z s3).bind fun k s4 =>
  if k = true then (Fc env s4).bind fun w s5 => ofO (g' y w s5) else .ok (.bl false) s4
theorem q_chain_r {g g' : D → D → Sto → OD} {σ : L2.St} {H : Hp} {Q : VK} (h : tE X.K P W (fChain g g' Fa Fb Fc) σ H Q) : tChain (rD2 X.K P g) (rD2 X.K P g') (tE X.K P W Fa) (tE X.K P W Fb) (tE X.K P W Fc) σ H Q := by
  obtain ⟨M, env, st, sl, at_, p⟩ := h
  refine tG.go sl at_ p fun x H1 dx M1 st1 s1 a1 sl1 r1 p1 => tG.go sl1 a1 p1 fun y H2 dy M2 st2 s2 a2 sl2 r2 p2 => ⟨M2, st2, dx, dy, a2, r1.mono a1.mok s2, r2, ?_⟩
  cases e : g dx dy st2 with
  | none => rw [e] at p2; exact p2.elim
  | some r =>
    obtain ⟨z, s3⟩ := r
    rw [e] at p2
    refine ⟨z, s3, rfl, fun v M3 H3 t3 a3 r3 => ?_⟩
    cases z with
    | bl k =>
      refine ⟨k, dv_bl.mp r3, ?_⟩
      have p3 := Post.step t3 p2
      have sl3 := sl2.mono a2.mok t3
      have r2' := r2.mono a2.mok t3
      cases k with
      | true =>
        rw [if_pos rfl]
        exact tG.go sl3 a3 p3 fun w H4 dw M4 st4 s4 a4 sl4 r4 p4 => ⟨M4, st4, dy, dw, a4, r2'.mono a3.mok s4, r4, p4.toO⟩
      | false =>
        rw [if_neg Bool.false_ne_true]
        exact p3 (.bl false) M3 H3 (Stp.refl _ _) a3 (dv_bl.mpr rfl)
    | _ => exact p2.elim
theorem q_chain {op op' : CmpOp} {g g' : D → D → Sto → OD} (ho : OpR X (compareOp op) (rD2 X.K P g)) (ho' : OpR X (compareOp op') (rD2 X.K P g')) (ha : PE X a (tE X.K P W Fa)) (hb : PE X b (tE X.K P W Fb)) (hc : PE X c (tE X.K P W Fc)) (hm : lastMarks [op, op'] [b, c] = false) :
    PE X (.Compare a [op, op'] [b, c] pos) (tE X.K P W (fChain g g' Fa Fb Fc)) :=
  ⟨fun pins s σ H Q I h => (pe_chain ho ho' ha hb hc hm).run pins s σ H Q I (q_chain_r h)⟩
theorem q_tchain {op op' : CmpOp} {g g' : D → D → Sto → OD} (ho : OpR X (compareOp op) (rD2 X.K P g)) (ho' : OpR X (compareOp op') (rD2 X.K P g')) (ha : PE X a (tE X.K P W Fa)) (hb : PE X b (tE X.K P W Fb)) (hc : PE X c (tE X.K P W Fc)) (hm : lastMarks [op, op'] [b, c] = false) :
    PT X (.Compare a [op, op'] [b, c] pos) (tT X.K P W (fBl (fChain g g' Fa Fb Fc))) := q_tb (pt_chain ho ho' ha hb hc hm) fun σ H Q h => q_chain_r h
/-! and, or, not, if -/
abbrev fAnd (Fa Fb : Ev → Sto → Res D) : Ev → Sto → Res D := fun env st => (Fa env st).bind fun x s1 => (ofB (truD x s1) s1).bind fun k s2 => if k = true then Fb env s2 else .ok x s2
abbrev fOr (Fa Fb : Ev → Sto → Res D) : Ev → Sto → Res D := fun env st => (Fa env st).bind fun x s1 => (ofB (truD x s1) s1).bind fun k s2 => if k = true then .ok x s2 else Fb env s2
abbrev fNot (Fa : Ev → Sto → Res D) : Ev → Sto → Res D := fun env st => (Fa env st).bind fun x s1 => (ofB (truD x s1) s1).bind fun k s2 => .ok (.bl (!k)) s2
abbrev gAnd (Ta Tb : Ev → Sto → Res Bool) : Ev → Sto → Res Bool := fun env st => (Ta env st).bind fun k s1 => if k = true then Tb env s1 else .ok false s1
abbrev gOr (Ta Tb : Ev → Sto → Res Bool) : Ev → Sto → Res Bool := fun env st => (Ta env st).bind fun k s1 => if k = true then .ok true s1 else Tb env s1
abbrev gNot (Ta : Ev → Sto → Res Bool) : Ev → Sto → Res Bool := fun env st => (Ta env st).bind fun k s1 => .ok (!k) s1
abbrev fIf (Tc : Ev → Sto → Res Bool) (Fa Fb : Ev → Sto → Res D) : Ev → Sto → Res D := fun env st => (Tc env st).bind fun k s1 => if k = true then Fa env s1 else Fb env s1
abbrev gIf (Tc : Ev → Sto → Res Bool) (Ta Tb : Ev → Sto → Res Bool) : Ev → Sto → Res Bool := fun env st => (Tc env st).bind fun k s1 => if k = true then Ta env s1 else Tb env s1
theorem Post.dec {α β : Type} {K : PySem.W.Frag} {M : List Addr} {H : Hp} {R : List Addr → Hp → α → β → Prop} {Wx : Value → Option Addr → Hp → Prop} {Q : β → Hp → Prop} {r : Option Bool} {st : Sto} {G : Bool → Sto → Res α} (h : Post K P M H R Wx ((ofB r st).bind G) Q) : ∃ k, r = some k ∧ Post K P M H R Wx (G k st) Q := by
  cases r with
  | none => exact h.elim
  | some k => exact ⟨k, rfl, h⟩
variable {rest : List Expr}
theorem q_and (ha : PE X a (tE X.K P W Fa)) (hb : PE X (.BoolOp .And (b :: rest) pos) (tE X.K P W Fb)) : PE X (.BoolOp .And (a :: b :: rest) pos) (tE X.K P W (fAnd Fa Fb)) := by
  refine ⟨fun pins s σ H Q I h => (pe_andT ha hb).run pins s σ H Q I ?_⟩
  obtain ⟨M, env, st, sl, at_, p⟩ := h
  refine tG.go sl at_ p fun x H1 d M1 st1 s1 a1 sl1 r1 p1 => ?_
  obtain ⟨k, e, p2⟩ := Post.dec p1
  refine ⟨k, tru_of a1 r1 e, ?_⟩
  cases k with
  | true => rw [if_pos rfl] at p2 ⊢; exact tG.last sl1 a1 p2
  | false => rw [if_neg Bool.false_ne_true] at p2 ⊢; exact p2 x M1 H1 (Stp.refl _ _) a1 r1
theorem q_or (ha : PE X a (tE X.K P W Fa)) (hb : PE X (.BoolOp .Or (b :: rest) pos) (tE X.K P W Fb)) : PE X (.BoolOp .Or (a :: b :: rest) pos) (tE X.K P W (fOr Fa Fb)) := by
  refine ⟨fun pins s σ H Q I h => (pe_orT ha hb).run pins s σ H Q I ?_⟩
  obtain ⟨M, env, st, sl, at_, p⟩ := h
  refine tG.go sl at_ p fun x H1 d M1 st1 s1 a1 sl1 r1 p1 => ?_
  obtain ⟨k, e, p2⟩ := Post.dec p1
  refine ⟨k, tru_of a1 r1 e, ?_⟩
  cases k with
  | true => rw [if_pos rfl] at p2 ⊢; exact p2 x M1 H1 (Stp.refl _ _) a1 r1
  | false => rw [if_neg Bool.false_ne_true] at p2 ⊢; exact tG.last sl1 a1 p2
theorem q_not (ha : PE X a (tE X.K P W Fa)) : PE X (.UnaryOp .Not a pos) (tE X.K P W (fNot Fa)) := by
  refine ⟨fun pins s σ H Q I h => (pe_notT ha).run pins s σ H Q I ?_⟩
  obtain ⟨M, env, st, sl, at_, p⟩ := h
  refine tG.go sl at_ p fun x H1 d M1 st1 s1 a1 sl1 r1 p1 => ?_
  obtain ⟨k, e, p2⟩ := Post.dec p1
  exact ⟨k, tru_of a1 r1 e, p2 (.bl (!k)) M1 H1 (Stp.refl _ _) a1 (dv_bl.mpr rfl)⟩
theorem q_wand (ha : PT X a (tT X.K P W Ta)) (hb : PW X (.BoolOp .And (b :: rest) pos) (tT X.K P W Tb)) : PW X (.BoolOp .And (a :: b :: rest) pos) (tT X.K P W (gAnd Ta Tb)) := by
  refine ⟨fun wh pins s σ H Q I h => (pw_and ha hb).run wh pins s σ H Q I ?_⟩
  obtain ⟨M, env, st, sl, at_, p⟩ := h
  refine tG.go sl at_ p fun x H1 d M1 st1 s1 a1 sl1 r1 p1 => ?_
  subst r1
  cases d with
  | true => rw [if_pos rfl] at p1 ⊢; exact tG.last sl1 a1 p1
  | false => rw [if_neg Bool.false_ne_true] at p1 ⊢; exact p1 false M1 H1 (Stp.refl _ _) a1 rfl
theorem q_wor (ha : PT X a (tT X.K P W Ta)) (hb : PW X (.BoolOp .Or (b :: rest) pos) (tT X.K P W Tb)) : PW X (.BoolOp .Or (a :: b :: rest) pos) (tT X.K P W (gOr Ta Tb)) := by
  refine ⟨fun wh pins s σ H Q I h => (pw_or ha hb).run wh pins s σ H Q I ?_⟩
  obtain ⟨M, env, st, sl, at_, p⟩ := h
  refine tG.go sl at_ p fun x H1 d M1 st1 s1 a1 sl1 r1 p1 => ?_
  subst r1
  cases d with
  | true => rw [if_pos rfl] at p1 ⊢; exact p1 true M1 H1 (Stp.refl _ _) a1 rfl
  | false => rw [if_neg Bool.false_ne_true] at p1 ⊢; exact tG.last sl1 a1 p1
theorem q_tnot (ha : PT X a (tT X.K P W Ta)) : PT X (.UnaryOp .Not a pos) (tT X.K P W (gNot Ta)) := by
  refine ⟨fun pins s σ H Q I h => (pt_not ha).run pins s σ H Q I ?_⟩
  obtain ⟨M, env, st, sl, at_, p⟩ := h
  refine tG.go sl at_ p fun x H1 d M1 st1 s1 a1 sl1 r1 p1 => ?_
  subst r1
  exact p1 (!d) M1 H1 (Stp.refl _ _) a1 rfl
theorem q_if (hc : PT X c (tT X.K P W Tc)) (ha : PE X a (tE X.K P W Fa)) (hb : PE X b (tE X.K P W Fb)) : PE X (.IfExp c a b pos) (tE X.K P W (fIf Tc Fa Fb)) := by
  refine ⟨fun pins s σ H Q I h => (pe_ifExp hc ha hb).run pins s σ H Q I ?_⟩
  obtain ⟨M, env, st, sl, at_, p⟩ := h
  refine tG.go sl at_ p fun x H1 d M1 st1 s1 a1 sl1 r1 p1 => ?_
  subst r1
  cases d with
  | true => rw [if_pos rfl] at p1 ⊢; exact tG.last sl1 a1 p1
  | false => rw [if_neg Bool.false_ne_true] at p1 ⊢; exact tG.last sl1 a1 p1
theorem q_tif (hc : PT X c (tT X.K P W Tc)) (ha : PT X a (tT X.K P W Ta)) (hb : PT X b (tT X.K P W Tb)) : PT X (.IfExp c a b pos) (tT X.K P W (gIf Tc Ta Tb)) := by
  refine ⟨fun pins s σ H Q I h => PyProof.Rows.isTrue_IfExp (thn (hc.run pins s σ H (fun k H1 => if k = true then tT X.K P W Ta σ H1 Q else tT X.K P W Tb σ H1 Q) I ?_) fun k s1 ⟨H1, I1, q1⟩ => ?_)⟩
  · obtain ⟨M, env, st, sl, at_, p⟩ := h
    refine tG.go sl at_ p fun x H1 d M1 st1 s1 a1 sl1 r1 p1 => ?_
    subst r1
    cases d with
    | true => rw [if_pos rfl] at p1 ⊢; exact tG.last sl1 a1 p1
    | false => rw [if_neg Bool.false_ne_true] at p1 ⊢; exact tG.last sl1 a1 p1
  · cases k with
    | true => rw [if_pos rfl] at q1 ⊢; exact ha.run pins s1 σ H1 Q I1 q1
    | false => rw [if_neg Bool.false_ne_true] at q1 ⊢; exact hb.run pins s1 σ H1 Q I1 q1

/-! ### places and slices -/
def keyD : D → Option Key
  | .int i => some (.inl i) | .str x => some (.inr x) | _ => none
def lookD (kvs : List (Key × D)) (k : Key) : Option D := (kvs.find? fun kv => decide (kv.1 = k)).map (·.2)
def putD (kvs : List (Key × D)) (k : Key) (d : D) : List (Key × D) := if (kvs.any fun kv => decide (kv.1 = k)) = true then kvs.map (fun kv => if kv.1 = k then (kv.1, d) else kv) else kvs ++ [(k, d)]
def ixT : D → D → Sto → OD
  | .tup ds, .int i, st => (atI ds i).map fun d => (d, st)
  | _, _, _ => none
def ixF : D → D → Sto → OD
  | .fz ds, .int i, st => (atI ds i).map fun d => (d, st)
  | _, _, _ => none
def ixL : D → D → Sto → OD
  | .loc n, .int i, st => match st[n]? with
    | some (.lst ds) => (atI ds i).map fun d => (d, st)
    | _ => none
  | _, _, _ => none
def ixS : D → D → Sto → OD
  | .str x, .int i, st => if x.length ≤ 16000000 then (atI x.cps.toList i).map fun c => (.str ⟨#[c]⟩, st) else none
  | _, _, _ => none
def ixK : D → D → Sto → OD
  | .loc n, k, st => match st[n]?, keyD k with
    | some (.dK kvs), some k => (lookD kvs k).map fun d => (d, st)
    | _, _ => none
  | _, _, _ => none
theorem altI_ok {g h : D → D → Sto → OD} (o1 : IxR X (rD2 X.K P g)) (o2 : IxR X (rD2 X.K P h)) : IxR X (rD2 X.K P (alt2 g h)) := by
  intro value slice pins s σ H x y v u Q I rx ry q hs
  obtain ⟨M, st, dx, dy, a, r1, r2, p⟩ := q
  unfold alt2 at p
  cases e : g dx dy st with
  | none => rw [e] at p; exact o2 value slice pins s σ H x y v u Q I rx ry ⟨M, st, dx, dy, a, r1, r2, p⟩ hs
  | some r => rw [e] at p; exact o1 value slice pins s σ H x y v u Q I rx ry ⟨M, st, dx, dy, a, r1, r2, by rw [e]; exact p⟩ hs
theorem atI_rel {K : PySem.W.Frag} {M : List Addr} {H : Hp} {ds : List D} {vs : List V} {i : Int} {d : D} (h : DVs K M H ds vs) (e : atI ds i = some d) : ∃ v, atI vs i = some v ∧ DV K M H d v := by
  unfold atI at e ⊢
  rw [← h.length]
  cases hk : ixN ds.length i with
  | none => rw [hk] at e; cases e
  | some j => rw [hk] at e; exact h.get e
theorem ixT_ok : IxR X (rD2 X.K P ixT) := by
  intro value slice pins s σ H x y v u Q I rx ry q hs
  obtain ⟨M, st, dx, dy, a, r1, r2, p⟩ := q
  unfold ixT at p
  split at p
  · rename_i ds i
    rw [dv_int] at r2
    obtain ⟨t, vs, rfl, h1, h2⟩ := dv_tup.mp r1
    cases e : atI ds i with
    | none => rw [e] at p; exact p.not.elim
    | some d =>
      rw [e] at p
      obtain ⟨w, e1, e2⟩ := atI_rel h2 e
      exact ix_tup value slice pins s σ H _ y v u Q I rx ry ⟨t, vs, i, w, rfl, r2, h1, e1, p.pure a e2⟩ hs
  · exact p.not.elim
theorem ixF_ok : IxR X (rD2 X.K P ixF) := by
  intro value slice pins s σ H x y v u Q I rx ry q hs
  obtain ⟨M, st, dx, dy, a, r1, r2, p⟩ := q
  unfold ixF at p
  split at p
  · rename_i ds i
    rw [dv_int] at r2
    obtain ⟨t, vs, rfl, h1, h2⟩ := dv_fz.mp r1
    cases e : atI ds i with
    | none => rw [e] at p; exact p.not.elim
    | some d =>
      rw [e] at p
      obtain ⟨w, e1, e2⟩ := atI_rel h2 e
      exact ix_list value slice pins s σ H _ y v u Q I rx ry ⟨t, vs, i, w, rfl, r2, h1.sq, e1, p.pure a e2⟩ hs
  · exact p.not.elim
theorem ixL_ok : IxR X (rD2 X.K P ixL) := by
  intro value slice pins s σ H x y v u Q I rx ry q hs
  obtain ⟨M, st, dx, dy, a, r1, r2, p⟩ := q
  unfold ixL at p
  split at p
  · rename_i n i
    rw [dv_int] at r2
    obtain ⟨t, rfl, h1⟩ := dv_loc.mp r1
    split at p
    · rename_i ds e1
      obtain ⟨t', vs, k1, k2, h2⟩ := a.lst e1
      rw [h1] at k1; cases k1
      cases e : atI ds i with
      | none => rw [e] at p; exact p.not.elim
      | some d =>
        rw [e] at p
        obtain ⟨w, e1, e2⟩ := atI_rel h2 e
        exact ix_list value slice pins s σ H _ y v u Q I rx ry ⟨t, vs, i, w, rfl, r2, SqL.of k2, e1, p.pure a e2⟩ hs
    · exact p.not.elim
  · exact p.not.elim
theorem ixS_ok : IxR X (rD2 X.K P ixS) := by
  intro value slice pins s σ H x y v u Q I rx ry q hs
  obtain ⟨M, st, dx, dy, a, r1, r2, p⟩ := q
  unfold ixS at p
  split at p
  · rename_i z i
    rw [dv_int] at r2
    rw [dv_str] at r1
    split at p
    · rename_i hz
      cases e : atI z.cps.toList i with
      | none => rw [e] at p; exact p.not.elim
      | some c =>
        rw [e] at p
        exact ix_str value slice pins s σ H x y v u Q I rx ry ⟨z, i, c, r1, r2, by rw [sizeLine_eq]; omega, e, p.str a⟩ hs
    · exact p.not.elim
  · exact p.not.elim
theorem keyD_of {K : PySem.W.Frag} {M : List Addr} {H : Hp} {d : D} {v : V} {k : Key} (h : DV K M H d v) (e : keyD d = some k) : v = kV k := by
  cases d <;> simp only [keyD, Option.some.injEq, reduceCtorEq] at e <;> subst e
  · exact dv_int.mp h
  · exact dv_str.mp h
theorem look_rel {K : PySem.W.Frag} {M : List Addr} {H : Hp} {k : Key} : ∀ {ds : List (Key × D)} {vs : List (Key × V)}, DKs K M H ds vs → (∀ d, lookD ds k = some d → ∃ v, valV vs k = some v ∧ DV K M H d v) ∧ (lookD ds k = none → valV vs k = none)
  | [], vs, h => by unfold DKs at h; subst h; exact ⟨fun d e => (by cases e), fun _ => rfl⟩
  | (k', d') :: ds, vs, h => by
    unfold DKs at h
    obtain ⟨v, vr, rfl, h1, h2⟩ := h
    have ih := look_rel (k := k) h2
    by_cases hk : k' = k
    · subst hk
      refine ⟨fun d e => ?_, fun e => ?_⟩
      · simp only [lookD, List.find?_cons, decide_true, Option.map_some, Option.some.injEq] at e
        subst e
        exact ⟨v, by simp [valV], h1⟩
      · simp [lookD] at e
    · have e1 : lookD ((k', d') :: ds) k = lookD ds k := by simp [lookD, hk]
      have e2 : valV ((k', v) :: vr) k = valV vr k := by simp [valV, hk]
      rw [e1, e2]
      exact ih
theorem ixK_ok (hu : X.A.units + 64 < cLine) : IxR X (rD2 X.K P ixK) := by
  intro value slice pins s σ H x y v u Q I rx ry q hs
  obtain ⟨M, st, dx, dy, a, r1, r2, p⟩ := q
  unfold ixK at p
  split at p
  · rename_i n
    obtain ⟨t, rfl, h1⟩ := dv_loc.mp r1
    split at p
    · rename_i kvs k e1 e2
      obtain ⟨t', vs, k1, k2, h2⟩ := a.dK e1
      rw [h1] at k1; cases k1
      cases e : lookD kvs k with
      | none => rw [e] at p; exact p.not.elim
      | some d =>
        rw [e] at p
        obtain ⟨w, e3, e4⟩ := (look_rel h2).1 d e
        cases rx
        have g : DGet H t y (some w) := .inl ⟨vs, k, Rd.of k2, keyD_of r2 e2, e3.symm⟩
        exact tail_any (dict_typeIs I g) PySem.F.slot_dict_getitem.lookup (d_getItem (by omega) I g ry fun w' s' I' rw' => ⟨w, H, I', rw', p.pure a e4⟩) hs
    · exact p.not.elim
  · exact p.not.elim
def ixD : D → D → Sto → OD := alt2 ixT (alt2 ixL (alt2 ixK (alt2 ixS ixF)))
theorem ix_ok (hu : X.A.units + 64 < cLine) : IxR X (rD2 X.K P ixD) := altI_ok ixT_ok (altI_ok ixL_ok (altI_ok (ixK_ok hu) (altI_ok ixS_ok ixF_ok)))
end
end Q
end

section
set_option Elab.async false
set_option linter.all false
set_option maxRecDepth 100000
set_option maxHeartbeats 1000000
set_option autoImplicit false
/-! Slices, builtin functions, methods of lists. -/
namespace Q
open PySem PySem.Spec PyProof.Rows L2

section
variable {K : PySem.W.Frag} {M : List Addr} {H : Hp}
theorem DVs.cut {ds : List D} {vs : List V} (h : DVs K M H ds vs) (lo hi : Option Int) : DVs K M H (cutD ds lo hi) (cutV vs lo hi) := by
  unfold cutD cutV
  rw [h.length]
  exact (h.drop _).take _
theorem cutD_len {α : Type} (xs : List α) (lo hi : Option Int) : (cutD xs lo hi).length ≤ xs.length := by
  unfold cutD
  rw [List.length_take, List.length_drop]
  omega
end
def slD (d : D) (lo hi : Option Int) (st : Sto) : OD := match d with
  | .tup ds => some (.tup (cutD ds lo hi), st)
  | .fz ds => some (.loc st.length, st ++ [.lst (cutD ds lo hi)])
  | .str x => if x.length ≤ 16000000 then some (.str (Txt.slice x lo hi), st) else none
  | .loc n => match st[n]? with
    | some (.lst ds) => some (.loc st.length, st ++ [.lst (cutD ds lo hi)])
    | _ => none
  | _ => none
def rSl (K : PySem.W.Frag) (P : Par) : V → Option Int → Option Int → Hp → VK → Prop := fun x lo hi H Q => ∃ M st d, At K P M H st ∧ DV K M H d x ∧ PostO K P M H (slD d lo hi st) Q
section
variable {X : Cx} {P : Par} {W : WX}
theorem sl_ok : SlR X (rSl X.K P) := by
  intro pins s σ H x v vl vu lo hi sl Q I rx hs pl pu q
  obtain ⟨M, st, d, a, r1, p⟩ := q
  unfold slD at p
  split at p
  · rename_i ds
    obtain ⟨t, vs, rfl, h1, h2⟩ := dv_tup.mp r1
    refine sl_tupA pins s σ H _ v vl vu lo hi sl Q I rx hs pl pu ⟨t, vs, rfl, h1, fun hw => ?_, fun _ p' hp => p.tup rfl a (h2.cut lo hi) hp⟩
    have e : cutD ds lo hi = ds := by
      unfold cutD
      rw [h2.length, hw.1, hw.2, List.drop_zero, Nat.sub_zero, ← h2.length, List.take_length]
    rw [e] at p
    exact p.pure a r1
  · rename_i ds
    obtain ⟨t, vs, rfl, h1, h2⟩ := dv_fz.mp r1
    exact sl_list pins s σ H _ v vl vu lo hi sl Q I rx hs pl pu ⟨t, vs, rfl, h1.sq, fun p' hp => p.lst rfl a (h2.cut lo hi) hp⟩
  · rename_i z
    rw [dv_str] at r1
    split at p
    · exact C8.sl_txt pins s σ H x v vl vu lo hi sl Q I rx hs pl pu ⟨z, r1, by rw [sizeLine_eq]; omega, p.str a⟩
    · exact p.not.elim
  · rename_i n
    obtain ⟨t, rfl, h1⟩ := dv_loc.mp r1
    split at p
    · rename_i ds e1
      obtain ⟨t', vs, k1, k2, h2⟩ := a.lst e1
      rw [h1] at k1; cases k1
      exact sl_list pins s σ H _ v vl vu lo hi sl Q I rx hs pl pu ⟨t, vs, rfl, SqL.of k2, fun p' hp => p.lst rfl a (h2.cut lo hi) hp⟩
    · exact p.not.elim
  · exact p.not.elim
/-- a slice's part -/
abbrev tO (K : PySem.W.Frag) (P : Par) (W : WX) (F : Ev → Sto → Res (Option Int)) : TO := tG K P W (fun _ _ (a b : Option Int) => a = b) F
def partD (d : D) (st : Sto) : Res (Option Int) := match d with
  | .int i => .ok (some i) st
  | _ => .err
theorem q_non : PO X none (tO X.K P W fun _ st => .ok none st) := by
  refine ⟨fun pins s σ H Q I h => po_none.run pins s σ H Q I ?_⟩
  obtain ⟨M, env, st, sl, at_, p⟩ := h
  exact p none M H (Stp.refl _ _) at_ rfl
theorem q_som {e : Expr} {F : Ev → Sto → Res D} (h : PE X e (tE X.K P W F)) : PO X (some e) (tO X.K P W fun env st => (F env st).bind partD) := by
  refine ⟨fun pins s σ H Q I hh => (po_some h).run pins s σ H Q I ?_⟩
  obtain ⟨M, env, st, sl, at_, p⟩ := hh
  refine tG.go sl at_ p fun x H1 d M1 st1 s1 a1 sl1 r1 p1 => ?_
  cases d with
  | int i => exact ⟨i, dv_int.mp r1, p1 (some i) M1 H1 (Stp.refl _ _) a1 rfl⟩
  | _ => exact p1.elim
theorem q_slice {e : Expr} {lo hi : Option Expr} {Fa : Ev → Sto → Res D} {Fl Fh : Ev → Sto → Res (Option Int)} {p2 pos : Pos} (ha : PE X e (tE X.K P W Fa)) (hl : PO X lo (tO X.K P W Fl)) (hh : PO X hi (tO X.K P W Fh)) :
    PE X (.Subscript e (.Slice lo hi none p2) pos) (tE X.K P W fun env st => (Fa env st).bind fun d s1 => (Fl env s1).bind fun l s2 => (Fh env s2).bind fun u s3 => ofO (slD d l u s3)) := by
  refine ⟨fun pins s σ H Q I h => (pe_slice (sl_ok (P := P)) ha hl hh).run pins s σ H Q I ?_⟩
  obtain ⟨M, env, st, sl, at_, p⟩ := h
  refine tG.go sl at_ p fun x H1 d M1 st1 s1 a1 sl1 r1 p1 => tG.go sl1 a1 p1 fun l H2 dl M2 st2 s2 a2 sl2 r2 p2 => tG.go sl2 a2 p2 fun u H3 du M3 st3 s3 a3 sl3 r3 p3 => ?_
  subst r2 r3
  exact ⟨M3, st3, d, a3, (r1.mono a1.mok s2).mono a2.mok s3, p3.toO⟩
def revD (d : D) (st : Sto) : OD := match d with
  | .fz ds => some (.loc st.length, st ++ [.lst ds.reverse])
  | .loc n => match st[n]? with
    | some (.lst ds) => some (.loc st.length, st ++ [.lst ds.reverse])
    | _ => none
  | _ => none
theorem q_rev {e : Expr} {Fa : Ev → Sto → Res D} {k : Nat} {p1 p2 p3 pos : Pos} (ha : PE X e (tE X.K P W Fa)) :
    PE X (.Subscript e (.Slice none none (some (.UnaryOp .USub (.Constant (.int 1) k p1) p2)) p3) pos) (tE X.K P W fun env st => (Fa env st).bind fun d s1 => ofO (revD d s1)) := by
  refine ⟨fun pins s σ H Q I h => (pe_revL ha).run pins s σ H Q I ?_⟩
  obtain ⟨M, env, st, sl, at_, p⟩ := h
  refine tG.go sl at_ p fun x H1 d M1 st1 s1 a1 sl1 r1 p1 => ?_
  have p1 := p1.toO
  unfold revD at p1
  split at p1
  · rename_i ds
    obtain ⟨t, vs, rfl, h1, h2⟩ := dv_fz.mp r1
    exact ⟨t, vs, rfl, h1.sq, fun q hq => p1.lst rfl a1 h2.reverse hq⟩
  · rename_i n
    obtain ⟨t, rfl, h1⟩ := dv_loc.mp r1
    split at p1
    · rename_i ds e1
      obtain ⟨t', vs, k1, k2, h2⟩ := a1.lst e1
      rw [h1] at k1; cases k1
      exact ⟨t, vs, rfl, SqL.of k2, fun q hq => p1.lst rfl a1 h2.reverse hq⟩
    · exact p1.not.elim
  · exact p1.not.elim

/-! ### builtin functions -/
theorem cr_imp {f : Value} {r r' : List V → Hp → VK → Prop} (h : CallR X f r) (k : ∀ xs H Q, r' xs H Q → r xs H Q) : CallR X f r' := fun pins s σ H xs us Q I rx q => h pins s σ H xs us Q I rx (k _ _ _ q)
theorem one_of {K : PySem.W.Frag} {M : List Addr} {H : Hp} {d : D} {xs : List V} (h : DVs K M H [d] xs) : ∃ v, xs = [v] ∧ DV K M H d v := by
  obtain ⟨v, vr, rfl, h1, h2⟩ := h.cons_inv
  exact ⟨v, by rw [h2.nil_inv], h1⟩
theorem two_of {K : PySem.W.Frag} {M : List Addr} {H : Hp} {d e : D} {xs : List V} (h : DVs K M H [d, e] xs) : ∃ v w, xs = [v, w] ∧ DV K M H d v ∧ DV K M H e w := by
  obtain ⟨v, vr, rfl, h1, h2⟩ := h.cons_inv
  obtain ⟨w, rfl, h3⟩ := one_of h2
  exact ⟨v, w, rfl, h1, h3⟩
theorem len_ok : CallR X (.builtin "len") (rDL X.K P lenD) := by
  intro pins s σ H xs us Q I r h
  obtain ⟨M, st, ds, a, rd, p⟩ := h
  unfold lenD at p
  split at p
  · obtain ⟨v, rfl, h1⟩ := one_of rd
    rw [dv_str.mp h1] at r
    split at p
    · exact call_len pins s σ H _ us Q I r ⟨_, _, rfl, ⟨by rw [sizeLine_eq]; omega, rfl⟩, p.int a⟩
    · exact p.not.elim
  · rename_i ds
    obtain ⟨v, rfl, h1⟩ := one_of rd
    obtain ⟨t, vs, rfl, h2, h3⟩ := dv_tup.mp h1
    rw [h3.length] at p
    exact call_len pins s σ H _ us Q I r ⟨_, _, rfl, .inr ⟨vs, h2, rfl⟩, p.int a⟩
  · rename_i ds
    obtain ⟨v, rfl, h1⟩ := one_of rd
    obtain ⟨t, vs, rfl, h2, h3⟩ := dv_fz.mp h1
    rw [h3.length] at p
    exact call_len pins s σ H _ us Q I r ⟨_, _, rfl, .inl ⟨vs, h2.sq, rfl⟩, p.int a⟩
  · rename_i n
    obtain ⟨v, rfl, h1⟩ := one_of rd
    obtain ⟨t, rfl, h2⟩ := dv_loc.mp h1
    split at p
    · rename_i ds e1
      obtain ⟨t', vs, k1, k2, h3⟩ := a.lst e1
      rw [h2] at k1; cases k1
      rw [h3.length] at p
      exact call_len pins s σ H _ us Q I r ⟨_, _, rfl, .inl ⟨vs, SqL.of k2, rfl⟩, p.int a⟩
    · rename_i ds e1
      obtain ⟨t', vs, k1, k2, h3⟩ := a.dK e1
      rw [h2] at k1; cases k1
      rw [h3.length] at p
      exact call_lenD pins s σ H _ us Q I r ⟨t, vs, rfl, k2, p.int a⟩
    · exact p.not.elim
  · exact p.not.elim
def intD : List D → Sto → OD
  | [.int i], st => some (.int i, st)
  | [.bl b], st => some (.int (if b then 1 else 0), st)
  | _, _ => none
theorem int_ok : CallR X (.type "int") (rDL X.K P intD) := by
  refine cr_imp call_int1 fun xs H Q h => ?_
  obtain ⟨M, st, ds, a, rd, p⟩ := h
  unfold intD at p
  split at p
  · obtain ⟨v, rfl, h1⟩ := one_of rd
    rw [dv_int.mp h1]
    exact .inl ⟨_, rfl, p.int a⟩
  · obtain ⟨v, rfl, h1⟩ := one_of rd
    rw [dv_bl.mp h1]
    exact .inr ⟨_, rfl, p.int a⟩
  · exact p.not.elim
def absD : List D → Sto → OD
  | [.int i], st => some (.int (if i < 0 then -i else i), st)
  | _, _ => none
theorem abs_ok : CallR X (.builtin "abs") (rDL X.K P absD) := by
  refine cr_imp call_abs fun xs H Q h => ?_
  obtain ⟨M, st, ds, a, rd, p⟩ := h
  unfold absD at p
  split at p
  · obtain ⟨v, rfl, h1⟩ := one_of rd
    rw [dv_int.mp h1]
    exact ⟨_, rfl, p.int a⟩
  · exact p.not.elim
def gcdD : List D → Sto → OD
  | [.int i, .int j], st => some (.int (Nat.gcd i.natAbs j.natAbs : Nat), st)
  | _, _ => none
theorem gcd_ok : CallR X (.builtin "math.gcd") (rDL X.K P gcdD) := by
  refine cr_imp cr_gcd fun xs H Q h => ?_
  obtain ⟨M, st, ds, a, rd, p⟩ := h
  unfold gcdD at p
  split at p
  · obtain ⟨v, w, rfl, h1, h2⟩ := two_of rd
    rw [dv_int.mp h1, dv_int.mp h2]
    exact ⟨_, _, rfl, p.int a⟩
  · exact p.not.elim
/-- the items of a list or a tuple -/
def seqD (d : D) (st : Sto) : Option (List D) := match d with
  | .tup ds => some ds
  | .fz ds => some ds
  | .loc n => match st[n]? with
    | some (.lst ds) => some ds
    | _ => none
  | _ => none
theorem seq_of {K : PySem.W.Frag} {M : List Addr} {H : Hp} {st : Sto} (a : At K P M H st) {d : D} {v : V} {ds : List D} (h : DV K M H d v) (e : seqD d st = some ds) : ∃ t vs, v = .ref t ∧ (SqL K H t vs ∨ SqT K H t vs) ∧ DVs K M H ds vs := by
  unfold seqD at e
  split at e
  · cases e
    obtain ⟨t, vs, rfl, h2, h3⟩ := dv_tup.mp h
    exact ⟨t, vs, rfl, .inr h2, h3⟩
  · cases e
    obtain ⟨t, vs, rfl, h2, h3⟩ := dv_fz.mp h
    exact ⟨t, vs, rfl, .inl h2.sq, h3⟩
  · obtain ⟨t, rfl, h2⟩ := dv_loc.mp h
    split at e
    · rename_i es e1
      cases e
      obtain ⟨t', vs, k1, k2, h3⟩ := a.lst e1
      rw [h2] at k1; cases k1
      exact ⟨t, vs, rfl, .inl (SqL.of k2), h3⟩
    · cases e
  · cases e
def listD : List D → Sto → OD
  | [d], st => (seqD d st).map fun ds => (.loc st.length, st ++ [.lst ds])
  | _, _ => none
theorem list_ok : CallR X (.type "list") (rDL X.K P listD) := by
  refine cr_imp call_list_of fun xs H Q h => ?_
  obtain ⟨M, st, ds, a, rd, p⟩ := h
  unfold listD at p
  split at p
  · rename_i d
    obtain ⟨v, rfl, h1⟩ := one_of rd
    cases e : seqD d st with
    | none => rw [e] at p; exact p.not.elim
    | some es =>
      rw [e] at p
      obtain ⟨t, vs, rfl, h2, h3⟩ := seq_of a h1 e
      exact ⟨t, vs, rfl, h2, fun l hl => p.lst rfl a h3 hl⟩
  · exact p.not.elim
def tupleD : List D → Sto → OD
  | [d], st => (seqD d st).map fun ds => (.tup ds, st)
  | _, _ => none
theorem tuple_ok : CallR X (.type "tuple") (rDL X.K P tupleD) := by
  refine cr_imp call_tuple_of fun xs H Q h => ?_
  obtain ⟨M, st, ds, a, rd, p⟩ := h
  unfold tupleD at p
  split at p
  · rename_i d
    obtain ⟨v, rfl, h1⟩ := one_of rd
    cases e : seqD d st with
    | none => rw [e] at p; exact p.not.elim
    | some es =>
      rw [e] at p
      obtain ⟨t, vs, rfl, h2, h3⟩ := seq_of a h1 e
      rcases h2 with h2 | h2
      · exact ⟨t, vs, rfl, .inl ⟨h2, fun l hl => p.tup rfl a h3 hl⟩⟩
      · exact ⟨t, vs, rfl, .inr ⟨h2, p.pure a (dv_tup.mpr ⟨t, vs, rfl, h2, h3⟩)⟩⟩
  · exact p.not.elim
def max2D : List D → Sto → OD
  | [.int i, .int j], st => some (.int (if j > i then j else i), st)
  | _, _ => none
def min2D : List D → Sto → OD
  | [.int i, .int j], st => some (.int (if j < i then j else i), st)
  | _, _ => none
theorem max2_ok (hc : X.calm = true) : CallR X (.builtin "max") (rDL X.K P max2D) := by
  refine cr_imp (call_max2 hc) fun xs H Q h => ?_
  obtain ⟨M, st, ds, a, rd, p⟩ := h
  unfold max2D at p
  split at p
  · obtain ⟨v, w, rfl, h1, h2⟩ := two_of rd
    rw [dv_int.mp h1, dv_int.mp h2]
    exact ⟨_, _, rfl, p.int a⟩
  · exact p.not.elim
theorem min2_ok (hc : X.calm = true) : CallR X (.builtin "min") (rDL X.K P min2D) := by
  refine cr_imp (call_min2 hc) fun xs H Q h => ?_
  obtain ⟨M, st, ds, a, rd, p⟩ := h
  unfold min2D at p
  split at p
  · obtain ⟨v, w, rfl, h1, h2⟩ := two_of rd
    rw [dv_int.mp h1, dv_int.mp h2]
    exact ⟨_, _, rfl, p.int a⟩
  · exact p.not.elim
/-! isinstance -/
inductive Ty where
  | int | bool | str | tup | lst | dct
  deriving DecidableEq
inductive Kd where
  | non | bl | int | str | tup | lst | dct
def tyN : Ty → String
  | .int => "int" | .bool => "bool" | .str => "str" | .tup => "tuple" | .lst => "list" | .dct => "dict"
def kdN : Kd → String
  | .non => "NoneType" | .bl => "bool" | .int => "int" | .str => "str" | .tup => "tuple" | .lst => "list" | .dct => "dict"
def kdIs : Kd → Ty → Bool
  | .bl, .bool => true | .bl, .int => true | .int, .int => true | .str, .str => true | .tup, .tup => true | .lst, .lst => true | .dct, .dct => true
  | _, _ => false
theorem kdIs_ok : ∀ (k : Kd) (t : Ty), kitB (kdN k) (tyN t) = some (kdIs k t) := by
  intro k t
  cases k <;> cases t <;> decide +kernel
def kdD (d : D) (st : Sto) : Option Kd := match d with
  | .non => some .non | .bl _ => some .bl | .int _ => some .int | .str _ => some .str | .tup _ => some .tup | .fz _ => some .lst
  | .loc n => match st[n]? with
    | some (.lst _) => some .lst
    | some (.dK _) => some .dct
    | some (.dT _) => some .dct
    | none => none
  | .exo _ => none
theorem kd_of {K : PySem.W.Frag} {M : List Addr} {H : Hp} {st : Sto} (a : At K P M H st) {d : D} {v : V} {k : Kd} (h : DV K M H d v) (e : kdD d st = some k) : TyX K H v (.type (kdN k)) := by
  cases d with
  | non => rw [dv_non.mp h]; cases e; exact .base .non
  | bl b => rw [dv_bl.mp h]; cases e; exact .base (.bl b)
  | int b => rw [dv_int.mp h]; cases e; exact .base (.int b)
  | str b => rw [dv_str.mp h]; cases e; exact .base (.str b)
  | tup ds =>
    obtain ⟨t, vs, rfl, h2, h3⟩ := dv_tup.mp h
    cases e
    rcases h2 with (h2 | ⟨o, h2⟩) | ⟨o, its, n, h2, h4, _⟩
    · exact .base (.tup h2)
    · exact .fTuple h2
    · exact .kTuple h2 h4
  | fz ds =>
    obtain ⟨t, vs, rfl, h2, h3⟩ := dv_fz.mp h
    cases e
    rcases h2 with ⟨o, h2⟩ | ⟨o, its, n, h2, h4, _⟩
    · exact .base (.frz h2)
    · exact .kList h2 h4
  | loc n =>
    obtain ⟨t, rfl, h2⟩ := dv_loc.mp h
    simp only [kdD] at e
    cases e1 : st[n]? with
    | none => rw [e1] at e; cases e
    | some ob =>
      rw [e1] at e
      obtain ⟨t', k1, k2⟩ := a.rel.ob n ob e1
      rw [h2] at k1; cases k1
      cases ob with
      | lst ds => cases e; obtain ⟨vs, h4, _⟩ := k2; exact .base (.lst h4)
      | dK ds => cases e; obtain ⟨vs, h4, _⟩ := k2; exact .base (.dK h4)
      | dT ds => cases e; obtain ⟨vs, h4, _⟩ := k2; exact .base (.dT h4)
  | exo k => cases e
def isiD (ts : List Ty) (d : D) (st : Sto) : OD := (kdD d st).map fun k => (.bl (ts.any (kdIs k)), st)
theorem q_isi {e : Expr} {x T : Str} {t : Ty} {Fa : Ev → Sto → Res D} {p p2 pos : Pos} (ha : PE X e (tE X.K P W Fa)) (hg : Gl X "isinstance") (hm : X.mg "isinstance" = none) (ht : PE X (.Name T p2) (tC (.ty (tyN t))))
    (he : starEach [e, .Name T p2] X.env = (false, eval e X.env) :: starEach [.Name T p2] X.env) :
    PE X (.Call (.Name "isinstance" p) [e, .Name T p2] [] pos) (tE X.K P W fun env st => (Fa env st).bind fun d s1 => ofO (isiD [t] d s1)) := by
  refine ⟨fun pins s σ H Q I h => (pe_callB call_isi hg hm boot_isinstance (pa_cons ha (pa_cons ht pa_nil) he) (by decide) (by decide) he).run pins s σ H Q I ?_⟩
  obtain ⟨M, env, st, sl, at_, q⟩ := h
  refine tG.go sl at_ q fun x H1 d M1 st1 s1 a1 sl1 r1 p1 => ?_
  have p1 := p1.toO
  unfold isiD at p1
  cases hk : kdD d st1 with
  | none => rw [hk] at p1; exact p1.not.elim
  | some k =>
    rw [hk] at p1
    refine ⟨x, .ty (tyN t), .type (kdN k), .type (tyN t), kdIs k t, rfl, .ty _, kd_of a1 r1 hk, kit_ty (kdIs_ok k t), ?_⟩
    have := p1.bl a1
    simpa using this

/-! ### methods of lists -/
def appD : D → List D → Sto → OD
  | .loc n, [d], st => match st[n]? with
    | some (.lst ds) => if ds.length ≤ 100000 then some (.non, st.set n (.lst (ds ++ [d]))) else none
    | _ => none
  | _, _, _ => none
def popD : D → List D → Sto → OD
  | .loc n, [], st => match st[n]? with
    | some (.lst ds) => (ds[ds.length - 1]?).map fun d => (d, st.set n (.lst ds.dropLast))
    | _ => none
  | _, _, _ => none
theorem PostO.set {K : PySem.W.Frag} {M : List Addr} {H : Hp} {st : Sto} {Q : VK} {n : Nat} {p : Addr} {o : HO} {ob : Ob} {d : D} {v : V} {r : OD} (h : PostO K P M H r Q) (e : r = some (d, st.set n ob)) (a : At K P M H st) (hm : M[n]? = some p)
    (q : ObV K M (upd H p o) p ob) (rv : DV K M H d v) : Q v (upd H p o) := by
  obtain ⟨d', st', e', k⟩ := h
  rw [e] at e'
  cases e'
  have ho : NT o := by
    obtain ⟨o1, e1, n1⟩ := q.nt
    rw [upd_same] at e1
    cases e1
    exact n1
  exact k v M _ (stp_set hm ho) (a.set hm q) (rv.mono a.mok (stp_set hm ho))
theorem DVs.dropLast {K : PySem.W.Frag} {M : List Addr} {H : Hp} {ds : List D} {vs : List V} (h : DVs K M H ds vs) : DVs K M H ds.dropLast vs.dropLast := by
  rw [List.dropLast_eq_take, List.dropLast_eq_take, h.length]
  exact h.take _
def isL (d : D) (st : Sto) : Bool := match d with
  | .loc n => match st[n]? with
    | some (.lst _) => true
    | _ => false
  | .fz _ => true
  | _ => false
theorem isL_of {K : PySem.W.Frag} {M : List Addr} {H : Hp} {st : Sto} (a : At K P M H st) {d : D} {v : V} (h : DV K M H d v) (e : isL d st = true) : tyV K "list" v H := by
  unfold isL at e
  split at e
  · obtain ⟨t, rfl, h2⟩ := dv_loc.mp h
    split at e
    · rename_i ds e1
      obtain ⟨t', vs, k1, k2, h3⟩ := a.lst e1
      rw [h2] at k1; cases k1
      exact .inl ⟨rfl, vs, SqL.of k2⟩
    · cases e
  · obtain ⟨t, vs, rfl, h2, h3⟩ := dv_fz.mp h
    exact .inl ⟨rfl, vs, h2.sq⟩
  · cases e
abbrev fMt (Fo : Ev → Sto → Res D) (G : Ev → Sto → Res (List D)) (f : D → List D → Sto → OD) : Ev → Sto → Res D := fun env st => (Fo env st).bind fun d s1 => if isL d s1 = true then (G env s1).bind fun ds s2 => ofO (f d ds s2) else .err
theorem q_lm {o e : Expr} {es : List Expr} {name : Str} {apos cpos : Pos} {id : String} {f : D → List D → Sto → OD} {r : V → List V → Hp → VK → Prop} {Fo : Ev → Sto → Res D} {G : Ev → Sto → Res (List D)} (slot : Slot "list" name id) (hty : typeOf (.builtin id) = pure (.type "method_descriptor"))
    (hm : MtR X id r) (hr : ∀ x xs H Q, rDM X.K P f x xs H Q → r x xs H Q) (ho : PE X o (tE X.K P W Fo)) (ha : PA X (e :: es) (tL X.K P W G))
    (hbase : attributeBase o name X.env (eval o X.env) = eval o X.env)
    (hfew : ((backTo cpos (starEach (e :: es) X.env)).all (fun x => !x.1) && (backToKw cpos (keywordEach [] X.env)).all (fun x => x.1.isSome) && decide ((e :: es).length + ([] : List Keyword).length + (if ([] : List Keyword).isEmpty then 0 else 1) < 30)) = true)
    (hline : (apos.endLine == cpos.line) = true) (hs : starEach (e :: es) X.env = (false, eval e X.env) :: starEach es X.env) (hplain : (backTo cpos (starEach es X.env)).any (·.1) = false) :
    PE X (.Call (.Attribute o name apos) (e :: es) [] cpos) (tE X.K P W (fMt Fo G f)) := by
  refine ⟨fun pins s σ H Q I h => (pe_bm PySem.F.plainAttrs_list slot hty hm ho ha hbase hfew hline hs hplain).run pins s σ H Q I ?_⟩
  obtain ⟨M, env, st, sl, at_, p⟩ := h
  refine tG.go sl at_ p fun x H1 d M1 st1 s1 a1 sl1 r1 p1 => ?_
  split at p1
  · rename_i hl
    exact ⟨isL_of a1 r1 hl, tG.go sl1 a1 p1 fun xs H2 ds M2 st2 s2 a2 sl2 r2 p2 => hr _ _ _ _ ⟨M2, st2, d, ds, a2, r1.mono a1.mok s2, r2, p2.toO⟩⟩
  · exact p1.elim
theorem q_lm0 {o : Expr} {name : Str} {apos cpos : Pos} {id : String} {f : D → List D → Sto → OD} {r : V → List V → Hp → VK → Prop} {Fo : Ev → Sto → Res D} (slot : Slot "list" name id) (hty : typeOf (.builtin id) = pure (.type "method_descriptor"))
    (hm : MtR X id r) (hr : ∀ x xs H Q, rDM X.K P f x xs H Q → r x xs H Q) (ho : PE X o (tE X.K P W Fo))
    (hbase : attributeBase o name X.env (eval o X.env) = eval o X.env) (hline : (apos.endLine == cpos.line) = true) :
    PE X (.Call (.Attribute o name apos) [] [] cpos) (tE X.K P W (fMt Fo (fun _ st => .ok [] st) f)) := by
  refine ⟨fun pins s σ H Q I h => (pe_bm0 PySem.F.plainAttrs_list slot hty hm ho hbase hline).run pins s σ H Q I ?_⟩
  obtain ⟨M, env, st, sl, at_, p⟩ := h
  refine tG.go sl at_ p fun x H1 d M1 st1 s1 a1 sl1 r1 p1 => ?_
  dsimp only at p1
  split at p1
  · rename_i hl
    exact ⟨isL_of a1 r1 hl, hr _ _ _ _ ⟨M1, st1, d, [], a1, r1, dvs_nil, Post.toO p1⟩⟩
  · exact p1.elim
theorem app_r {x : V} {xs : List V} {H : Hp} {Q : VK} (h : rDM X.K P appD x xs H Q) : rAppend x xs H Q := by
  obtain ⟨M, st, d, ds, a, r1, r2, p⟩ := h
  unfold appD at p
  split at p
  · rename_i n e
    obtain ⟨t, rfl, h1⟩ := dv_loc.mp r1
    obtain ⟨y, rfl, ry⟩ := one_of r2
    split at p
    · rename_i es e1
      obtain ⟨t', vs, k1, k2, h3⟩ := a.lst e1
      rw [h1] at k1; cases k1
      split at p
      · rename_i hl
        refine ⟨t, vs, y, rfl, rfl, k2, by rw [← h3.length, sizeLine_eq]; omega, p.set rfl a h1 (v := V.non) ⟨_, upd_same, ?_⟩ (dv_non.mpr rfl)⟩
        exact (h3.append (dvs_cons ry dvs_nil)).mono a.mok (stp_set h1 nt_lst)
      · exact p.not.elim
    · exact p.not.elim
  · exact p.not.elim
theorem pop_r {x : V} {xs : List V} {H : Hp} {Q : VK} (h : rDM X.K P popD x xs H Q) : rPop x xs H Q := by
  obtain ⟨M, st, d, ds, a, r1, r2, p⟩ := h
  unfold popD at p
  split at p
  · rename_i n
    obtain ⟨t, rfl, h1⟩ := dv_loc.mp r1
    rw [r2.nil_inv]
    split at p
    · rename_i es e1
      obtain ⟨t', vs, k1, k2, h3⟩ := a.lst e1
      rw [h1] at k1; cases k1
      cases e : es[es.length - 1]? with
      | none => rw [e] at p; exact p.not.elim
      | some w =>
        rw [e] at p
        obtain ⟨y, e2, ry⟩ := h3.get e
        rw [h3.length] at e2
        refine ⟨t, vs, y, rfl, rfl, k2, e2, p.set rfl a h1 ⟨_, upd_same, ?_⟩ ry⟩
        exact h3.dropLast.mono a.mok (stp_set h1 nt_lst)
    · exact p.not.elim
  · exact p.not.elim
end
end Q
end

section
set_option Elab.async false
set_option linter.all false
set_option maxRecDepth 100000
set_option maxHeartbeats 1000000
set_option autoImplicit false
/-! Statements, by data. -/
namespace Q
open PySem PySem.Spec PyProof.Rows L2

inductive SR where
  | nx (env : Ev) (st : Sto) | rt (d : D) (st : Sto) | bk (env : Ev) (st : Sto) | ct (env : Ev) (st : Sto) | exc (c : Nat) (d : D) (env : Ev) (st : Sto) | err
def SR.bind (r : SR) (f : Ev → Sto → SR) : SR := match r with
  | .nx env st => f env st
  | .rt d st => .rt d st
  | .bk env st => .bk env st
  | .ct env st => .ct env st
  | .exc c d env st => .exc c d env st
  | .err => .err
/-- an expression's result within a statement -/
def Res.then {α : Type} (r : Res α) (env : Ev) (f : α → Sto → SR) : SR := match r with
  | .ok a st => f a st
  | .exc c d st => .exc c d env st
  | .err => .err
section
variable {K : PySem.W.Frag} {P : Par} {W : WX} {M M1 : List Addr} {H H1 : Hp} {σ : L2.St} {env : Ev} {st : Sto} {De : Ends}
def PostS (K : PySem.W.Frag) (P : Par) (W : WX) (M : List Addr) (H : Hp) (r : SR) (De : Ends) : Prop := match r with
  | .nx env st => ∀ (σ' : L2.St) (M' : List Addr) (H' : Hp), Stp M H M' H' → At K P M' H' st → EvR K P M' H' σ' env → De.nx σ' H'
  | .bk env st => ∀ (σ' : L2.St) (M' : List Addr) (H' : Hp), Stp M H M' H' → At K P M' H' st → EvR K P M' H' σ' env → De.bk σ' H'
  | .ct env st => ∀ (σ' : L2.St) (M' : List Addr) (H' : Hp), Stp M H M' H' → At K P M' H' st → EvR K P M' H' σ' env → De.ct σ' H'
  | .rt d st => ∀ (v : V) (M' : List Addr) (H' : Hp), Stp M H M' H' → At K P M' H' st → DV K M' H' d v → De.rt v H'
  | .exc c d env st => ∀ (dd : Addr) (v : V) (σ' : L2.St) (M' : List Addr) (H' : Hp), Stp M H M' H' → At K P M' H' st → EvR K P M' H' σ' env → DV K M' H' d v → H' dd = some (.xd [(P.FN c, v)]) → W (.ref (P.CA c)) (some dd) σ' H'
  | .err => False
theorem PostS.step {r : SR} (s : Stp M H M1 H1) (h : PostS K P W M H r De) : PostS K P W M1 H1 r De := by
  cases r with
  | nx env st => exact fun σ' M' H' t a e => h σ' M' H' (s.trans t) a e
  | bk env st => exact fun σ' M' H' t a e => h σ' M' H' (s.trans t) a e
  | ct env st => exact fun σ' M' H' t a e => h σ' M' H' (s.trans t) a e
  | rt d st => exact fun v M' H' t a e => h v M' H' (s.trans t) a e
  | exc c d env st => exact fun dd v σ' M' H' t a e r x => h dd v σ' M' H' (s.trans t) a e r x
  | err => exact h
/-- a statement's reading -/
def tS (K : PySem.W.Frag) (P : Par) (W : WX) (F : Ev → Sto → SR) : TS := fun De σ H => ∃ (M : List Addr) (env : Ev) (st : Sto), EvR K P M H σ env ∧ At K P M H st ∧ PostS K P W M H (F env st) De
/-- an expression first -/
theorem tG.goS {γ δ : Type} {R' : List Addr → Hp → γ → δ → Prop} {F : Ev → Sto → Res γ} {G : γ → Sto → SR} {Q' : δ → Hp → Prop} (sl : EvR K P M H σ env) (a : At K P M H st) (h : PostS K P W M H ((F env st).then env G) De)
    (k : ∀ b H1 d M1 st1, Stp M H M1 H1 → At K P M1 H1 st1 → EvR K P M1 H1 σ env → R' M1 H1 d b → PostS K P W M1 H1 (G d st1) De → Q' b H1) : tG K P W R' F σ H Q' := by
  refine ⟨M, env, st, sl, a, ?_⟩
  cases e : F env st with
  | ok d st1 =>
    rw [e] at h
    exact fun b M' H' s1 a1 r1 => k b H' d M' st1 s1 a1 (sl.mono a.mok s1) r1 (PostS.step s1 h)
  | exc c d st1 =>
    rw [e] at h
    exact fun dd v M' H' s1 a1 r1 x => h dd v σ M' H' s1 a1 (sl.mono a.mok s1) r1 x
  | err => rw [e] at h; exact h.elim
/-- a statement first: what follows it -/
theorem PostS.seq {r : SR} {f : Ev → Sto → SR} (h : PostS K P W M H (r.bind f) De) : PostS K P W M H r { De with nx := tS K P W f De } := by
  cases r with
  | nx env st => exact fun σ' M' H' s a e => ⟨M', env, st, e, a, PostS.step s h⟩
  | bk env st => exact h
  | ct env st => exact h
  | rt d st => exact h
  | exc c d env st => exact h
  | err => exact h
end

section
variable {X : Cx} {P : Par} {W : WX} {st0 : Stmt} {rest : List Stmt} {e : Expr} {Fe : Ev → Sto → Res D} {F G : Ev → Sto → SR} {pos : Pos}
theorem q_snil : PSs X [] (tS X.K P W fun env st => .nx env st) := by
  refine ⟨fun pins s σ H De I h => pss_nil.run pins s σ H De I ?_⟩
  obtain ⟨M, env, st, sl, at_, p⟩ := h
  exact p σ M H (Stp.refl _ _) at_ sl
theorem q_scons (h1 : PS X st0 (tS X.K P W F)) (h2 : PSs X rest (tS X.K P W G)) : PSs X (st0 :: rest) (tS X.K P W fun env st => (F env st).bind G) := by
  refine ⟨fun pins s σ H De I h => (pss_cons h1 h2).run pins s σ H De I ?_⟩
  obtain ⟨M, env, st, sl, at_, p⟩ := h
  exact ⟨M, env, st, sl, at_, PostS.seq p⟩
theorem q_pass : PS X (.Pass pos) (tS X.K P W fun env st => .nx env st) := by
  refine ⟨fun pins s σ H De I h => ps_pass.run pins s σ H De I ?_⟩
  obtain ⟨M, env, st, sl, at_, p⟩ := h
  exact p σ M H (Stp.refl _ _) at_ sl
theorem q_break : PS X (.Break pos) (tS X.K P W fun env st => .bk env st) := by
  refine ⟨fun pins s σ H De I h => ps_break.run pins s σ H De I ?_⟩
  obtain ⟨M, env, st, sl, at_, p⟩ := h
  exact p σ M H (Stp.refl _ _) at_ sl
theorem q_cont : PS X (.Continue pos) (tS X.K P W fun env st => .ct env st) := by
  refine ⟨fun pins s σ H De I h => ps_continue.run pins s σ H De I ?_⟩
  obtain ⟨M, env, st, sl, at_, p⟩ := h
  exact p σ M H (Stp.refl _ _) at_ sl
theorem q_expr (he : PE X e (tE X.K P W Fe)) (hs : swapsWith e none pos.line X.env = pure false) : PS X (.Expr e pos) (tS X.K P W fun env st => (Fe env st).then env fun _ s1 => .nx env s1) := by
  refine ⟨fun pins s σ H De I h => (ps_expr he hs).run pins s σ H De I ?_⟩
  obtain ⟨M, env, st, sl, at_, p⟩ := h
  exact tG.goS sl at_ p fun x H1 d M1 st1 s1 a1 sl1 r1 p1 => p1 σ M1 H1 (Stp.refl _ _) a1 sl1
theorem q_ret (he : PE X e (tE X.K P W Fe)) : PS X (.Return (some e) pos) (tS X.K P W fun env st => (Fe env st).then env fun d s1 => .rt d s1) := by
  refine ⟨fun pins s σ H De I h => (ps_ret he).run pins s σ H De I ?_⟩
  obtain ⟨M, env, st, sl, at_, p⟩ := h
  exact tG.goS sl at_ p fun x H1 d M1 st1 s1 a1 sl1 r1 p1 => p1 x M1 H1 (Stp.refl _ _) a1 r1
theorem q_retN : PS X (.Return none pos) (tS X.K P W fun env st => .rt .non st) := by
  refine ⟨fun pins s σ H De I h => ps_retN.run pins s σ H De I ?_⟩
  obtain ⟨M, env, st, sl, at_, p⟩ := h
  exact p .non M H (Stp.refl _ _) at_ (dv_non.mpr rfl)
theorem q_sif {c : Expr} {a b : List Stmt} {Tc : Ev → Sto → Res Bool} (hc : PT X c (tT X.K P W Tc)) (ha : PSs X a (tS X.K P W F)) (hb : PSs X b (tS X.K P W G)) :
    PS X (.If c a b pos) (tS X.K P W fun env st => (Tc env st).then env fun k s1 => if k = true then F env s1 else G env s1) := by
  refine ⟨fun pins s σ H De I h => (ps_if hc ha hb).run pins s σ H De I ?_⟩
  obtain ⟨M, env, st, sl, at_, p⟩ := h
  refine tG.goS sl at_ p fun x H1 d M1 st1 s1 a1 sl1 r1 p1 => ?_
  subst r1
  cases d with
  | true => rw [if_pos rfl] at p1 ⊢; exact ⟨M1, env, st1, sl1, a1, p1⟩
  | false => rw [if_neg Bool.false_ne_true] at p1 ⊢; exact ⟨M1, env, st1, sl1, a1, p1⟩
theorem q_set {i : Nat} {x : Str} {pos' : Pos} (hN : X.N.Nodup) (hi : X.N[i]? = some x) (hx : Loc X.env.scope x) (he : PE X e (tE X.K P W Fe)) (hs : swapsWith e (some (.Name x pos')) pos.line X.env = pure false) (hf : X.fn x = true ∨ X.env.scope.names.lookup x = some .local) :
    PS X (.Assign [.Name x pos'] e pos) (tS X.K P W fun env st => (Fe env st).then env fun d s1 => .nx (env.set i (some d)) s1) := by
  refine ⟨fun pins s σ H De I h => (ps_set hN hi hx he hs hf).run pins s σ H De I ?_⟩
  obtain ⟨M, env, st, sl, at_, p⟩ := h
  exact tG.goS sl at_ p fun x H1 d M1 st1 s1 a1 sl1 r1 p1 => p1 (σ.set i (some x)) M1 H1 (Stp.refl _ _) a1 (sl1.set r1)

/-! ### targets -/
def PostP (K : PySem.W.Frag) (P : Par) (M : List Addr) (H : Hp) (st : Sto) (r : Option Ev) (Q : L2.St → Hp → Prop) : Prop := ∃ env', r = some env' ∧ ∀ (σ' : L2.St) (M' : List Addr) (H' : Hp), Stp M H M' H' → At K P M' H' st → EvR K P M' H' σ' env' → Q σ' H'
def tP (K : PySem.W.Frag) (P : Par) (g : D → Ev → Option Ev) : TG := fun v σ H Q => ∃ (M : List Addr) (env : Ev) (st : Sto) (d : D), EvR K P M H σ env ∧ At K P M H st ∧ DV K M H d v ∧ PostP K P M H st (g d env) Q
def tPs (K : PySem.W.Frag) (P : Par) (g : List D → Ev → Option Ev) : TGs := fun vs σ H Q => ∃ (M : List Addr) (env : Ev) (st : Sto) (ds : List D), EvR K P M H σ env ∧ At K P M H st ∧ DVs K M H ds vs ∧ PostP K P M H st (g ds env) Q
def gNm (i : Nat) : D → Ev → Option Ev := fun d env => some (env.set i (some d))
def gTp (gs : List D → Ev → Option Ev) (n : Nat) : D → Ev → Option Ev := fun d env => match d with
  | .tup ds => if ds.length = n then gs ds env else none
  | _ => none
def gsNil : List D → Ev → Option Ev := fun ds env => match ds with
  | [] => some env
  | _ => none
def gsCons (g : D → Ev → Option Ev) (gs : List D → Ev → Option Ev) : List D → Ev → Option Ev := fun ds env => match ds with
  | d :: ds => (g d env).bind (gs ds)
  | [] => none
theorem q_pgn {i : Nat} {x : Str} (hN : X.N.Nodup) (hi : X.N[i]? = some x) (hx : Loc X.env.scope x) (hf : X.fn x = true ∨ X.env.scope.names.lookup x = some .local) : PG X (.Name x pos) (tP X.K P (gNm i)) := by
  refine ⟨fun pins s σ H v u Q I r h => (pg_name hN hi hx hf).run pins s σ H v u Q I r ?_⟩
  obtain ⟨M, env, st, d, sl, at_, rd, env', e, k⟩ := h
  cases e
  exact k _ M H (Stp.refl _ _) at_ (sl.set rd)
theorem q_pgnil : PGs X [] (tPs X.K P gsNil) := by
  refine ⟨fun pins s σ H vs us Q I r h => pgs_nil.run pins s σ H vs us Q I r ?_⟩
  obtain ⟨M, env, st, ds, sl, at_, rd, env', e, k⟩ := h
  cases ds with
  | nil =>
    cases e
    exact ⟨rd.nil_inv, k _ M H (Stp.refl _ _) at_ sl⟩
  | cons _ _ => cases e
theorem q_pgcons {t : Expr} {ts : List Expr} {g : D → Ev → Option Ev} {gs : List D → Ev → Option Ev} (h1 : PG X t (tP X.K P g)) (h2 : PGs X ts (tPs X.K P gs))
    (hs : (assignEach (t :: ts) X.env).map (·.2) = assign t X.env :: (assignEach ts X.env).map (·.2)) : PGs X (t :: ts) (tPs X.K P (gsCons g gs)) := by
  refine ⟨fun pins s σ H vs us Q I r h => (pgs_cons h1 h2 hs).run pins s σ H vs us Q I r ?_⟩
  obtain ⟨M, env, st, ds, sl, at_, rd, env', e, k⟩ := h
  cases ds with
  | nil => cases e
  | cons d ds =>
    obtain ⟨v, vr, rfl, r1, r2⟩ := rd.cons_inv
    cases e1 : g d env with
    | none => simp only [gsCons, e1, Option.bind_none] at e; cases e
    | some env1 =>
      simp only [gsCons, e1, Option.bind_some] at e
      exact ⟨v, vr, rfl, M, env, st, d, sl, at_, r1, env1, e1, fun σ' M' H' s1 a1 sl1 => ⟨M', env1, st, ds, sl1, a1, r2.mono at_.mok s1, env', e, fun σ2 M2 H2 s2 a2 sl2 => k σ2 M2 H2 (s1.trans s2) a2 sl2⟩⟩
theorem q_pgtup {ts : List Expr} {k n : Nat} {gs : List D → Ev → Option Ev} (hc : X.calm = true) (h : PGs X ts (tPs X.K P gs)) (hn : (assignEach ts X.env).length = n) (hst : (assignEach ts X.env).findIdx? (·.1) = none) : PG X (.Tuple ts k pos) (tP X.K P (gTp gs n)) := by
  refine ⟨fun pins s σ H v u Q I r hh => (pg_tup hc h hn hst).run pins s σ H v u Q I r ?_⟩
  obtain ⟨M, env, st, d, sl, at_, rd, env', e, kk⟩ := hh
  cases d with
  | tup ds =>
    simp only [gTp] at e
    split at e
    · rename_i hl
      obtain ⟨a, vs, rfl, h1, h2⟩ := dv_tup.mp rd
      exact ⟨a, vs, rfl, h1, by rw [← h2.length]; exact hl, M, env, st, ds, sl, at_, h2, env', e, kk⟩
    · cases e
  | _ => cases e
def ofEv (r : Option Ev) (st : Sto) : SR := match r with
  | some env => .nx env st
  | none => .err
theorem q_asg {tg : Expr} {g : D → Ev → Option Ev} (he : PE X e (tE X.K P W Fe)) (hg : PG X tg (tP X.K P g)) (hs : swapsWithSole [tg] e pos.line X.env = pure false) (hw : swappedStores [tg] e X.env = pure none) (h1 : (assignEach [tg] X.env).map (·.2) = [assign tg X.env]) :
    PS X (.Assign [tg] e pos) (tS X.K P W fun env st => (Fe env st).then env fun d s1 => ofEv (g d env) s1) := by
  refine ⟨fun pins s σ H De I h => (ps_asg he hg hs hw h1).run pins s σ H De I ?_⟩
  obtain ⟨M, env, st, sl, at_, p⟩ := h
  refine tG.goS sl at_ p fun x H1 d M1 st1 s1 a1 sl1 r1 p1 => ?_
  cases e1 : g d env with
  | none => rw [e1] at p1; exact p1.elim
  | some env1 =>
    rw [e1] at p1
    exact ⟨M1, env, st1, d, sl1, a1, r1, env1, e1, p1⟩
/-- a, b = x, y -/
theorem q_par2 {i j : Nat} {x y : Str} {a b : Expr} {G : Ev → Sto → Res (List D)} {px py pt : Pos} {kt k2 : Nat} {pt2 : Pos} (hc : X.calm = true) (hN : X.N.Nodup) (hi : X.N[i]? = some x) (hj : X.N[j]? = some y) (hij : i ≠ j)
    (hx : X.env.scope.names.lookup x = some .local) (hy : X.env.scope.names.lookup y = some .local) (ha : PA X [a, b] (tL X.K P W G))
    (hw : swappedStores [.Tuple [.Name x px, .Name y py] kt pt] (.Tuple [a, b] k2 pt2) X.env = pure (some [x, y])) (hs : swapsWithSole [.Tuple [.Name x px, .Name y py] kt pt] (.Tuple [a, b] k2 pt2) pos.line X.env = pure false) :
    PS X (.Assign [.Tuple [.Name x px, .Name y py] kt pt] (.Tuple [a, b] k2 pt2) pos) (tS X.K P W fun env st => (G env st).then env fun ds s1 => match ds with
      | [d, e] => .nx ((env.set i (some d)).set j (some e)) s1
      | _ => .err) := by
  refine ⟨fun pins s σ H De I h => (ps_par hc hN hi hj hij hx hy ha hw hs).run pins s σ H De I ?_⟩
  obtain ⟨M, env, st, sl, at_, p⟩ := h
  refine tG.goS sl at_ p fun xs H1 ds M1 st1 s1 a1 sl1 r1 p1 => ?_
  split at p1
  · obtain ⟨v, w, rfl, h1, h2⟩ := two_of r1
    exact ⟨v, w, rfl, p1 _ M1 H1 (Stp.refl _ _) a1 ((sl1.set h1).set h2)⟩
  · exact p1.elim
theorem three_of {K : PySem.W.Frag} {M : List Addr} {H : Hp} {d e f : D} {xs : List V} (h : DVs K M H [d, e, f] xs) : ∃ u v w, xs = [u, v, w] ∧ DV K M H d u ∧ DV K M H e v ∧ DV K M H f w := by
  obtain ⟨v, vr, rfl, h1, h2⟩ := h.cons_inv
  obtain ⟨w, z, rfl, h3, h4⟩ := two_of h2
  exact ⟨v, w, z, rfl, h1, h3, h4⟩
theorem q_par3 {i j l : Nat} {x y z : Str} {a b c : Expr} {G : Ev → Sto → Res (List D)} {px py pz pt : Pos} {kt k2 : Nat} {pt2 : Pos} (hc : X.calm = true) (hN : X.N.Nodup) (hi : X.N[i]? = some x) (hj : X.N[j]? = some y) (hl : X.N[l]? = some z) (hij : i ≠ j) (hil : i ≠ l) (hjl : j ≠ l)
    (hx : X.env.scope.names.lookup x = some .local) (hy : X.env.scope.names.lookup y = some .local) (hz : X.env.scope.names.lookup z = some .local) (ha : PA X [a, b, c] (tL X.K P W G))
    (hw : swappedStores [.Tuple [.Name x px, .Name y py, .Name z pz] kt pt] (.Tuple [a, b, c] k2 pt2) X.env = pure (some [x, y, z])) (hs : swapsWithSole [.Tuple [.Name x px, .Name y py, .Name z pz] kt pt] (.Tuple [a, b, c] k2 pt2) pos.line X.env = pure false) :
    PS X (.Assign [.Tuple [.Name x px, .Name y py, .Name z pz] kt pt] (.Tuple [a, b, c] k2 pt2) pos) (tS X.K P W fun env st => (G env st).then env fun ds s1 => match ds with
      | [d, e, f] => .nx (((env.set i (some d)).set j (some e)).set l (some f)) s1
      | _ => .err) := by
  refine ⟨fun pins s σ H De I h => (ps_par3 hc hN hi hj hl hij hil hjl hx hy hz ha hw hs).run pins s σ H De I ?_⟩
  obtain ⟨M, env, st, sl, at_, p⟩ := h
  refine tG.goS sl at_ p fun xs H1 ds M1 st1 s1 a1 sl1 r1 p1 => ?_
  split at p1
  · obtain ⟨u, v, w, rfl, h1, h2, h3⟩ := three_of r1
    exact ⟨u, v, w, rfl, p1 _ M1 H1 (Stp.refl _ _) a1 (((sl1.set h1).set h2).set h3)⟩
  · exact p1.elim

/-! ### what is walked -/
structure ItD where
  n : Nat
  item : Nat → Sto → Option D
  fin : Sto → Bool
def ItOk (K : PySem.W.Frag) (P : Par) (M0 : List Addr) (H0 : Hp) (it : ItD) (J : It) : Prop := ∀ (i : Nat) (M : List Addr) (H : Hp) (st : Sto), Stp M0 H0 M H → At K P M H st →
  (∀ d, i < it.n → it.item i st = some d → J.go i H ∧ ∀ x H', J.yld i H x H' → ∃ M', Stp M H M' H' ∧ At K P M' H' st ∧ DV K M' H' d x) ∧ (it.n ≤ i → it.fin st = true → J.stop i H)
abbrev tI (K : PySem.W.Frag) (P : Par) (W : WX) (F : Ev → Sto → Res ItD) : TI := tG K P W (ItOk K P) F
def loopS (it : ItD) (g : D → Ev → Option Ev) (body : Ev → Sto → SR) : Nat → Nat → Ev → Sto → SR
  | 0, _, env, st => if it.fin st = true then .nx env st else .err
  | k + 1, i, env, st => match it.item i st with
    | none => .err
    | some d => match g d env with
      | none => .err
      | some env1 => match body env1 st with
        | .nx e s => loopS it g body k (i + 1) e s
        | .ct e s => loopS it g body k (i + 1) e s
        | .bk e s => .nx e s
        | r => r
theorem q_for {tg iter : Expr} {body : List Stmt} {Fi : Ev → Sto → Res ItD} {g : D → Ev → Option Ev} {Fb : Ev → Sto → SR} (hp : PassesOwn (model X.prog X.w) X.A X.env X.xe) (hc : X.calm = true) (hi : PI X tg iter (tI X.K P W Fi)) (hg : PG X tg (tP X.K P g)) (hb : PSs X body (tS X.K P W Fb))
    (hs : ∀ x, foldedSetIterable iter X.env x = pure x) : PS X (.For tg iter body [] pos) (tS X.K P W fun env st => (Fi env st).then env fun it s1 => loopS it g Fb it.n 0 env s1) := by
  refine ⟨fun pins s σ H De I h => (ps_for hp hc hi hg hb hs).run pins s σ H De I ?_⟩
  obtain ⟨M, env, st, sl, at_, p⟩ := h
  refine tG.goS sl at_ p fun J H1 it M1 st1 s1 a1 sl1 r1 p1 => ?_
  refine ⟨fun i m σ H => m = it.n - i ∧ i ≤ it.n ∧ ∃ M env st, Stp M1 H1 M H ∧ EvR X.K P M H σ env ∧ At X.K P M H st ∧ PostS X.K P W M H (loopS it g Fb (it.n - i) i env st) De, ⟨it.n, rfl, Nat.zero_le _, M1, env, st1, Stp.refl _ _, sl1, a1, p1⟩, ?_⟩
  rintro i m σ2 H2 ⟨rfl, hle, M2, env2, st2, s2, sl2, a2, p2⟩
  have ok := r1 i M2 H2 st2 s2 a2
  by_cases hlt : i < it.n
  · refine .inr ?_
    obtain ⟨k, hk⟩ : ∃ k, it.n - i = k + 1 := ⟨it.n - i - 1, by omega⟩
    rw [hk, loopS] at p2
    cases e1 : it.item i st2 with
    | none => rw [e1] at p2; exact p2.elim
    | some d =>
      rw [e1] at p2
      dsimp only at p2
      cases e2 : g d env2 with
      | none => rw [e2] at p2; exact p2.elim
      | some env3 =>
        rw [e2] at p2
        dsimp only at p2
        obtain ⟨go, yl⟩ := ok.1 d hlt e1
        have hk2 : k = it.n - (i + 1) := by omega
        refine ⟨go, fun σ' H' => i + 1 ≤ it.n ∧ ∃ M env st, Stp M1 H1 M H' ∧ EvR X.K P M H' σ' env ∧ At X.K P M H' st ∧ PostS X.K P W M H' (loopS it g Fb (it.n - (i + 1)) (i + 1) env st) De, fun σ' H' hn => ⟨it.n - (i + 1), by omega, rfl, hn⟩, fun x H' y => ?_⟩
        obtain ⟨M3, s3, a3, r3⟩ := yl x H' y
        have sl3 := sl2.mono a2.mok s3
        refine ⟨M3, env2, st2, d, sl3, a3, r3, env3, e2, fun σ4 M4 H4 s4 a4 sl4 => ⟨M4, env3, st2, sl4, a4, ?_⟩⟩
        have s14 : Stp M1 H1 M4 H4 := (s2.trans s3).trans s4
        have p4 := PostS.step (s3.trans s4) p2
        cases e3 : Fb env3 st2 with
        | nx e s =>
          rw [e3] at p4
          dsimp only at p4
          rw [hk2] at p4
          exact fun σ' M' H' s' a' sl' => ⟨hlt, M', e, s, s14.trans s', sl', a', PostS.step s' p4⟩
        | ct e s =>
          rw [e3] at p4
          dsimp only at p4
          rw [hk2] at p4
          exact fun σ' M' H' s' a' sl' => ⟨hlt, M', e, s, s14.trans s', sl', a', PostS.step s' p4⟩
        | bk e s => rw [e3] at p4; exact p4
        | rt d' s => rw [e3] at p4; exact p4
        | exc c d' e s => rw [e3] at p4; exact p4
        | err => rw [e3] at p4; exact p4.elim
  · have e0 : it.n - i = 0 := by omega
    rw [e0, loopS] at p2
    split at p2
    · rename_i hf
      exact .inl ⟨ok.2 (by omega) hf, p2 σ2 M2 H2 (Stp.refl _ _) a2 sl2⟩
    · exact p2.elim
def whileS (c : Ev → Sto → Res Bool) (body : Ev → Sto → SR) : Nat → Ev → Sto → SR
  | 0, _, _ => .err
  | k + 1, env, st => (c env st).then env fun b s1 => if b = true then (match body env s1 with
      | .nx e s => whileS c body k e s
      | .ct e s => whileS c body k e s
      | .bk e s => .nx e s
      | r => r) else .nx env s1
theorem q_while {c : Expr} {body : List Stmt} {Tc : Ev → Sto → Res Bool} {Fb : Ev → Sto → SR} (n : Nat) (hp : PassesOwn (model X.prog X.w) X.A X.env X.xe) (hc : PT X c (tT X.K P W Tc)) (hb : PSs X body (tS X.K P W Fb)) : PS X (.While c body [] pos) (tS X.K P W (whileS Tc Fb n)) := by
  refine ⟨fun pins s σ H De I h => (ps_while hp hc hb).run pins s σ H De I ?_⟩
  refine ⟨fun m σ H => tS X.K P W (whileS Tc Fb m) De σ H, ⟨n, h⟩, fun m σ H hh => ?_⟩
  obtain ⟨M, env, st, sl, at_, p⟩ := hh
  cases m with
  | zero => exact p.elim
  | succ m =>
    rw [whileS] at p
    refine tG.goS sl at_ p fun b H1 d M1 st1 s1 a1 sl1 r1 p1 => ?_
    subst r1
    cases d with
    | false => rw [if_neg Bool.false_ne_true] at p1 ⊢; exact p1 σ M1 H1 (Stp.refl _ _) a1 sl1
    | true =>
      rw [if_pos rfl] at p1 ⊢
      refine ⟨tS X.K P W (whileS Tc Fb m) De, fun σ' H' hn => ⟨m, Nat.lt_succ_self _, hn⟩, M1, env, st1, sl1, a1, ?_⟩
      cases e3 : Fb env st1 with
      | nx e s => rw [e3] at p1; exact fun σ' M' H' s' a' sl' => ⟨M', e, s, sl', a', PostS.step s' p1⟩
      | ct e s => rw [e3] at p1; exact fun σ' M' H' s' a' sl' => ⟨M', e, s, sl', a', PostS.step s' p1⟩
      | bk e s => rw [e3] at p1; exact p1
      | rt d' s => rw [e3] at p1; exact p1
      | exc c d' e s => rw [e3] at p1; exact p1
      | err => rw [e3] at p1; exact p1.elim
end
end Q
end

section
set_option Elab.async false
set_option linter.all false
set_option maxRecDepth 100000
set_option maxHeartbeats 1000000
set_option autoImplicit false
/-! What loops walk, by data. -/
namespace Q
open PySem PySem.Spec PyProof.Rows L2
section
variable {K : PySem.W.Frag} {P : Par} {M M0 : List Addr} {H H0 : Hp} {st : Sto}
def itTup (ds : List D) : ItD := ⟨ds.length, fun i _ => ds[i]?, fun _ => true⟩
def lenAt (n : Nat) (st : Sto) : Option (List D) := match st[n]? with
  | some (.lst ds) => some ds
  | _ => none
def itLoc (n k : Nat) : ItD := ⟨k, fun i st => (lenAt n st).bind fun ds => ds[i]?, fun st => match lenAt n st with
  | some ds => ds.length ≤ k
  | none => false⟩
def itStr (x : Str) : ItD := ⟨x.cps.size, fun i _ => x.cps[i]?.map fun c => .str ⟨#[c]⟩, fun _ => true⟩
def itRng (lo c : Int) (n : Nat) : ItD := ⟨n, fun i _ => some (.int (lo + (i : Nat) * c)), fun _ => true⟩
theorem lenAt_of {n : Nat} {ds : List D} (h : lenAt n st = some ds) : st[n]? = some (.lst ds) := by
  unfold lenAt at h
  split at h
  · rename_i e; cases h; exact e
  · cases h
theorem it_tup {a : Addr} {vs : List V} {ds : List D} (m : MOk M0 H0) (q : SqT K H0 a vs) (r : DVs K M0 H0 ds vs) : ItOk K P M0 H0 (itTup ds) (Itt K a) := fun i M H st s at_ => by
  have q1 := sqT_mono m s q
  have r1 := r.mono m s
  refine ⟨fun d hi e => ?_, fun hle _ => ⟨vs, q1, by rw [← r1.length]; exact hle⟩⟩
  obtain ⟨v, e1, r2⟩ := r1.get (show ds[i]? = some d from e)
  refine ⟨⟨vs, v, q1, e1⟩, fun x H' y => ?_⟩
  obtain ⟨rfl, h⟩ := y
  have h2 := h vs q1
  rw [e1] at h2
  cases h2
  exact ⟨M, Stp.refl _ _, at_, r2⟩
theorem it_fz {a : Addr} {vs : List V} {ds : List D} (m : MOk M0 H0) (q : SqF K H0 a vs) (r : DVs K M0 H0 ds vs) : ItOk K P M0 H0 (itTup ds) (Itl K a) := fun i M H st s at_ => by
  have q1 := sqF_mono m s q
  have r1 := r.mono m s
  refine ⟨fun d hi e => ?_, fun hle _ => ⟨vs, q1.sq, by rw [← r1.length]; exact hle⟩⟩
  obtain ⟨v, e1, r2⟩ := r1.get (show ds[i]? = some d from e)
  refine ⟨⟨vs, v, q1.sq, e1⟩, fun x H' y => ?_⟩
  obtain ⟨rfl, h⟩ := y
  have h2 := h vs q1.sq
  rw [e1] at h2
  cases h2
  exact ⟨M, Stp.refl _ _, at_, r2⟩
theorem it_loc {a : Addr} {n k : Nat} (q : M0[n]? = some a) : ItOk K P M0 H0 (itLoc n k) (Itl K a) := fun i M H st s at_ => by
  have q1 := s.get q
  refine ⟨fun d hi e => ?_, fun hle hf => ?_⟩
  · have e' : (lenAt n st).bind (fun ds => ds[i]?) = some d := e
    cases hl : lenAt n st with
    | none => rw [hl] at e'; cases e'
    | some ds =>
      rw [hl, Option.bind_some] at e'
      obtain ⟨p, vs, h1, h2, r1⟩ := at_.lst (lenAt_of hl)
      rw [q1] at h1
      cases h1
      obtain ⟨v, e1, r2⟩ := r1.get e'
      refine ⟨⟨vs, v, SqL.of h2, e1⟩, fun x H' y => ?_⟩
      obtain ⟨rfl, h⟩ := y
      have h3 := h vs (SqL.of h2)
      rw [e1] at h3
      cases h3
      exact ⟨M, Stp.refl _ _, at_, r2⟩
  · have hf' : (match lenAt n st with | some ds => decide (ds.length ≤ k) | none => false) = true := hf
    cases hl : lenAt n st with
    | none => rw [hl] at hf'; cases hf'
    | some ds =>
      rw [hl] at hf'
      obtain ⟨p, vs, h1, h2, r1⟩ := at_.lst (lenAt_of hl)
      rw [q1] at h1
      cases h1
      exact ⟨vs, SqL.of h2, by rw [← r1.length]; exact Nat.le_trans (of_decide_eq_true hf') hle⟩
theorem it_str {x : Str} : ItOk K P M0 H0 (itStr x) (Its x) := fun i M H st s at_ => by
  refine ⟨fun d hi e => ⟨hi, fun v H' y => ?_⟩, fun hle _ => hle⟩
  obtain ⟨rfl, c, hc, rfl⟩ := y
  have e' : x.cps[i]?.map (fun c => D.str ⟨#[c]⟩) = some d := e
  rw [hc] at e'
  cases e'
  exact ⟨M, Stp.refl _ _, at_, dv_str.mpr rfl⟩
theorem it_rng {lo : Int} {n : Nat} : ItOk K P M0 H0 (itRng lo 1 n) (Itr lo n) := fun i M H st s at_ => by
  refine ⟨fun d hi e => ⟨hi, fun v H' y => ?_⟩, fun hle _ => hle⟩
  obtain ⟨rfl, rfl⟩ := y
  cases e
  exact ⟨M, Stp.refl _ _, at_, dv_int.mpr (by rw [Int.mul_one])⟩
theorem it_rngC {lo c : Int} {n : Nat} : ItOk K P M0 H0 (itRng lo c n) (Itc lo c n) := fun i M H st s at_ => by
  refine ⟨fun d hi e => ⟨hi, fun v H' y => ?_⟩, fun hle _ => hle⟩
  obtain ⟨rfl, rfl⟩ := y
  cases e
  exact ⟨M, Stp.refl _ _, at_, dv_int.mpr rfl⟩
end

/-- what is walked when a value is -/
def itD (d : D) (st : Sto) : Res ItD := match d with
  | .tup ds => .ok (itTup ds) st
  | .fz ds => .ok (itTup ds) st
  | .loc n => match lenAt n st with
    | some ds => .ok (itLoc n ds.length) st
    | none => .err
  | .str x => .ok (itStr x) st
  | _ => .err
section
variable {X : Cx} {P : Par} {W : WX} {tg e : Expr} {Fe : Ev → Sto → Res D} {pos p : Pos}
theorem pi_or {t1 t2 : TI} (h1 : PI X tg e t1) (h2 : PI X tg e t2) : PI X tg e (fun σ H R => t1 σ H R ∨ t2 σ H R) :=
  ⟨fun pins s σ H R I h => h.elim (h1.run pins s σ H R I) (h2.run pins s σ H R I)⟩
theorem pi_imp {t1 t2 : TI} (h1 : PI X tg e t1) (k : ∀ σ H R, t2 σ H R → t1 σ H R) : PI X tg e t2 := ⟨fun pins s σ H R I h => h1.run pins s σ H R I (k σ H R h)⟩
theorem q_itv (he : PE X e (tE X.K P W Fe)) : PI X tg e (tI X.K P W fun env st => (Fe env st).bind itD) := by
  refine pi_imp (pi_or (pi_tup he) (pi_or (pi_list he) (pi_str he))) fun σ H R h => ?_
  obtain ⟨M, env, st, sl, at_, p⟩ := h
  dsimp only at p
  cases e1 : Fe env st with
  | err => rw [e1] at p; exact p.elim
  | exc c d s1 =>
    rw [e1] at p
    exact .inl ⟨M, env, st, sl, at_, by rw [e1]; exact p⟩
  | ok d s1 =>
    rw [e1] at p
    have p : Post X.K P M H (ItOk X.K P) (fun c d H' => W c d σ H') (itD d s1) R := p
    cases d with
    | tup ds =>
      refine .inl ⟨M, env, st, sl, at_, ?_⟩
      rw [e1]
      intro b M' H' s a r
      obtain ⟨q, vs, rfl, h1, h2⟩ := dv_tup.mp r
      exact ⟨q, rfl, ⟨vs, h1⟩, p _ M' H' s a (it_tup a.mok h1 h2)⟩
    | fz ds =>
      refine .inr (.inl ⟨M, env, st, sl, at_, ?_⟩)
      rw [e1]
      intro b M' H' s a r
      obtain ⟨q, vs, rfl, h1, h2⟩ := dv_fz.mp r
      exact ⟨q, rfl, ⟨vs, h1.sq⟩, p _ M' H' s a (it_fz a.mok h1 h2)⟩
    | str x =>
      refine .inr (.inr ⟨M, env, st, sl, at_, ?_⟩)
      rw [e1]
      intro b M' H' s a r
      cases dv_str.mp r
      exact ⟨x, rfl, p _ M' H' s a it_str⟩
    | loc n =>
      refine .inr (.inl ⟨M, env, st, sl, at_, ?_⟩)
      rw [e1]
      intro b M' H' s a r
      obtain ⟨q, rfl, hm⟩ := dv_loc.mp r
      simp only [itD] at p
      split at p
      · rename_i ds hl
        obtain ⟨q', vs, h1, h2, r1⟩ := a.lst (lenAt_of hl)
        rw [hm] at h1
        cases h1
        exact ⟨q, rfl, ⟨vs, SqL.of h2⟩, p _ M' H' s a (it_loc hm)⟩
      · exact p.elim
    | _ => exact p.elim
def smI (i : Int) : Bool := -(2 ^ 62) ≤ i && i < 2 ^ 62
theorem smI_of {i : Int} (h : smI i = true) : -(2 ^ 62) ≤ i ∧ i < 2 ^ 62 := by
  unfold smI at h
  rw [Bool.and_eq_true] at h
  exact ⟨of_decide_eq_true h.1, of_decide_eq_true h.2⟩
def rng1 (ds : List D) (st : Sto) : Res ItD := match ds with
  | [.int j] => if smI j = true then .ok (itRng 0 1 j.toNat) st else .err
  | _ => .err
def rng2 (ds : List D) (st : Sto) : Res ItD := match ds with
  | [.int i, .int j] => if smI i = true ∧ smI j = true then .ok (itRng i 1 (j - i).toNat) st else .err
  | _ => .err
def rng3 (ds : List D) (st : Sto) : Res ItD := match ds with
  | [.int i, .int j, .int c] => if smI i = true ∧ smI j = true ∧ c = -1 then .ok (itRng i (-1) (i - j).toNat) st else .err
  | _ => .err
theorem q_rng1 {a : Expr} {G : Ev → Sto → Res (List D)} (hg : Gl X "range") (hm : X.mg "range" = none) (ha : PA X [a] (tL X.K P W G)) (hs : starEach [a] X.env = [(false, eval a X.env)]) :
    PI X tg (.Call (.Name "range" p) [a] [] pos) (tI X.K P W fun env st => (G env st).bind rng1) := by
  refine pi_imp (pi_range1 hg hm ha hs) fun σ H R h => ?_
  obtain ⟨M, env, st, sl, at_, p⟩ := h
  refine tG.go sl at_ p fun xs H1 ds M1 st1 s1 a1 sl1 r1 p1 => ?_
  unfold rng1 at p1
  split at p1
  · rename_i j
    split at p1
    · rename_i hj
      obtain ⟨v, rfl, h1⟩ := one_of r1
      cases dv_int.mp h1
      obtain ⟨b1, b2⟩ := smI_of hj
      exact ⟨j, rfl, b1, b2, p1 _ M1 H1 (Stp.refl _ _) a1 it_rng⟩
    · exact p1.elim
  · exact p1.elim
theorem q_rng2 {a b : Expr} {G : Ev → Sto → Res (List D)} (hg : Gl X "range") (hm : X.mg "range" = none) (ha : PA X [a, b] (tL X.K P W G)) (hs : starEach [a, b] X.env = [(false, eval a X.env), (false, eval b X.env)]) (hs2 : starEach [b] X.env = [(false, eval b X.env)]) :
    PI X tg (.Call (.Name "range" p) [a, b] [] pos) (tI X.K P W fun env st => (G env st).bind rng2) := by
  refine pi_imp (pi_range2 hg hm ha hs hs2) fun σ H R h => ?_
  obtain ⟨M, env, st, sl, at_, p⟩ := h
  refine tG.go sl at_ p fun xs H1 ds M1 st1 s1 a1 sl1 r1 p1 => ?_
  unfold rng2 at p1
  split at p1
  · rename_i i j
    split at p1
    · rename_i hj
      obtain ⟨v, w, rfl, h1, h2⟩ := two_of r1
      cases dv_int.mp h1
      cases dv_int.mp h2
      obtain ⟨b1, b2⟩ := smI_of hj.1
      obtain ⟨b3, b4⟩ := smI_of hj.2
      exact ⟨i, j, rfl, ⟨b1, b2, b3, b4⟩, p1 _ M1 H1 (Stp.refl _ _) a1 it_rng⟩
    · exact p1.elim
  · exact p1.elim
theorem q_rng3 {a b c : Expr} {G : Ev → Sto → Res (List D)} (hg : Gl X "range") (hm : X.mg "range" = none) (ha : PA X [a, b, c] (tL X.K P W G)) (hs : starEach [a, b, c] X.env = (false, eval a X.env) :: starEach [b, c] X.env) (hpl : (backTo pos (starEach [b, c] X.env)).any (·.1) = false) :
    PI X tg (.Call (.Name "range" p) [a, b, c] [] pos) (tI X.K P W fun env st => (G env st).bind rng3) := by
  refine pi_imp (pi_range3 hg hm ha hs hpl) fun σ H R h => ?_
  obtain ⟨M, env, st, sl, at_, p⟩ := h
  refine tG.go sl at_ p fun xs H1 ds M1 st1 s1 a1 sl1 r1 p1 => ?_
  unfold rng3 at p1
  split at p1
  · rename_i i j c
    split at p1
    · rename_i hj
      obtain ⟨hj1, hj2, rfl⟩ := hj
      obtain ⟨u, v, w, rfl, h1, h2, h3⟩ := three_of r1
      cases dv_int.mp h1
      cases dv_int.mp h2
      cases dv_int.mp h3
      obtain ⟨b1, b2⟩ := smI_of hj1
      obtain ⟨b3, b4⟩ := smI_of hj2
      exact ⟨i, j, -1, _, rfl, RgC.neg b1 b2 b3 b4, p1 _ M1 H1 (Stp.refl _ _) a1 it_rngC⟩
    · exact p1.elim
  · exact p1.elim
/-- reversed(range(a)) -/
def rev1 (d : D) (st : Sto) : Res ItD := match d with
  | .int j => if smI j = true then .ok (itRng ((j.toNat : Int) - 1) (-1) j.toNat) st else .err
  | _ => .err
theorem q_rev1 {a : Expr} {Fa : Ev → Sto → Res D} {p1 pos1 : Pos} (hgr : Gl X "reversed") (hmr : X.mg "reversed" = none) (hg : Gl X "range") (hm : X.mg "range" = none) (ha : PE X a (tE X.K P W Fa)) (na : starEach [a] X.env = (false, eval a X.env) :: starEach [] X.env)
    (hs : starEach [.Call (.Name "range" p1) [a] [] pos1] X.env = (false, eval (.Call (.Name "range" p1) [a] [] pos1) X.env) :: starEach [] X.env) :
    PI X tg (.Call (.Name "reversed" p) [.Call (.Name "range" p1) [a] [] pos1] [] pos) (tI X.K P W fun env st => (Fa env st).bind rev1) := by
  refine pi_imp (pi_revR hgr hmr (prg_1 hg hm ha na) hs) fun σ H R h => ?_
  obtain ⟨M, env, st, sl, at_, p⟩ := h
  refine tG.go sl at_ p fun x H1 d M1 st1 s1 a1 sl1 r1 p1 => ?_
  unfold rev1 at p1
  split at p1
  · rename_i j
    split at p1
    · rename_i hj
      cases dv_int.mp r1
      obtain ⟨b1, b2⟩ := smI_of hj
      refine ⟨j, rfl, by decide, by decide, b1, b2, ?_⟩
      have e : (0 : Int) + (((j - 0).toNat : Nat) : Int) - 1 = (j.toNat : Int) - 1 := by simp
      rw [e, Int.sub_zero]
      exact p1 _ M1 H1 (Stp.refl _ _) a1 it_rngC
    · exact p1.elim
  · exact p1.elim
end
end Q
end

section
set_option Elab.async false
set_option linter.all false
set_option maxRecDepth 100000
set_option maxHeartbeats 1000000
set_option autoImplicit false
/-! The text's own functions, by data. -/
namespace Q
open PySem PySem.Spec PyProof.Rows L2

def env0 (n : Nat) (ds : List D) : Ev := ds.map some ++ List.replicate (n - ds.length) none
def ofSR : SR → Res D
  | .nx _ st => .ok .non st
  | .rt d st => .ok d st
  | .exc c d _ st => .exc c d st
  | _ => .err
theorem evr_start {K : PySem.W.Frag} {P : Par} {M : List Addr} {H : Hp} {N : List Str} {ds : List D} {vs : List V} (r : DVs K M H ds vs) (hl : vs.length ≤ N.length) : EvR K P M H (L2.start N vs) (env0 N.length ds) := by
  have e := r.length
  refine ⟨by simp [env0, L2.start, e], fun i d h => ?_⟩
  unfold env0 at h
  unfold L2.start
  by_cases hi : i < ds.length
  · rw [List.getElem?_append_left (by simpa using hi), List.getElem?_map] at h
    cases q : ds[i]? with
    | none => rw [q] at h; cases h
    | some x =>
      rw [q] at h
      cases h
      obtain ⟨v, h1, h2⟩ := r.get q
      refine ⟨v, ?_, h2.x⟩
      rw [List.getElem?_append_left (by rw [List.length_map, ← e]; exact hi), List.getElem?_map, h1]
      rfl
  · rw [List.getElem?_append_right (by simpa using hi), List.getElem?_replicate] at h
    split at h <;> cases h

/-- a def's promise by data -/
def FnS (prog : Program) (w : World) (K : PySem.W.Frag) (mg : Str → Option Value) (base : Heap) (Pr : Par) (k : Nat) (f : Addr) (fd : FuncData) (ps : List Str) (F : List D → Sto → Res D) : Prop :=
  ∀ (A : Around) (outer : List Env) (s : Shared) (H : Hp) (args : Args) (us : List Value) (vs : List V) (Q : VK) (E : XK) (M : List Addr) (ds : List D) (st : Sto), Room k A → A.guards = some [] → Env0 prog w K mg base A outer s H → BindsTo s fd args (ps.zip us) → Vals vs us → vs.length = ps.length →
    At K Pr M H st → DVs K M H ds vs → Post K Pr M H (DV K) E (F ds st) Q → codeAny (model prog w) A (.call (.ref f) args) (CR (L2.CX prog w) outer prog w H s Q E) s
theorem FnS.mono {prog : Program} {w : World} {K : PySem.W.Frag} {mg : Str → Option Value} {base : Heap} {Pr : Par} {j k : Nat} {f : Addr} {fd : FuncData} {ps : List Str} {F : List D → Sto → Res D} (h : FnS prog w K mg base Pr j f fd ps F) (hk : j ≤ k) : FnS prog w K mg base Pr k f fd ps F :=
  fun A outer s H args us vs Q E M ds st hr => h A outer s H args us vs Q E M ds st (hr.mono hk)
theorem deeper_guards {A : Around} {env : Env} (h : A.guards = some []) : (A.deeper env).guards = some [] := h
theorem fns_of {prog : Program} {w : World} {K : PySem.W.Frag} {mg : Str → Option Value} {base : Heap} {Pr : Par} {k : Nat} {f : Addr} {name qual : Str} {params : Arguments} {body : List Stmt} {scope : Scope} {dV kV doc pm cdv ct oc : Value} {an od : Option Addr}
    {osl : Array (Option Value)} {N ps : List Str} {Fb : Ev → Sto → SR} (lk : K.lookup f = some ⟨oc, od, .func (PySem.W.fnOf name qual params body scope dV kV doc pm an cdv ct), osl⟩) (hcd : PySem.W.codeIn K cdv qual = true) (S : FnScope N ps scope)
    (hbody : ∀ (A : Around) (outer : List Env) (s : Shared) (H : Hp) (E : XK), Room k (A.deeper (envOfC qual scope s.heap.objs.size f cdv)) → (A.deeper (envOfC qual scope s.heap.objs.size f cdv)).guards = some [] →
      PSs (cxOf (L2.CX prog w) prog w K mg base N qual scope f cdv A outer s H E) body (tS K Pr (fun c d _ H => E c d H) Fb)) :
    FnS prog w K mg base Pr (k + 1) f (PySem.W.fnOf name qual params body scope dV kV doc pm an cdv ct) ps fun ds st => ofSR (Fb (env0 N.length ds) st) := by
  intro A outer s H args us vs Q E M ds st hr hgd e0 hb r hl at_ rd p
  dsimp only at p
  refine LamX.run_ofS lk hcd S hr e0 hb r hl fun hr' => ⟨_, hbody A outer s H E hr' (deeper_guards hgd), M, env0 N.length ds, st, evr_start rd ?_, at_, ?_⟩
  · have := congrArg List.length S.pre
    rw [List.length_take] at this
    omega
  · cases e : Fb (env0 N.length ds) st with
    | nx env st => rw [e] at p; exact fun σ' M' H' s a _ => p .non M' H' s a (dv_non.mpr rfl)
    | rt d st => rw [e] at p; exact p
    | bk env st => rw [e] at p; exact p.elim
    | ct env st => rw [e] at p; exact p.elim
    | exc c d env st => rw [e] at p; exact fun dd v σ' M' H' s a _ r x => p dd v M' H' s a r x
    | err => rw [e] at p; exact p.elim

/-! ### a call -/
def atLen (n : Nat) (F : List D → Sto → Res D) (ds : List D) (st : Sto) : Res D := if ds.length = n then F ds st else .err
/-- how the arguments are bound: positional values, then the keywords' values; ix: for each parameter which of them -/
def pick {α : Type} (ix : List Nat) (xs : List α) : List α := ix.filterMap fun i => xs[i]?
def KwB (fd : FuncData) (ps ks : List Str) (n : Nat) (ix : List Nat) : Prop := ∀ (us ws : List Value), us.length = n → ws.length = ks.length → bindArgs fd ⟨us, ks.zip ws⟩ = pure (ps.zip (pick ix (us ++ ws)))
section
variable {X : Cx} {Pr : Par} {W : WX} {k n : Nat} {f : Addr} {fd : FuncData} {ps ks : List Str} {F : List D → Sto → Res D} {x : Str} {p pos : Pos} {e : Expr} {es : List Expr} {kws : List Keyword} {G Gk : Ev → Sto → Res (List D)} {ix : List Nat}
theorem run_q {pins : List (Addr × Obj)} {σ : L2.St} {H : Hp} {s : Shared} {Q : VK} {us : List Value} {kw : List (Str × Value)} {vv : List Value} {vs : List V} {M : List Addr} {ds : List D} {st : Sto} (hF : FnS X.prog X.w X.K X.mg X.base Pr k f fd ps F) (hr : Room k X.A) (hgd : X.A.guards = some []) (hb : BindsTo s fd ⟨us, kw⟩ (ps.zip vv)) (tk : L2.Takes X W)
    (I : Inv X pins σ H s) (r : Vals vs vv) (hl : vs.length = ps.length) (at_ : At X.K Pr M H st) (rd : DVs X.K M H ds vs) (p : Post X.K Pr M H (DV X.K) (fun c d H' => W c d σ H') (F ds st) Q) : wpAny (model X.prog X.w) X.A (call (.ref f) us kw) (EP X pins σ Q) X.xe s := by
  refine wpAny_call (codeAny_mono (hF X.A X.stack s H ⟨us, kw⟩ vv vs Q (fun c d H' => W c d σ H') M ds st hr hgd I.env0 hb r hl at_ rd p) fun r s' hq => ?_)
  cases r with
  | error e => exact tk e s' (XE.of_call I (fun cls d H' h => h) hq)
  | ok fl =>
    cases fl with
    | ret u => exact I.after hq
    | next => exact False.elim hq
    | brk => exact False.elim hq
    | cont => exact False.elim hq
theorem q_call (hF : FnS X.prog X.w X.K X.mg X.base Pr k f fd ps F) (hr : Room k X.A) (hgd : X.A.guards = some []) (hg : Gl X x) (hm : X.mg x = some (.ref f)) (hk : PySem.W.keepIn X.K (.ref f) = true) (hb : ∀ us : List Value, us.length = ps.length → bindArgs fd ⟨us, []⟩ = pure (ps.zip us)) (tk : L2.Takes X W)
    (ha : PA X (e :: es) (tL X.K Pr W G)) (hdb : (x == ("__debug__" : Str)) = false) (he : starEach (e :: es) X.env = (false, eval e X.env) :: starEach es X.env) (hpl : (backTo pos (starEach es X.env)).any (·.1) = false) :
    PE X (.Call (.Name x p) (e :: es) [] pos) (tE X.K Pr W fun env st => (G env st).bind (atLen ps.length F)) := by
  refine ⟨fun pins s σ H Q I h => ?_⟩
  refine wpAny_Call_Name_kw (ld_glob I hg hm ?_ hdb)
  obtain ⟨M, env, st, sl, at_, p⟩ := h
  refine PySem.W.callWith_K (h₀ := X.base) I.ok.mod.kin hk (thn (ha.run pos pins s σ H _ I (tG.go sl at_ p (Q' := fun vs H1 => ∃ M ds st, At X.K Pr M H1 st ∧ DVs X.K M H1 ds vs ∧ ds.length = ps.length ∧ Post X.K Pr M H1 (DV X.K) (fun c d H' => W c d σ H') (F ds st) Q) fun vs H1 ds M1 st1 s1 a1 sl1 r1 p1 => ?_)) fun us s1 ⟨vs, H1, I1, r, M1, ds, st1, a1, r1, hl, p1⟩ => ⟨I1.kIn, ?_⟩) he hpl
  · unfold atLen at p1
    split at p1
    · rename_i hl; exact ⟨M1, ds, st1, a1, r1, hl, p1⟩
    · exact p1.elim
  · have hlv : vs.length = ps.length := by rw [← r1.length]; exact hl
    exact run_q hF hr hgd (.of_eq (hb us (by rw [← r.length]; exact hlv))) tk I1 r hlv a1 r1 p1
theorem q_call0 (hF : FnS X.prog X.w X.K X.mg X.base Pr k f fd [] F) (hr : Room k X.A) (hgd : X.A.guards = some []) (hg : Gl X x) (hm : X.mg x = some (.ref f)) (hk : PySem.W.keepIn X.K (.ref f) = true) (hb : ∀ us : List Value, us.length = 0 → bindArgs fd ⟨us, []⟩ = pure (([] : List Str).zip us)) (tk : L2.Takes X W)
    (hdb : (x == ("__debug__" : Str)) = false) : PE X (.Call (.Name x p) [] [] pos) (tE X.K Pr W fun env st => F [] st) := by
  refine ⟨fun pins s σ H Q I h => ?_⟩
  refine wpAny_Call_Name_kw (ld_glob I hg hm ?_ hdb)
  obtain ⟨M, env, st, sl, at_, p⟩ := h
  exact PySem.W.callWith_K0 I.kIn hk (run_q (us := []) (kw := []) (vv := []) hF hr hgd (.of_eq (hb [] rfl)) tk I .nil rfl at_ dvs_nil p)
/-! keywords -/
abbrev tK := @tL
theorem q_knil : PK X [] (tL X.K Pr W fun _ st => .ok [] st) := by
  refine ⟨fun pos pins s σ H Q I h => pk_nil.run pos pins s σ H Q I ?_⟩
  obtain ⟨M, env, st, sl, at_, p⟩ := h
  exact p [] M H (Stp.refl _ _) at_ dvs_nil
theorem q_kcons {nm : Option Str} {kpos : Pos} {Fe : Ev → Sto → Res D} (ha : PE X e (tE X.K Pr W Fe)) (hr : PK X kws (tL X.K Pr W G)) : PK X (⟨nm, e, kpos⟩ :: kws) (tL X.K Pr W fun env st => (Fe env st).bind fun d s1 => (G env s1).bind fun ds s2 => .ok (d :: ds) s2) := by
  refine ⟨fun pos pins s σ H Q I h => (pk_cons ha hr).run pos pins s σ H Q I ?_⟩
  obtain ⟨M, env, st, sl, at_, p⟩ := h
  refine tG.go sl at_ p fun x H1 dx M1 st1 s1 a1 sl1 r1 p1 => tG.go sl1 a1 p1 fun xs H2 ds M2 st2 s2 a2 sl2 r2 p2 => ?_
  exact p2 (x :: xs) M2 H2 (Stp.refl _ _) a2 (dvs_cons (r1.mono a1.mok s2) r2)
theorem pick_dvs {K : PySem.W.Frag} {M : List Addr} {H : Hp} {ds : List D} {vs : List V} (r : DVs K M H ds vs) : ∀ ix : List Nat, DVs K M H (pick ix ds) (pick ix vs)
  | [] => dvs_nil
  | i :: ix => by
    have ih := pick_dvs r ix
    unfold pick at ih ⊢
    rw [List.filterMap_cons, List.filterMap_cons]
    cases e : ds[i]? with
    | none =>
      have : vs[i]? = none := by
        rw [List.getElem?_eq_none_iff] at e ⊢
        rw [← r.length]; exact e
      rw [this]; exact ih
    | some d =>
      obtain ⟨v, h1, h2⟩ := r.get e
      rw [h1]
      exact dvs_cons h2 ih
theorem pick_vals {vs : List V} {us : List Value} (r : Vals vs us) : ∀ ix : List Nat, Vals (pick ix vs) (pick ix us)
  | [] => .nil
  | i :: ix => by
    have ih := pick_vals r ix
    unfold pick at ih ⊢
    rw [List.filterMap_cons, List.filterMap_cons]
    cases e : vs[i]? with
    | none =>
      have : us[i]? = none := by
        rw [List.getElem?_eq_none_iff] at e ⊢
        rw [← r.length]; exact e
      rw [this]; exact ih
    | some d =>
      obtain ⟨v, h1, h2⟩ := r.get e
      rw [h1]
      exact .cons h2 ih
/-- f(e, .., k = v, ..), by data -/
def kwRun (ps : List Str) (n : Nat) (ix : List Nat) (F : List D → Sto → Res D) (m : Nat) (ds es : List D) (st : Sto) : Res D :=
  if ds.length = n ∧ es.length = m ∧ (pick ix (ds ++ es)).length = ps.length then F (pick ix (ds ++ es)) st else .err
theorem q_callK0 (hF : FnS X.prog X.w X.K X.mg X.base Pr k f fd ps F) (hr : Room k X.A) (hgd : X.A.guards = some []) (hg : Gl X x) (hm : X.mg x = some (.ref f)) (hk : PySem.W.keepIn X.K (.ref f) = true) (hb : KwB fd ps ks 0 ix) (tk : L2.Takes X W)
    (hkw : PK X kws (tL X.K Pr W Gk)) (hall : (backToKw pos (keywordEach kws X.env)).all (·.1.isSome) = true) (hks : (backToKw pos (keywordEach kws X.env)).filterMap (·.1) = ks) (hdb : (x == ("__debug__" : Str)) = false)
    (hpl : ((backTo pos (starEach [] X.env)).any (·.1) || (backToKw pos (keywordEach kws X.env)).any (·.1.isNone)) = false) :
    PE X (.Call (.Name x p) [] kws pos) (tE X.K Pr W fun env st => (Gk env st).bind (kwRun ps 0 ix F ks.length [])) := by
  refine ⟨fun pins s σ H Q I h => ?_⟩
  refine wpAny_Call_Name_kw (ld_glob I hg hm ?_ hdb)
  obtain ⟨M, env, st, sl, at_, p⟩ := h
  refine PySem.W.callWith_KW0 (h₀ := X.base) I.ok.mod.kin hk hall (thn (hkw.run pos pins s σ H _ I (tG.go sl at_ p (Q' := fun vs H1 => ∃ M ds st, At X.K Pr M H1 st ∧ DVs X.K M H1 ds vs ∧ ds.length = ks.length ∧ (pick ix ds).length = ps.length ∧ Post X.K Pr M H1 (DV X.K) (fun c d H' => W c d σ H') (F (pick ix ds) st) Q) fun vs H1 ds M1 st1 s1 a1 sl1 r1 p1 => ?_)) fun us s1 ⟨vs, H1, I1, r, M1, ds, st1, a1, r1, hl, hl2, p1⟩ => ⟨I1.kIn, ?_⟩) hpl
  · unfold kwRun at p1
    split at p1
    · rename_i hl; exact ⟨M1, ds, st1, a1, r1, hl.2.1, hl.2.2, p1⟩
    · exact p1.elim
  · rw [hks]
    have r2 := pick_dvs r1 ix
    exact run_q (us := []) (vv := pick ix us) hF hr hgd (.of_eq (hb [] us rfl (by rw [← r.length, ← r1.length]; exact hl))) tk I1 (pick_vals r ix) (by rw [← r2.length]; exact hl2) a1 r2 p1
theorem q_callK (hF : FnS X.prog X.w X.K X.mg X.base Pr k f fd ps F) (hr : Room k X.A) (hgd : X.A.guards = some []) (hg : Gl X x) (hm : X.mg x = some (.ref f)) (hk : PySem.W.keepIn X.K (.ref f) = true) (hb : KwB fd ps ks n ix) (tk : L2.Takes X W)
    (ha : PA X (e :: es) (tL X.K Pr W G)) (hkw : PK X kws (tL X.K Pr W Gk)) (hall : (backToKw pos (keywordEach kws X.env)).all (·.1.isSome) = true) (hks : (backToKw pos (keywordEach kws X.env)).filterMap (·.1) = ks) (hdb : (x == ("__debug__" : Str)) = false)
    (he : starEach (e :: es) X.env = (false, eval e X.env) :: starEach es X.env)
    (hpl : ((backTo pos (starEach (e :: es) X.env)).any (·.1) || (backToKw pos (keywordEach kws X.env)).any (·.1.isNone)) = false) :
    PE X (.Call (.Name x p) (e :: es) kws pos) (tE X.K Pr W fun env st => (G env st).bind fun ds s1 => (Gk env s1).bind (kwRun ps n ix F ks.length ds)) := by
  refine ⟨fun pins s σ H Q I h => ?_⟩
  refine wpAny_Call_Name_kw (ld_glob I hg hm ?_ hdb)
  obtain ⟨M, env, st, sl, at_, p⟩ := h
  refine PySem.W.callWith_KW (h₀ := X.base) I.ok.mod.kin hk hall (thn (ha.run pos pins s σ H _ I (tG.go sl at_ p (Q' := fun vs H1 => tG X.K Pr W (DVs X.K) Gk σ H1 fun ws H2 => ∃ M ds es st, At X.K Pr M H2 st ∧ DVs X.K M H2 ds vs ∧ DVs X.K M H2 es ws ∧ ds.length = n ∧ es.length = ks.length ∧ (pick ix (ds ++ es)).length = ps.length ∧ Post X.K Pr M H2 (DV X.K) (fun c d H' => W c d σ H') (F (pick ix (ds ++ es)) st) Q) fun vs H1 ds M1 st1 s1 a1 sl1 r1 p1 => ?_)) fun us s1 ⟨vs, H1, I1, r, q⟩ => ?_) hpl he
  · refine tG.go sl1 a1 p1 fun ws H2 es M2 st2 s2 a2 sl2 r2 p2 => ?_
    unfold kwRun at p2
    split at p2
    · rename_i hl; exact ⟨M2, ds, es, st2, a2, r1.mono a1.mok s2, r2, hl.1, hl.2.1, hl.2.2, p2⟩
    · exact p2.elim
  · refine thn (hkw.run pos pins s1 σ H1 _ I1 q) fun ws s2 ⟨zs, H2, I2, rz, M2, ds, es, st2, a2, r1, r2, h1, h2, h3, p2⟩ => ⟨I2.kIn, ?_⟩
    rw [hks]
    have r3 := pick_dvs (r1.append r2) ix
    exact run_q (us := us) (vv := pick ix (us ++ ws)) hF hr hgd (.of_eq (hb us ws (by rw [← r.length, ← r1.length]; exact h1) (by rw [← rz.length, ← r2.length]; exact h2))) tk I2 (pick_vals (r.append rz) ix) (by rw [← r3.length]; exact h3) a2 r3 p2
end
end Q
end

section
set_option Elab.async false
set_option linter.all false
set_option maxRecDepth 100000
set_option maxHeartbeats 4000000
set_option autoImplicit false
/-! An own exception over Exception whose __init__ notes one field. -/
namespace QX
open PySem PySem.Spec PySem.W PySem.Calls PyProof.Rows PySem.HandSPX L2 Builtin Builtin.ObjectAttr
/-- own classes, then Exception's own line -/
def refsE : List Value → Bool
  | .ref _ :: r => refsE r
  | l => l == [.type "Exception", .type "BaseException", .type "object"]
theorem refsE_two {l : List Value} (h : refsE l = true) : (∃ c r, l = .ref c :: r ∧ refsE r = true) ∨ l = [.type "Exception", .type "BaseException", .type "object"] := by
  unfold refsE at h
  split at h
  · rename_i c r
    exact .inl ⟨c, r, rfl, h⟩
  · exact .inr (beq_iff_eq.mp h)
theorem refsE_has (Y : String) : ∀ l : List Value, refsE l = true → l.contains (.type Y) = [Value.type "Exception", .type "BaseException", .type "object"].contains (.type Y)
  | [], h => absurd h (by decide)
  | a :: r, h => by
    rcases refsE_two h with ⟨c, r', q, hr⟩ | q
    · cases q
      rw [List.contains_cons, refsE_has Y r hr]
      rfl
    · rw [q]
theorem refsE_lets (self : Value) : ∀ l : List Value, refsE l = true → refuseLoop self "__setattr__" l = pure ()
  | [], h => absurd h (by decide)
  | a :: r, h => by
    rcases refsE_two h with ⟨c, r', q, hr⟩ | q
    · cases q
      rw [refuseLoop_ref]
      exact refsE_lets self r hr
    · rw [q]
      exact F.store_Exception.passes self
theorem refsE_some {l : List Value} (h : refsE l = true) : l.isEmpty = false := by
  cases l with
  | nil => exact absurd h (by decide)
  | cons _ _ => rfl
section
variable {P : Program} {w : World} {A : Around} {E : Value → Shared → Prop} {R : Result → Shared → Prop} {h0 : Heap} {g : Array GenState} {dr : Drawn} {t : Nat} {os : OsState}
theorem osaE {K : Frag} {f : Str} {tk : Tok} {v : Value} {x C : Addr} {vs : Array Value} {cd : ClassData} (kin : K.In h0) (ox : h0.get? x = some { cls := .ref C, data := .fields vs }) (ecd : clsIn K C = some cd) (em : refsE cd.mro = true) (ed : cd.hasDict = true) (ef : findIn K (.ref C) f = some none)
    (after : ∀ h1 tk1 dx, (∀ b o, b ≠ x → h0.get? b = some o → h1.get? b = some o) → h0.objs.size ≤ dx → dx ≠ x → h1.get? x = some { cls := .ref C, dict := some dx, data := .fields vs } → h1.Ns1 dx (fun y => if y = f then some v else none) → R (.ok (.ret .none)) ⟨h1, g, dr, tk1, os⟩) :
    codeAny (model P w) A (.call (.builtin "object.__setattr__") ⟨[.ref x, .str f tk, v], []⟩) R ⟨h0, g, dr, t, os⟩ := by
  have inst : InstAt h0 x { cls := .ref C, data := .fields vs } C none := ⟨ox, rfl, rfl, trivial⟩
  have SO := F.store_object
  have nx : x ≠ h0.objs.size := Nat.ne_of_lt (Heap.lt_size ox)
  have isObj : Looks (model P w) h0 (isInstance (.ref x) (.type "object")) true := inst.type.andThen (looks_mroIn kin (by
    unfold mroIn
    rw [ecd, Option.bind_some, if_neg (by rw [refsE_some em]; decide), show cd.mro.contains (.type "object") = true from (refsE_has "object" _ em).trans (by decide +kernel)]))
  refine codeAny_call_builtin SO.slot.plain SO.entry (@check_slot (model P w) _ _ ⟨h0, g, dr, t, os⟩ "object.__setattr__" "object" "__setattr__" (.ref x) [.str f tk, v] [] _ SO.kind SO.split isObj (SO.args (.ref x) (.str f tk) v) ?_)
  have lm : Looks (model P w) h0 (mroOf (.ref C)) cd.mro := (looks_clsIn kin ecd).andThen .now
  have lt : Looks (model P w) h0 (storeTaker? none) none := .now
  have lc : Looks (model P w) h0 (classData C) cd := looks_clsIn kin ecd
  rw [osa_eq, refuse_eq]
  refine wpAny_bind (wpAny_bind (inst.type.at (wpAny_bind (lm.at ?_))))
  rw [refsE_lets _ _ em]
  refine wpAny_pure (wpAny_bind (inst.type.at (wpAny_bind ((looks_findIn kin ef).at (wpAny_bind (lt.at ?_))))))
  show wpAny _ _ (storeInOwnDict (.ref x) (.ref C) (.str f tk) f v false) _ _ _
  obtain ⟨nm, bs, mro, ns, qn, hd, sn, sb, ab, col, del⟩ := cd
  obtain rfl : hd = true := ed
  unfold storeInOwnDict ownDictForStores
  repeat (first | with_reducible refine store_in_new ?_ ?_ | with_reducible refine wpAny_loadPart_at ox ?_ | with_reducible refine lc.at ?_ | wp_step)
  · exact ⟨_, #[], _, (Heap.get?_update_ne _ _ _ _ nx.symm).trans (Heap.get?_push_at rfl rfl), rfl, fun _ he => absurd he (by simp), fun _ => rfl⟩
  · intro h1 tk1 n1 sb1
    have ox1 : (h0.push { cls := .type "dict", data := .dict #[] }).get? x = some { cls := .ref C, data := .fields vs } := Heap.get?_push_of_some _ ox
    exact after h1 tk1 h0.objs.size (fun b o hb ho => (sb1.2 b (Nat.ne_of_lt (Heap.lt_size ho))).trans ((Heap.get?_update_ne _ _ _ _ hb).trans (Heap.get?_push_of_some _ ho))) (Nat.le_refl _) nx.symm ((sb1.2 x nx).trans (Heap.get?_update_self _ ox1 rfl)) n1
end
end QX

namespace Q
open PySem PySem.Spec PyProof.Rows L2
/-- what the written part says of an own class of exceptions -/
structure OwnE (K : PySem.W.Frag) (C : Addr) : Prop where
  cls : ∃ nm q N bs bm sn sub ab col dd k0 k1 k2 k3 k5, K.lookup C = some (excClassObj nm q C N bs bm true sn sub ab col dd k0 k1 k2 k3 k5 "Exception.__new__") ∧ QX.refsE bm = true
  sa : PySem.W.findIn K (.ref C) "__setattr__" = some (some (.builtin "object.__setattr__"))
  exC : PySem.W.subIn K (.ref C) (.type "BaseException") = some true
  tyC : PySem.W.typeIn K (.ref C) = some (.type "type")
  kC : PySem.W.keepIn K (.ref C) = true
section
variable {X : Cx} {pins : List (Addr × Obj)} {σ : L2.St} {H : Hp} {s : Shared} {a C : Addr} {f : Str} {y : V} {u : Value} {E : Value → Shared → Prop} {A : Around}
theorem noteE {Q : Unit → Shared → Prop} (T : OwnE X.K C) (I : Inv X pins σ H s) (e : H a = some (exo a C none)) (hno : PySem.W.findIn X.K (.ref C) f = some none) (ry : RelV y u)
    (k : ∀ d s1, H d = none → d ≠ a → Inv X pins σ (upd (upd H d (exd d [(f, y)])) a (exo a C (some d))) s1 → Q () s1) : wpAny (model X.prog X.w) A (setAttr (.ref a) f u) Q E s := by
  obtain ⟨nm, q, N, bs, bm, sn, sub, ab, col, dd, k0, k1, k2, k3, k5, hC, hbm⟩ := T.cls
  have ecl : PySem.W.clsIn X.K C = some ⟨nm, bs, .ref C :: bm, N, q, true, sn, sub, ab, col, false⟩ := by
    unfold PySem.W.clsIn
    rw [hC] <;> rfl
  obtain ⟨t1, ho⟩ := exo_at I.hok e
  obtain ⟨hp, gg, dw, tt, oo⟩ := s
  refine PySem.W.set_plain I.kIn (ox := { cls := .ref C, dict := none, data := .fields #[.ref t1, .none, .none, .none, .bool false, .none] }) (od := none) ⟨ho, rfl, rfl, trivial⟩ T.sa ?_
  refine QX.osaE I.kIn ho ecl (show QX.refsE (.ref C :: bm) = true from hbm) rfl hno fun h1 tk1 d kp dn dne hx hn => ?_
  have hnd : H d = none := I.hok.fresh dn
  have old : ∀ {b : Addr} {o : Obj}, hp.get? b = some o → b ≠ d := fun {b o} z => Nat.ne_of_lt (Nat.lt_of_lt_of_le (Heap.lt_size z) dn)
  have off : ∀ {b : Addr}, H b = none → b ≠ a := fun {b} n z => by rw [z, e] at n; cases n
  have U : Un X.fs [] H (upd (upd H d (exd d [(f, y)])) a (exo a C (some d))) hp h1 :=
    ⟨fun b o z n _ _ => kp b o (off n) z, fun b o z n _ _ => ⟨o.slots, kp b o (off n) z⟩, fun b o z n _ => by rw [upd_ne (off n), upd_ne (old z)]; exact n, fun b o z _ => by
      by_cases hb : b = a
      · exact ⟨_, by rw [hb]; exact hx⟩
      · exact ⟨o, kp b o hb z⟩, fun b xs z => by rw [upd_ne (at_ne e z exo_tup), upd_ne (ne_of_none z hnd)]; exact z, fun b o v z => by rw [upd_ne (at_ne e z exo_frz), upd_ne (ne_of_none z hnd)]; exact z, fun b ps z => ⟨#[], by rw [upd_ne (at_ne e z exo_tbl), upd_ne (ne_of_none z hnd), z]; simp⟩⟩
  refine k d _ hnd dne (I.un (t' := tk1) U fun b o z => ?_)
  by_cases hb : b = a
  · subst hb
    rw [upd_same] at z
    cases z
    exact exo_ok hx
  rw [upd_ne hb] at z
  by_cases hd : b = d
  · subst hd
    rw [upd_same] at z
    cases z
    exact exd_ok hn (relO_put (fs := []) ry fun _ => True.intro)
  rw [upd_ne hd] at z
  refine (I.hok b o z).stay (fun c v hc z' => kp c v ?_ z') (fun c hc => by rw [upd_ne (at_ne e hc exo_own), upd_ne (ne_of_none hc hnd)]; exact hc) (fun c xs hc => by rw [upd_ne (at_ne e hc exo_tup), upd_ne (ne_of_none hc hnd)]; exact hc)
  rcases hc with hc | hc
  · rw [hc]; exact hb
  · exact at_ne e hc exo_own
end
/-- __init__(self, v): self.f = v : its body -/
def tNote (K : PySem.W.Frag) (f : Str) (to te : TE) : TS := fun De σ H => te σ H fun y H1 => to σ H1 fun x H2 => ∃ a C : Addr, x = .ref a ∧ OwnE K C ∧ PySem.W.findIn K (.ref C) f = some none ∧ H2 a = some (exo a C none) ∧ ∀ d, H2 d = none → d ≠ a → De.nx σ (upd (upd H2 d (exd d [(f, y)])) a (exo a C (some d)))
theorem ps_note {X : Cx} {o e : Expr} {to te : TE} {f : Str} {p pos : Pos} (ho : PE X o to) (he : PE X e te) (hs : swapsWith e (some (.Attribute o f p)) pos.line X.env = pure false) : PS X (.Assign [.Attribute o f p] e pos) (tNote X.K f to te) := by
  refine ⟨fun pins s σ H De I h => ?_⟩
  refine plainObj_wpAny_Assign_Attribute (thn (he.run pins s σ H _ I h) fun v s1 ⟨y, H1, I1, r1, q1⟩ => thn (ho.run pins s1 σ H1 _ I1 q1) fun u s2 ⟨x, H2, I2, r2, a, C, ex, T, hno, ea, q⟩ => ?_) hs
  subst ex
  obtain rfl : u = Value.ref a := r2
  exact noteE T I2 ea hno r1 fun d s' n ne J => ⟨σ, _, J, q d n ne⟩
/-- the promise of such an __init__ -/
def InitSp (C : Addr) (f : Str) : Sp := fun vs H Q _ => ∃ (a : Addr) (v : V), vs = [.ref a, v] ∧ H a = some (exo a C none) ∧ ∀ d, H d = none → d ≠ a → Q .non (upd (upd H d (exd d [(f, v)])) a (exo a C (some d)))
def initA (x y : Str) (p1 p2 : Pos) : Arguments := ⟨[], [⟨x, none, p1⟩, ⟨y, none, p2⟩], none, [], [], none, []⟩
def initB (x y f : Str) (q1 q2 q3 q4 : Pos) : List Stmt := [.Assign [.Attribute (.Name x q1) f q2] (.Name y q3) q4]
def initS (x y : Str) : Scope := ⟨.function, [(x, .local), (y, .local)], false, false, []⟩
structure InitP (x y : Str) : Prop where
  ne : x ≠ y
  d1 : (x == ("__debug__" : Str)) = false
  d2 : (y == ("__debug__" : Str)) = false
  c1 : (x == ("__classdict__" : Str)) = false
  c2 : (y == ("__classdict__" : Str)) = false
theorem init_ok {prog : Program} {w : World} {K : PySem.W.Frag} {mg : Str → Option Value} {base : Heap} {fI C : Addr} {name qual x y f : Str} {p1 p2 q1 q2 q3 q4 : Pos} {dV kV doc pm cdv ct oc : Value} {an od : Option Addr} {osl : Array (Option Value)} (T : OwnE K C) (hno : PySem.W.findIn K (.ref C) f = some none) (N : InitP x y)
    (lk : K.lookup fI = some ⟨oc, od, .func (PySem.W.fnOf name qual (initA x y p1 p2) (initB x y f q1 q2 q3 q4) (initS x y) dV kV doc pm an cdv ct), osl⟩) (hcd : PySem.W.codeIn K cdv qual = true) :
    FnOk prog w K mg base (L2.CX prog w) 1 fI (PySem.W.fnOf name qual (initA x y p1 p2) (initB x y f q1 q2 q3 q4) (initS x y) dV kV doc pm an cdv ct) [x, y] (InitSp C f) := by
  have hyx : (y == x) = false := by simpa using fun h => N.ne h.symm
  have hv1 : (initS x y).names.lookup x = some .local := by simp [initS, List.lookup]
  have hv2 : (initS x y).names.lookup y = some .local := by simp [initS, List.lookup, hyx]
  refine fn_of (N := [x, y]) lk hcd ⟨rfl, rfl, rfl, by simpa using N.ne, rfl, fun z hz => ?_, fun z hz => ?_⟩ (fun vs H Q E ⟨a, v, e, _⟩ => by rw [e]; rfl) fun A outer s H vs Q E hr ⟨a, v, e, ea, k⟩ => ⟨_, pss_one (ps_note (pe_var (i := 0) rfl (.inl hv1) N.d1 N.c1) (pe_var (i := 1) rfl (.inl hv2) N.d2 N.c2) (by rfl)), ?_⟩
  · rcases List.mem_cons.mp hz with rfl | hz
    · exact .inl hv1
    · rcases List.mem_cons.mp hz with rfl | hz
      · exact .inl hv2
      · cases hz
  · rcases List.mem_cons.mp hz with rfl | hz
    · exact fun z => nomatch z
    · rcases List.mem_cons.mp hz with rfl | hz
      · exact fun z => nomatch z
      · cases hz
  · subst e
    exact ⟨v, rfl, .ref a, rfl, a, C, rfl, T, hno, ea, k⟩
section
variable {X : Cx} {P : Par} {W : WX} {e : Expr} {p pos : Pos} {x f : Str} {C fI : Addr} {k : Nat} {fd : FuncData} {ps : List Str} {G : Ev → Sto → Res (List D)}
def tMkE (C : Addr) (f : Str) (ta : TA) : L2.St → Hp → XK → Prop := fun σ H Q => ta σ H fun vs H1 => ∃ v, vs = [v] ∧ ∀ d, H1 d = none → Q (.ref C) (some d) (upd H1 d (.xd [(f, v)]))
theorem pmk_E {ta : TA} (T : OwnE X.K C) (iC : PySem.W.findIn X.K (.ref C) "__init__" = some (some (.ref fI))) (tI : PySem.W.typeIn X.K (.ref fI) = some (.type "function")) (F1 : FnOk X.prog X.w X.K X.mg X.base (L2.CX X.prog X.w) k fI fd ps (InitSp C f)) (hps : ps.length = 2) (hr : Room (k + 1) X.A)
    (hb : ∀ us : List Value, us.length = 2 → bindArgs fd ⟨us, []⟩ = pure (ps.zip us)) (hg : Gl X x) (hm : X.mg x = some (.ref C)) (ha : PA X [e] ta) (hdb : (x == ("__debug__" : Str)) = false) (he : starEach [e] X.env = (false, eval e X.env) :: starEach [] X.env) (hpl : (backTo pos (starEach [] X.env)).any (·.1) = false) :
    PMk X (.Call (.Name x p) [e] [] pos) (tMkE C f ta) := by
  intro pins s σ H Q I h
  obtain ⟨nm, q, N, bs, bm, sn, sub, ab, col, dd, k0, k1, k2, k3, k5, hC, hbm⟩ := T.cls
  refine wpAny_Call_Name_kw (ld_glob I hg hm ?_ hdb)
  refine PySem.W.callWith_K (h₀ := X.base) I.ok.mod.kin T.kC (thn (ha.run pos pins s σ H _ I h) fun us s1 ⟨vs, H1, I1, r1, v, ev, q1⟩ => ⟨I1.kIn, ?_⟩) he hpl
  subst ev
  obtain ⟨u, rfl, ru⟩ := vals_one r1
  show wpAny _ _ (call (.ref C) [u]) _ _ _
  obtain ⟨hp, gg, dw, tt, oo⟩ := s1
  have up : hp.objs.size ≤ hp.objs.size + 1 := Nat.le_succ _
  have hn : H1 (hp.objs.size + 1) = none := I1.hok.fresh up
  have kk : ∀ b o, hp.get? b = some o → ((hp.push (PySem.W.kdv_tup [u])).push (PySem.HandSPX.excO C hp.objs.size)).get? b = some o := fun b o z => Heap.get?_push_of_some _ (Heap.get?_push_of_some _ z)
  have hget : ((hp.push (PySem.W.kdv_tup [u])).push (PySem.HandSPX.excO C hp.objs.size)).get? (hp.objs.size + 1) = some (PySem.HandSPX.excO C hp.objs.size) := by heap_get
  have I2 : Inv X pins σ (upd H1 (hp.objs.size + 1) (exo (hp.objs.size + 1) C none)) ⟨(hp.push (PySem.W.kdv_tup [u])).push (PySem.HandSPX.excO C hp.objs.size), gg, dw, tt, oo⟩ := I1.laid (t' := tt) kk up (exo_ok hget)
  refine wpAny_call (PySem.HandSPX.call_own F.excBase_Exception (fun Y => QX.refsE_has Y bm hbm) (I1.kIn _ _ hC) (PySem.W.looks_findIn I1.kIn iC) (fun self => PySem.W.bind_fn I1.kIn self tI) (by show 1 ≤ sizeLine; rw [sizeLine_eq]; omega)
    (codeAny_mono (F1.run _ X.stack _ _ ⟨[Value.ref (hp.objs.size + 1), u], []⟩ [Value.ref (hp.objs.size + 1), u] [.ref (hp.objs.size + 1), v] (fun v2 H2 => v2 = .non ∧ ∃ d, H1 d = none ∧ H2 = upd (upd (upd H1 (hp.objs.size + 1) (exo (hp.objs.size + 1) C none)) d (exd d [(f, v)])) (hp.objs.size + 1) (exo (hp.objs.size + 1) C (some d)) ∧ d ≠ hp.objs.size + 1) (fun _ _ _ => False) (hr.make C [u] []) (I2.env0.make C [u] []) (.of_eq (hb _ rfl)) (.cons rfl (.cons ru .nil))
      ⟨_, v, rfl, upd_same, fun d n ne => ⟨rfl, d, by rw [upd_ne ne] at n; exact n, rfl, ne⟩⟩) fun r s' hq => ?_))
  cases r with
  | error er =>
    obtain ⟨_, _, _, _, _, _, _, _, _, _, _, _, z⟩ := hq
    exact z.elim
  | ok fl =>
    cases fl with
    | ret u2 =>
      obtain ⟨v2, H2, os2, bare2, un2, hok2, rv, ev, d, hd1, hH2, dne⟩ := hq
      subst ev
      obtain ⟨h2, g2, d2, t2, os'⟩ := s'
      have ea : H2 (hp.objs.size + 1) = some (exo (hp.objs.size + 1) C (some d)) := by rw [hH2]; exact upd_same
      have ed : H2 d = some (exd d [(f, v)]) := by rw [hH2, upd_ne dne]; exact upd_same
      refine ⟨rv, mk_end (raises_own T.exC T.tyC) I1 up kk un2 hok2 os2 bare2 ea ed hd1 ?_⟩
      have eH : upd (del H2 (hp.objs.size + 1)) d (.xd [(f, v)]) = upd H1 d (.xd [(f, v)]) := by
        funext b
        by_cases hb1 : b = d
        · rw [hb1, upd_same, upd_same]
        · rw [upd_ne hb1, upd_ne hb1]
          by_cases hb2 : b = hp.objs.size + 1
          · rw [hb2, del_same, hn]
          · rw [del_ne hb2, hH2, upd_ne hb2, upd_ne hb1, upd_ne hb2]
      rw [eH]
      exact q1 d hd1
    | next => exact False.elim hq
    | brk => exact False.elim hq
    | cont => exact False.elim hq
/-- raise C(e) -/
theorem q_raise {c : Nat} (hcl : P.CA c = C) (hfn : P.FN c = f) (T : OwnE X.K C) (iC : PySem.W.findIn X.K (.ref C) "__init__" = some (some (.ref fI))) (tI : PySem.W.typeIn X.K (.ref fI) = some (.type "function")) (F1 : FnOk X.prog X.w X.K X.mg X.base (L2.CX X.prog X.w) k fI fd ps (InitSp C f)) (hps : ps.length = 2) (hr : Room (k + 1) X.A)
    (hb : ∀ us : List Value, us.length = 2 → bindArgs fd ⟨us, []⟩ = pure (ps.zip us)) (hg : Gl X x) (hm : X.mg x = some (.ref C)) (hc : X.calm = true) (tk : L2.Takes X W) (ha : PA X [e] (tL X.K P W G)) (hdb : (x == ("__debug__" : Str)) = false) (he : starEach [e] X.env = (false, eval e X.env) :: starEach [] X.env) (hpl : ∀ pos, (backTo pos (starEach [] X.env)).any (·.1) = false) {pos2 : Pos} :
    PS X (.Raise (some (.Call (.Name x p) [e] [] pos)) none pos2) (tS X.K P W fun env st => (G env st).then env fun ds s1 => match ds with
      | [d] => .exc c d env s1
      | _ => .err) := by
  refine ⟨fun pins s σ H De I h => (ps_raise hc tk (pmk_E T iC tI F1 hps hr hb hg hm ha hdb he (hpl pos))).run pins s σ H De I ?_⟩
  obtain ⟨M, env, st, sl, at_, p⟩ := h
  refine tG.goS sl at_ p fun xs H1 ds M1 st1 s1 a1 sl1 r1 p1 => ?_
  split at p1
  · rename_i d
    obtain ⟨v, rfl, rv⟩ := one_of r1
    refine ⟨v, rfl, fun dd hn => ?_⟩
    subst hcl hfn
    have s2 : Stp M1 H1 M1 (upd H1 dd (.xd [(P.FN c, v)])) := stp_new hn
    exact p1 dd v σ M1 _ s2 (a1.new hn) (sl1.mono a1.mok s2) (rv.mono a1.mok s2) upd_same
  · exact p1.elim
end
end Q
end

section
set_option Elab.async false
set_option linter.all false
set_option maxRecDepth 100000
set_option maxHeartbeats 1000000
set_option autoImplicit false
/-! try with several clauses, by names or tuples of names, with or without as. -/
namespace Q
open PySem PySem.Spec PyProof.Rows L2
/-- v, in a heap that holds h, is tried against an exception's class as cs says -/
def ExcT (K : PySem.W.Frag) (M : Model) (h : Heap) (v : Value) (cs : List Value) : Prop := ∀ (cls : Value) (e : Addr) (b : Bool), K.In h → PySem.W.Looks M h (typeOf (.ref e)) cls → PySem.W.exmAny K cls cs = some b → PySem.W.Looks M h (excMatches (.ref e) v) b
def TestOk (X : Cx) (ty : Expr) (cs : List Value) : Prop := ∀ (a : Addr) (oe : Obj) (pn pins : List (Addr × Obj)) (σ : L2.St) (H : Hp) (s : Shared) (Q : Value → Shared → Prop) (E : Value → Shared → Prop), Inv (X.suite a ((a, oe) :: pn)) pins σ H s →
  (∀ (h1 : Heap) (v : Value), (∀ b o, s.heap.get? b = some o → h1.get? b = some o) → ExcT X.K (model X.prog X.w) h1 v cs → Q v { s with heap := h1 }) → wpAny (model X.prog X.w) (X.A.mark (some (.ref a))) (eval ty X.env) Q E s
section
variable {X : Cx}
theorem ld_names {x : Str} {c : Value} {np : Pos} (hc : Names X x c) {a : Addr} {oe : Obj} {pn pins : List (Addr × Obj)} {σ : L2.St} {H : Hp} {s : Shared} {Q : Value → Shared → Prop} {E : Value → Shared → Prop} (I : Inv (X.suite a ((a, oe) :: pn)) pins σ H s) (q : Q c s) :
    wpAny (model X.prog X.w) (X.A.mark (some (.ref a))) (eval (.Name x np) X.env) Q E s := by
  obtain ⟨g, db, m | ⟨m, v, nn⟩⟩ := hc
  · exact ld_glob (X := X.suite a ((a, oe) :: pn)) I g m q db
  · exact ld_blt (X := X.suite a ((a, oe) :: pn)) I g m v q nn db
theorem test_one {x : Str} {c : Value} {np : Pos} (hc : Names X x c) : TestOk X (.Name x np) [c] := by
  intro a oe pn pins σ H s Q E I k
  refine ld_names hc I (k s.heap c (fun _ _ e => e) fun cls e b kin LT hx => ?_)
  obtain ⟨b1, d1, h1, h2, e1⟩ := PySem.W.exmAny_cons hx
  cases h2
  rw [Bool.or_false] at e1
  subst e1
  exact PySem.W.exm_one kin LT h1
theorem names_list {a : Addr} {oe : Obj} {pn pins : List (Addr × Obj)} {σ : L2.St} {H : Hp} {s : Shared} {E : Value → Shared → Prop} {tpos : Pos} (I : Inv (X.suite a ((a, oe) :: pn)) pins σ H s) :
    ∀ {l : List (Str × Pos)} {cs : List Value} {Q : List Value → Shared → Prop}, (∀ p ∈ l.zip cs, Names X p.1.1 p.2) → l.length = cs.length → Q cs s →
      wpAny (model X.prog X.w) (X.A.mark (some (.ref a))) (spliced (backTo tpos (starEach (l.map fun p => Expr.Name p.1 p.2) X.env))) Q E s
  | [], cs, Q, _, hl, q => by
    cases cs with
    | nil => exact Calls.spliced_nil q
    | cons _ _ => cases hl
  | p :: l, cs, Q, hn, hl, q => by
    cases cs with
    | nil => cases hl
    | cons c cs =>
      refine Calls.spliced_cons (ld_names (hn (p, c) (List.mem_cons_self ..)) I ?_)
      exact names_list I (Q := fun vs s2 => Q (c :: vs) s2) (fun z hz => hn z (List.mem_cons_of_mem _ hz)) (by simpa using hl) q
theorem test_tup {l : List (Str × Pos)} {cs : List Value} {k : Nat} {tp : Pos} (hn : ∀ p ∈ l.zip cs, Names X p.1.1 p.2) (hl : l.length = cs.length) (h2 : cs.length = 2 ∨ cs.length = 3 ∨ cs.length = 4) : TestOk X (.Tuple (l.map fun p => Expr.Name p.1 p.2) k tp) cs := by
  intro a oe pn pins σ H s Q E I kk
  refine wpAny_Tuple_spliced (names_list I hn hl ⟨by rw [sizeLine_eq]; omega, ?_⟩)
  refine kk _ _ (fun b o e => Heap.get?_push_of_some _ e) fun cls e b kin LT hx => ?_
  have hp : ∀ {o : Obj}, o.isFreed = false → (s.heap.push o).get? s.heap.objs.size = some o := fun {o} ho => Heap.get?_push_size _ ho
  match cs, h2, hx, hp (o := { cls := .type "tuple", data := .seq cs.toArray }) rfl with
  | [c1, c2], _, hx, hp => exact PySem.W.exm_tup2 kin LT hp hx
  | [c1, c2, c3], _, hx, hp => exact PySem.W.exm_tup3 kin LT hp hx
  | [c1, c2, c3, c4], _, hx, hp => exact PySem.W.exm_tup4 kin LT hp hx
  | [], h2, _, _ => rcases h2 with h | h | h <;> cases h
  | [_], h2, _, _ => rcases h2 with h | h | h <;> cases h
  | _ :: _ :: _ :: _ :: _ :: _, h2, _, _ => rcases h2 with h | h | h <;> simp at h
end

/-- a clause: its classes, the slot behind as, what its suite reads -/
structure Cl where
  cs : List Value
  i : Option Nat
  ts : Addr → Value → Option Addr → TS
def outS (i : Option Nat) (σ : L2.St) : L2.St := match i with
  | some i => σ.set i none
  | none => σ
def inS (i : Option Nat) (a : Addr) (σ : L2.St) : L2.St := match i with
  | some i => σ.set i (some (.ref a))
  | none => σ
def endS (i : Option Nat) (De : Ends) : Ends := { nx := fun σ H => De.nx (outS i σ) H, rt := De.rt, bk := fun σ H => De.bk (outS i σ) H, ct := fun σ H => De.ct (outS i σ) H }
def wCls (K : PySem.W.Frag) (Wout : WX) (De : Ends) : List Cl → WX
  | [] => Wout
  | c :: r => fun cls d σ H => ∃ b, PySem.W.exmAny K cls c.cs = some b ∧ (b = true → ∀ a, H a = none → c.ts a cls d (endS c.i De) (inS c.i a σ) H) ∧ (b = false → wCls K Wout De r cls d σ H)
def SuOk (X : Cx) (b0 : Stmt) (suite : List Stmt) (ts : Addr → Value → Option Addr → TS) : Prop := ∀ (a : Addr) (oe : Obj) (cls : Value) (d : Option Addr) (pn : List (Addr × Obj)), Zc cls d oe → (∃ vs, oe.data = .fields vs) → PSs (X.suite a ((a, oe) :: pn)) (b0 :: suite) (ts a cls d)
inductive ClsOk (X : Cx) : List ExceptHandler → List Cl → Prop
  | nil : ClsOk X [] []
  | one {ty : Expr} {c : Cl} {b0 : Stmt} {suite : List Stmt} {p : Pos} {hds : List ExceptHandler} {l : List Cl} (ht : TestOk X ty c.cs) (hi : c.i = none) (hsu : SuOk X b0 suite c.ts) (r : ClsOk X hds l) : ClsOk X (.ExceptHandler (some ty) none (b0 :: suite) p :: hds) (c :: l)
  | as {ty : Expr} {c : Cl} {b0 : Stmt} {suite : List Stmt} {p : Pos} {hds : List ExceptHandler} {l : List Cl} {n : Str} {i : Nat} (ht : TestOk X ty c.cs) (hi : c.i = some i) (hn : X.N[i]? = some n) (hln : X.env.kindOf n = some .local) (hsu : SuOk X b0 suite c.ts) (r : ClsOk X hds l) : ClsOk X (.ExceptHandler (some ty) (some n) (b0 :: suite) p :: hds) (c :: l)
section
variable {X : Cx} {body : List Stmt} {h0 : ExceptHandler} {hds : List ExceptHandler} {l : List Cl} {pos : Pos} {tb : WX → TS} {Wout : WX}
theorem flying_up {B h h1 : Heap} {l : List Env} {a : Addr} {Z : Obj → Prop} (f : HandSPX.FlyingZ B l a Z h) (k : ∀ b o, h.get? b = some o → h1.get? b = some o) : HandSPX.FlyingZ B l a Z h1 := by
  obtain ⟨f1, f2, f3, oe, vs, T, oT, ts, e1, e2, e3, e4, e5, e6, e7, e8, e9⟩ := f
  exact ⟨fun b o e => k b o (f1 b o e), f2, f3.of_keeps fun b o e _ => ⟨o, k b o e, rfl⟩, oe, vs, T, oT, ts, k _ _ e1, e2, e3, e4, e5, e6, k _ _ e7, e8, e9⟩
theorem ps_tryG (hs : X.stack = X.env :: X.outer) (hf : X.env.frame = some X.env.locals) (hN : X.N.Nodup) (tk : L2.Takes X Wout)
    (hb : ∀ (W : WX) (pn : List (Addr × Obj)) (xe : Value → Shared → Prop), L2.Takes (X.tr pn xe) W → PassesOwn (model X.prog X.w) X.A X.env xe → PSs (X.tr pn xe) body (tb W))
    (hh : ClsOk X (h0 :: hds) l) : PS X (.Try body (h0 :: hds) [] [] pos) (fun De σ H => tb (wCls X.K Wout De l) De σ H) := by
  refine ⟨fun pins s σ H De I h => wpAny_Try_except ?_⟩
  have ok := I.ok
  have fr : X.A.frames = some (X.env :: X.outer) := by rw [ok.frames, hs]
  refine wpAny_mono ((hb (wCls X.K Wout De l) (X.pn ++ pins) (fun e s1 => wpAny (model X.prog X.w) X.A (noteFrame e X.env) (fun _ s2 => wpAny (model X.prog X.w) X.A (setFlight e none) (fun _ s3 => wpAny (model X.prog X.w) X.A (handleBy e X.env (h0 :: hds)) (SP X pins De) X.xe s3) X.xe s2) X.xe s1)
    (fun u s' xx => ?_) PassesOwn.looking).run [] s σ H De (I.toTry _) h) (fun f s1 hsp => ?_) (fun e s1 he => he)
  · obtain ⟨a, B, sI, pins', σ', H', cls, d, rfl, J', nb, up, sky, na, os, ag, w⟩ := xx
    have J : Inv X pins σ' H' sI := J'.ofTry ok
    have sky1 : Sky B (X.env :: X.outer) a (Zc cls d) X.env.locals s'.heap := by rw [← hs]; exact sky
    show wpAny (model X.prog X.w) X.A (noteFrame (.ref a) X.env) _ _ _
    refine Sky.land Zc.steady fr hf sky1 fun h3 fl3 up3 => ?_
    -- the clauses, one after the other
    have go : ∀ {hd : List ExceptHandler} {lc : List Cl}, ClsOk X hd lc → wCls X.K Wout De lc cls d σ' H' → ∀ h4 : Heap, HandSPX.FlyingZ B (X.env :: X.outer) a (Zc cls d) h4 → sI.heap.UpToSlots h4 →
        wpAny (model X.prog X.w) X.A (handleBy (.ref a) X.env hd) (SP X pins De) X.xe { s' with heap := h4 } := by
      have base : ∀ h4 : Heap, HandSPX.FlyingZ B (X.env :: X.outer) a (Zc cls d) h4 → sI.heap.UpToSlots h4 → ∃ (oe : Obj), h4.get? a = some oe ∧ Zc cls d oe ∧ (∃ vs, oe.data = .fields vs) ∧ Inv X pins σ' H' { s' with heap := h4 } ∧ Inv (X.suite a ((a, oe) :: (X.pn ++ pins))) [] σ' H' { s' with heap := h4 } := by
        intro h4 fl4 up4
        have J4 : Inv X pins σ' H' { s' with heap := h4 } := J.landed nb fl4.1 up4 os ag
        obtain ⟨oe, vs, he, hz, hd⟩ := fl4.there
        have nfr : a ∉ frs (X.env :: X.outer) := fun hm => by
          obtain ⟨_, o', e', hnf⟩ := fl4.2.2.1.mem hm
          rw [he] at e'
          cases e'
          exact hnf _ hd
        refine ⟨oe, he, hz, ⟨vs, hd⟩, J4, J4.suite he hd na (fun z => nfr (List.mem_filterMap.mpr ⟨X.env, List.mem_cons_self, by rw [hf, z]⟩)) fun hm => ?_⟩
        obtain ⟨e, he', q⟩ := List.mem_filterMap.mp hm
        exact nfr (List.mem_filterMap.mpr ⟨e, List.mem_cons_of_mem _ he', q⟩)
      intro hd lc hk
      induction hk with
      | nil =>
        intro w h4 fl4 up4
        refine wpAny_handleBy_nil ?_
        obtain ⟨k1, k2, k3, oe, vs, T, oT, ts', he, hz, hd, h1, hr⟩ := id fl4
        unfold PySem.passOn
        refine wpAny_bind (wpAny_field he hd h1 ?_)
        rw [if_neg (show ¬ ((Value.ref T == Value.none) = true) from by simp)]
        have fin : wpAny (model X.prog X.w) X.A (setFlight (.ref a) X.env.frame) (fun _ s4 => wpAny (model X.prog X.w) X.A (throw (.ref a) : Sem Flow) (SP X pins De) X.xe s4) X.xe { s' with heap := h4 } := by
          rw [hf]
          exact HandSPX.setFlight_upZ fl4 fun h5 hh5 up5 => wpAny_throw (tk _ _ ⟨a, B, sI, pins, σ', H', cls, d, rfl, J, nb, up4.trans up5, .inr (.inr (by rw [hs]; exact hh5)), na, os, ag, w⟩)
        first
          | exact wpAny_bind (wpAny_pure (wpAny_bind fin))
          | exact wpAny_bind fin
      | @one ty c b0 suite p hd2 l2 ht hi hsu r ih =>
        intro w h4 fl4 up4
        obtain ⟨b, hb1, hyes, hno⟩ := w
        obtain ⟨oe, he, hz, hd, J4, S4⟩ := base h4 fl4 up4
        refine wpAny_handleBy_cons (codeAny_handlers_test (ht a oe _ [] σ' H' _ _ _ S4 fun h5 v k5 T5 => ?_)) (by intro q; cases q)
        have fl5 := flying_up fl4 k5
        have up5 : sI.heap.UpToSlots h5 := up4.trans fun b o e _ => ⟨o.slots, k5 b o e⟩
        have LT : PySem.W.Looks (model X.prog X.w) h5 (typeOf (.ref a)) cls := fun A Q E s k q => wpAny_typeOf_ref (k _ _ (k5 _ _ he)) (by rw [hz.1]; exact q)
        refine (T5 cls a b (J4.kIn.keeps k5) LT hb1).here ?_
        cases b with
        | true =>
          refine codeAny_handlers_suite (HandSPX.lands_againZ fl5 fun h6 fl6 up6 => ?_)
          obtain ⟨oe6, he6, hz6, hd6, J6, S6⟩ := base h6 fl6 (up5.trans up6)
          have q0 := hyes rfl a na
          rw [hi] at q0
          refine wpAny_mono ((hsu a oe6 cls d (X.pn ++ pins) hz6 hd6).run [] _ _ H' _ S6 q0) (fun f s6 hsp => ?_) (fun _ _ z => False.elim z)
          cases f with
          | next => obtain ⟨σ7, H7, S7, q7⟩ := hsp; exact ⟨_, _, S7.unsuite ok, q7⟩
          | brk => obtain ⟨σ7, H7, S7, q7⟩ := hsp; exact ⟨_, _, S7.unsuite ok, q7⟩
          | cont => obtain ⟨σ7, H7, S7, q7⟩ := hsp; exact ⟨_, _, S7.unsuite ok, q7⟩
          | ret u => obtain ⟨v7, σ7, H7, S7, r7, q7⟩ := hsp; exact ⟨_, _, _, S7.unsuite ok, r7, q7⟩
        | false =>
          show wpAny _ X.A (handleBy (.ref a) X.env hd2) _ _ _
          exact ih (hno rfl) h5 fl5 up5
      | @as ty c b0 suite p hd2 l2 n i ht hi hn hln hsu r ih =>
        intro w h4 fl4 up4
        obtain ⟨b, hb1, hyes, hno⟩ := w
        obtain ⟨oe, he, hz, hd, J4, S4⟩ := base h4 fl4 up4
        refine wpAny_handleBy_cons (codeAny_handlers_test (ht a oe _ [] σ' H' _ _ _ S4 fun h5 v k5 T5 => ?_)) (by intro q; cases q)
        have fl5 := flying_up fl4 k5
        have up5 : sI.heap.UpToSlots h5 := up4.trans fun b o e _ => ⟨o.slots, k5 b o e⟩
        have LT : PySem.W.Looks (model X.prog X.w) h5 (typeOf (.ref a)) cls := fun A Q E s k q => wpAny_typeOf_ref (k _ _ (k5 _ _ he)) (by rw [hz.1]; exact q)
        refine (T5 cls a b (J4.kIn.keeps k5) LT hb1).here ?_
        cases b with
        | true =>
          refine codeAny_handlers_suite_as (HandSPX.lands_againZ fl5 fun h6 fl6 up6 => ?_)
          obtain ⟨oe6, he6, hz6, hd6, J6, S6⟩ := base h6 fl6 (up5.trans up6)
          have q0 := hyes rfl a na
          rw [hi] at q0
          refine store_ok (X := X.suite a ((a, oe6) :: (X.pn ++ pins))) (v := .ref a) S6 hN hn (.inl hln) rfl (fun s7 S7 => ?_) (.inr hln)
          refine wpAny_mono ((hsu a oe6 cls d (X.pn ++ pins) hz6 hd6).run [] s7 _ H' _ S7 q0) (fun f s8 hsp => ?_) (fun _ _ z => False.elim z)
          have fin : ∀ {σ9 : L2.St} {H9 : Hp} {Q : Shared → Prop}, Inv (X.suite a ((a, oe6) :: (X.pn ++ pins))) [] σ9 H9 s8 → (∀ s9, Inv X pins (σ9.set i none) H9 s9 → Q s9) → wpAny (model X.prog X.w) X.A (do bindName X.env n .none; unbindBehindTheSuite X.env n p) (fun _ s9 => Q s9) X.xe s8 :=
            fun {σ9 H9 Q} S9 hq => gone_ok (S9.unsuite ok) hN hn hln hq
          cases f with
          | next => obtain ⟨σ9, H9, S9, q9⟩ := hsp; exact fin S9 fun s9 J9 => ⟨_, _, J9, q9⟩
          | brk => obtain ⟨σ9, H9, S9, q9⟩ := hsp; exact fin S9 fun s9 J9 => ⟨_, _, J9, q9⟩
          | cont => obtain ⟨σ9, H9, S9, q9⟩ := hsp; exact fin S9 fun s9 J9 => ⟨_, _, J9, q9⟩
          | ret u => obtain ⟨v9, σ9, H9, S9, r9, q9⟩ := hsp; exact fin S9 fun s9 J9 => ⟨_, _, _, J9, r9, q9⟩
        | false =>
          show wpAny _ X.A (handleBy (.ref a) X.env hd2) _ _ _
          exact ih (hno rfl) h5 fl5 up5
    exact go hh w h3 fl3 (up.trans up3)
  · cases f with
    | next => obtain ⟨σ', H', J', q⟩ := hsp; exact wpAny_execs_nil ⟨σ', H', J'.ofTry ok, q⟩
    | brk => obtain ⟨σ', H', J', q⟩ := hsp; exact ⟨σ', H', J'.ofTry ok, q⟩
    | cont => obtain ⟨σ', H', J', q⟩ := hsp; exact ⟨σ', H', J'.ofTry ok, q⟩
    | ret u => obtain ⟨v, σ', H', J', r, q⟩ := hsp; exact ⟨v, σ', H', J'.ofTry ok, r, q⟩
end
end Q
end

section
set_option Elab.async false
set_option linter.all false
set_option maxRecDepth 100000
set_option maxHeartbeats 1000000
set_option autoImplicit false
/-! try by data; what an except suite reads of the exception that it holds. -/
namespace Q
open PySem PySem.Spec PyProof.Rows L2
/-- a clause by data: the classes, the slot behind as, the suite -/
abbrev Hd := List Nat × Option Nat × (Nat → D → Ev → Sto → SR)
def setO (i : Option Nat) (x : Option D) (env : Ev) : Ev := match i with
  | some i => env.set i x
  | none => env
def isX : Option D → Bool
  | some (.exo 0) => true
  | _ => false
def clean (env : Ev) : Bool := env.all fun d => !isX d
/-- behind a suite the slot of as is empty -/
def leaveS (i : Option Nat) (r : SR) : SR := match r with
  | .nx e s => if clean (setO i none e) = true then .nx (setO i none e) s else .err
  | .bk e s => if clean (setO i none e) = true then .bk (setO i none e) s else .err
  | .ct e s => if clean (setO i none e) = true then .ct (setO i none e) s else .err
  | .rt d s => .rt d s
  | _ => .err
def handle (sub : Nat → Nat → Bool) (c : Nat) (d : D) (e : Ev) (s : Sto) : List Hd → SR
  | [] => .exc c d e s
  | (cs, i, F) :: r => if cs.any (sub c) = true then leaveS i (F c d (setO i (some (.exo 0)) e) s) else handle sub c d e s r
def tryF (sub : Nat → Nat → Bool) (Fb : Ev → Sto → SR) (hs : List Hd) (env : Ev) (st : Sto) : SR := match Fb env st with
  | .exc c d e s => handle sub c d e s hs
  | r => r
def inX (P : Par) (a dd : Addr) (c : Nat) (d : D) : Par := { P with XV := [(dd, P.FN c, d)], xa := fun k => if k = 0 then some a else P.xa k }
abbrev W0 : WX := fun _ _ _ _ => False
def clOf (K : PySem.W.Frag) (P : Par) (h : Hd) : Cl := ⟨h.1.map fun c => .ref (P.CA c), h.2.1, fun a cls d De σ H => ∃ c0 dd d0, cls = .ref (P.CA c0) ∧ d = some dd ∧ tS K (inX P a dd c0 d0) W0 (h.2.2 c0 d0) De σ H⟩
section
variable {K : PySem.W.Frag} {P : Par} {M : List Addr} {H : Hp} {σ : L2.St} {env : Ev} {st : Sto}
theorem clean_no {i : Nat} (h : clean env = true) (e : env[i]? = some (some (.exo 0))) : False := by
  have := List.all_eq_true.mp h _ (List.mem_of_getElem? e)
  simp [isX] at this
theorem EvR.noX (h : EvR K P M H σ env) (hx : P.xa 0 = none) {i : Nat} (e : env[i]? = some (some (.exo 0))) : False := by
  obtain ⟨v, _, h2⟩ := h.2 i _ e
  obtain ⟨a, ha, _⟩ : ∃ a, P.xa 0 = some a ∧ v = .ref a := h2
  rw [hx] at ha
  cases ha
theorem dvx_of {P P' : Par} {d : D} {v : V} (hp : ∀ k, k ≠ 0 → P'.xa k = P.xa k) (h : DVx K P M H d v) (n : d ≠ .exo 0) : DVx K P' M H d v := by
  unfold DVx at h ⊢
  split
  · rename_i k
    obtain ⟨a, h1, h2⟩ := h
    exact ⟨a, by rw [hp k fun z => n (by rw [z])]; exact h1, h2⟩
  · rename_i z
    split at h
    · rename_i k; exact (z k rfl).elim
    · exact h
theorem EvR.swap {P' : Par} (hp : ∀ k, k ≠ 0 → P'.xa k = P.xa k) (h : EvR K P M H σ env) (n : ∀ i : Nat, env[i]? ≠ some (some (D.exo 0))) : EvR K P' M H σ env := ⟨h.1, fun i d e => by
  obtain ⟨v, h1, h2⟩ := h.2 i d e
  exact ⟨v, h1, dvx_of hp h2 fun z => n i (by rw [e, z])⟩⟩
theorem inX_xa {a dd : Addr} {c : Nat} {d : D} : ∀ k, k ≠ 0 → (inX P a dd c d).xa k = P.xa k := fun k hk => if_neg hk
theorem EvR.none (h : EvR K P M H σ env) (i : Nat) : EvR K P M H (σ.set i none) (env.set i none) := by
  refine ⟨by rw [List.length_set, List.length_set]; exact h.1, fun j d e => ?_⟩
  by_cases hj : i = j
  · subst hj
    rw [List.getElem?_set] at e
    simp at e
  · rw [List.getElem?_set_ne hj] at e
    rw [List.getElem?_set_ne hj]
    exact h.2 j d e
theorem EvR.exoIn {a dd : Addr} {c : Nat} {d : D} (h : EvR K P M H σ env) (hx : P.xa 0 = .none) (i : Option Nat) : EvR K (inX P a dd c d) M H (inS i a σ) (setO i (some (.exo 0)) env) := by
  cases i with
  | none => exact h.swap inX_xa fun j e => h.noX hx e
  | some i =>
    refine ⟨by simp only [inS, setO, List.length_set]; exact h.1, fun j d' e => ?_⟩
    simp only [setO] at e
    simp only [inS]
    by_cases hj : i = j
    · subst hj
      have hl : i < env.length := by
        have := (List.getElem?_eq_some_iff.mp e).1
        rwa [List.length_set] at this
      rw [List.getElem?_set_self hl] at e
      cases e
      exact ⟨_, List.getElem?_set_self (by rw [← h.1]; exact hl), a, rfl, rfl⟩
    · rw [List.getElem?_set_ne hj] at e
      rw [List.getElem?_set_ne hj]
      obtain ⟨v, h1, h2⟩ := h.2 j d' e
      exact ⟨v, h1, dvx_of inX_xa h2 fun z => h.noX hx (i := j) (by rw [e, z])⟩
theorem EvR.exoOut {a dd : Addr} {c : Nat} {d : D} {i : Option Nat} (h : EvR K (Q.inX P a dd c d) M H σ env) (hc : clean (setO i .none env) = true) : EvR K P M H (outS i σ) (setO i .none env) := by
  cases i with
  | none => exact h.swap (fun k hk => (inX_xa k hk).symm) fun j e => clean_no hc e
  | some i => exact (h.none i).swap (fun k hk => (inX_xa k hk).symm) fun j e => clean_no hc e
theorem At.inX {a dd : Addr} {c : Nat} {d : D} {v : V} (h : At K P M H st) (e : H dd = some (.xd [(P.FN c, v)])) (r : DV K M H d v) : At K (inX P a dd c d) M H st :=
  ⟨h.rel, h.tab, fun q hq => by
    obtain rfl : q = (dd, P.FN c, d) := by simpa [Q.inX] using hq
    exact ⟨v, e, r⟩, h.sup⟩
theorem At.ofX {a dd : Addr} {c : Nat} {d : D} (h : At K (Q.inX P a dd c d) M H st) (hv : P.XV = []) : At K P M H st := ⟨h.rel, h.tab, fun q hq => (by rw [hv] at hq; cases hq), h.sup⟩
end
section
variable {X : Cx} {P : Par} {W : WX} {body : List Stmt} {h0 : ExceptHandler} {hds : List ExceptHandler} {pos : Pos} {Fb : Ev → Sto → SR} {sub : Nat → Nat → Bool}
theorem any_sub {c : Nat} (hsub : ∀ a b, PySem.W.exmOne X.K (.ref (P.CA a)) (.ref (P.CA b)) = some (sub a b)) : ∀ cs : List Nat, PySem.W.exmAny X.K (.ref (P.CA c)) (cs.map fun c => .ref (P.CA c)) = some (cs.any (sub c))
  | [] => rfl
  | b :: r => by
    rw [List.map_cons, List.any_cons]
    unfold PySem.W.exmAny
    rw [hsub c b, any_sub hsub r]
theorem leave_ok {K : PySem.W.Frag} {M1 : List Addr} {H1 : Hp} {De : Ends} {r : SR} {a dd : Addr} {c : Nat} {d : D} {i : Option Nat} (hv : P.XV = []) (h : PostS K P W M1 H1 (leaveS i r) De) : PostS K (inX P a dd c d) W0 M1 H1 r (endS i De) := by
  cases r with
  | nx e s =>
    simp only [leaveS] at h
    split at h
    · rename_i hc; exact fun σ' M' H' s1 a1 e1 => h _ M' H' s1 (a1.ofX hv) (e1.exoOut hc)
    · exact h.elim
  | bk e s =>
    simp only [leaveS] at h
    split at h
    · rename_i hc; exact fun σ' M' H' s1 a1 e1 => h _ M' H' s1 (a1.ofX hv) (e1.exoOut hc)
    · exact h.elim
  | ct e s =>
    simp only [leaveS] at h
    split at h
    · rename_i hc; exact fun σ' M' H' s1 a1 e1 => h _ M' H' s1 (a1.ofX hv) (e1.exoOut hc)
    · exact h.elim
  | rt d s => exact fun v M' H' s1 a1 r1 => h v M' H' s1 (a1.ofX hv) r1
  | exc c d e s => exact h.elim
  | err => exact h.elim
theorem handle_ok {De : Ends} {M1 : List Addr} {H1 : Hp} {c : Nat} {d : D} {e : Ev} {s : Sto} {σ1 : L2.St} {dd : Addr} {v : V} (hsub : ∀ a b, PySem.W.exmOne X.K (.ref (P.CA a)) (.ref (P.CA b)) = some (sub a b)) (hv : P.XV = []) (hx : P.xa 0 = none) (a1 : At X.K P M1 H1 s) (e1 : EvR X.K P M1 H1 σ1 e) (r1 : DV X.K M1 H1 d v) (x1 : H1 dd = some (.xd [(P.FN c, v)])) :
    ∀ hs : List Hd, PostS X.K P W M1 H1 (handle sub c d e s hs) De → (handle sub c d e s hs = .exc c d e s → W (.ref (P.CA c)) (some dd) σ1 H1) → wCls X.K W De (hs.map (clOf X.K P)) (.ref (P.CA c)) (some dd) σ1 H1
  | [], _, k => k rfl
  | (cs, i, F) :: hs, h, k => by
    refine ⟨_, any_sub hsub cs, fun hb a na => ?_, fun hb => ?_⟩
    · refine ⟨c, dd, d, rfl, rfl, M1, _, s, e1.exoIn hx i, a1.inX x1 r1, ?_⟩
      rw [handle, if_pos hb] at h
      exact leave_ok hv h
    · rw [handle, if_neg (by rw [hb]; exact Bool.false_ne_true)] at h k
      exact handle_ok hsub hv hx a1 e1 r1 x1 hs h k
/-- once raised and not caught, it is still what was raised -/
theorem handle_exc {c : Nat} {d : D} {e : Ev} {s : Sto} : ∀ {hs : List Hd} {c' : Nat} {d' : D} {e' : Ev} {s' : Sto}, handle sub c d e s hs = .exc c' d' e' s' → c' = c ∧ d' = d ∧ e' = e ∧ s' = s
  | [], _, _, _, _, h => by cases h; exact ⟨rfl, rfl, rfl, rfl⟩
  | (cs, i, F) :: hs, c', d', e', s', h => by
    rw [handle] at h
    split at h
    · unfold leaveS at h
      split at h
      · split at h <;> cases h
      · split at h <;> cases h
      · split at h <;> cases h
      · cases h
      · cases h
    · exact handle_exc h
theorem q_try {hs : List Hd} (hst : X.stack = X.env :: X.outer) (hf : X.env.frame = some X.env.locals) (hN : X.N.Nodup) (tk : L2.Takes X W) (hsub : ∀ a b, PySem.W.exmOne X.K (.ref (P.CA a)) (.ref (P.CA b)) = some (sub a b)) (hv : P.XV = []) (hx : P.xa 0 = none)
    (hb : ∀ (W : WX) (pn : List (Addr × Obj)) (xe : Value → Shared → Prop), L2.Takes (X.tr pn xe) W → PassesOwn (model X.prog X.w) X.A X.env xe → PSs (X.tr pn xe) body (tS X.K P W Fb)) (hh : ClsOk X (h0 :: hds) (hs.map (clOf X.K P))) :
    PS X (.Try body (h0 :: hds) [] [] pos) (tS X.K P W (tryF sub Fb hs)) := by
  refine ⟨fun pins s σ H De I h => (ps_tryG (tb := fun W => tS X.K P W Fb) hst hf hN tk hb hh).run pins s σ H De I ?_⟩
  obtain ⟨M, env, st, sl, at_, p⟩ := h
  refine ⟨M, env, st, sl, at_, ?_⟩
  unfold tryF at p
  cases e1 : Fb env st with
  | exc c d e s1 =>
    rw [e1] at p
    intro dd v σ1 M1 H1 s2 a1 ev1 r1 x1
    refine handle_ok hsub hv hx a1 ev1 r1 x1 hs (PostS.step s2 p) fun he => ?_
    dsimp only at p
    rw [he] at p
    exact p dd v σ1 M1 H1 s2 a1 ev1 r1 x1
  | nx e s1 => rw [e1] at p; exact p
  | bk e s1 => rw [e1] at p; exact p
  | ct e s1 => rw [e1] at p; exact p
  | rt d s1 => rw [e1] at p; exact p
  | err => rw [e1] at p; exact p
/-- a suite keeps what its clause says -/
theorem su_ok {b0 : Stmt} {suite : List Stmt} {h : Hd} (k : ∀ (a dd : Addr) (oe : Obj) (c0 : Nat) (d0 : D) (pn : List (Addr × Obj)), Zc (.ref (P.CA c0)) (some dd) oe → (∃ vs, oe.data = .fields vs) → PSs (X.suite a ((a, oe) :: pn)) (b0 :: suite) (tS X.K (inX P a dd c0 d0) W0 (h.2.2 c0 d0))) :
    SuOk X b0 suite (clOf X.K P h).ts := by
  intro a oe cls d pn hz hd
  refine ⟨fun pins s σ H De I hh => ?_⟩
  obtain ⟨c0, dd, d0, rfl, rfl, q⟩ := hh
  exact (k a dd oe c0 d0 pn hz hd).run pins s σ H De I q
/-- what the written part says of the classes of exceptions, for reading their field -/
structure ExG (K : PySem.W.Frag) (C : Addr) (f : Str) : Prop where
  ga : PySem.W.findIn K (.ref C) "__getattribute__" = some (some (.builtin "BaseException.__getattribute__"))
  gg : PySem.W.findIn K (.ref C) "__getattr__" = some none
  noN : PySem.W.findIn K (.ref C) f = some none
  exC : PySem.W.subIn K (.ref C) (.type "BaseException") = some true
  hdC : PySem.W.hasDictIn K C = true
/-- e.f in a suite -/
def thingF (i : Nat) (ok : Bool) (d0 : D) (env : Ev) (st : Sto) : Res D := match env[i]?, ok with
  | some (some (.exo 0)), true => .ok d0 st
  | _, _ => .err
theorem q_thing {a dd : Addr} {oe : Obj} {c0 i : Nat} {d0 : D} {pn : List (Addr × Obj)} {n f : Str} {p0 p1 : Pos} {ok : Bool} (G : ExG X.K (P.CA c0) (P.FN c0)) (hok : ok = true → f = P.FN c0) (hz : Zc (.ref (P.CA c0)) (some dd) oe) (hd : ∃ vs, oe.data = .fields vs)
    (hN : X.N[i]? = some n) (hvi : Vis X.env.scope n) (hdb : (n == ("__debug__" : Str)) = false) (hcd : (n == ("__classdict__" : Str)) = false) (hb : attributeBase (.Name n p0) f X.env (eval (.Name n p0) X.env) = eval (.Name n p0) X.env) :
    PE (X.suite a ((a, oe) :: pn)) (.Attribute (.Name n p0) f p1) (tE X.K (inX P a dd c0 d0) W (thingF i ok d0)) := by
  refine ⟨fun pins s σ H Q I h => ?_⟩
  obtain ⟨M, env, st, sl, at_, p⟩ := h
  have hi : env[i]? = some (some (.exo 0)) ∧ ok = true ∧ thingF i ok d0 env st = .ok d0 st := by
    unfold thingF at p ⊢
    split
    · rename_i e; exact ⟨e, rfl, rfl⟩
    · rename_i z
      split at p
      · rename_i e; exact absurd rfl (z e)
      · exact p.elim
  obtain ⟨hi, hok1, he⟩ := hi
  rw [he] at p
  obtain rfl := hok hok1
  obtain ⟨v0, hv0, hx0⟩ := sl.2 i _ hi
  obtain ⟨a', ha', rfl⟩ : ∃ a', (inX P a dd c0 d0).xa 0 = some a' ∧ v0 = .ref a' := hx0
  cases ha'
  refine attr_of hb (thn ((pe_var (X := X.suite a ((a, oe) :: pn)) hN hvi hdb hcd).run pins s σ H (fun x H1 => x = .ref a ∧ H1 = H) I ⟨_, hv0, rfl, rfl⟩) fun u s1 hh => ?_)
  obtain ⟨x, H1, I1, rx, rfl, rfl⟩ := hh
  obtain rfl : u = Value.ref a := rx
  obtain ⟨v, ea, rd⟩ := at_.exn (dd, P.FN c0, d0) (by simp [inX])
  obtain ⟨ha, _⟩ := I1.pin (a, oe) (List.mem_append_left _ List.mem_cons_self)
  obtain ⟨vs, hdd⟩ := hd
  have hx : ObjOk X.prog X.w H1 s1.heap dd (.xd [(P.FN c0, v)]) := I1.hok dd _ ea
  obtain ⟨mA, hns, hr⟩ := hx
  obtain ⟨od, ho, hl⟩ := lookIn_ns hns
  have l : List.lookup (P.FN c0) [(P.FN c0, v)] = some v := by simp [List.lookup]
  obtain ⟨u2, hu, ru⟩ := RelO.some_of (v := v) (o := mA (P.FN c0)) (by rw [← l]; exact hr _)
  have J : PySem.W.InstAt s1.heap a oe (P.CA c0) (some od) := ⟨ha, hz.1, by unfold PySem.W.notCls; rw [hdd] <;> rfl, by rw [hz.2]; exact ho⟩
  exact HandSPX.exc_get I1.kIn J G.ga G.gg G.exC (PySem.W.findObj_own G.hdC G.noN rfl (by rw [hl, hu])) (handed_of ru) ⟨v, H1, I1.tok _, ru, p v M H1 (Stp.refl _ _) at_ rd⟩
end
end Q
end

section
set_option Elab.async false
set_option linter.all false
set_option maxRecDepth 100000
set_option maxHeartbeats 1000000
set_option autoImplicit false
/-! A lambda without parameters handed to a def, by data. -/
namespace Q
open PySem PySem.Spec PyProof.Rows L2
/-- x(), x the parameter that holds what was handed over -/
def thF (th : Sto → Res D) (env : Ev) (st : Sto) : Res D := match (env[0]? : Option (Option D)) with
  | some (some (.exo 1)) => th st
  | _ => .err
def ThOk (X : Cx) (P : Par) (a : Str) (th : Sto → Res D) : Prop := ∀ (W : WX) (pn : List (Addr × Obj)) (xe : Value → Shared → Prop) (p1 p2 : Pos), L2.Takes (X.tr pn xe) W → PE (X.tr pn xe) (.Call (.Name a p1) [] [] p2) (tE X.K P W (thF th))
/-- the slots of the def that got it -/
def envL (n : Nat) : Ev := (env0 n []).set 0 (some (.exo 1))
abbrev lamP (P : Par) (M : List Addr) (H : Hp) (f : Addr) : Par := { P with SB := (M, H) :: P.SB, xa := fun k => if k = 1 then some f else none }
section
variable {X : Cx} {P : Par} {W : WX} {pins : List (Addr × Obj)} {σ : L2.St} {H H1 : Hp} {s s1 : Shared} {M : List Addr} {st : Sto} {env : Ev} {Fl : Ev → Sto → Res D}
theorem Post.par {α β : Type} {K : PySem.W.Frag} {P P' : Par} {M : List Addr} {H : Hp} {R : List Addr → Hp → α → β → Prop} {Wx : Value → Option Addr → Hp → Prop} {Q : β → Hp → Prop} {r : Res α} (hc : P'.CA = P.CA) (hf : P'.FN = P.FN)
    (k : ∀ M' H' st', Stp M H M' H' → At K P M' H' st' → At K P' M' H' st') (h : Post K P' M H R Wx r Q) : Post K P M H R Wx r Q := by
  cases r with
  | ok a st' => exact fun b M' H' s a q => h b M' H' s (k _ _ _ s a) q
  | exc c d st' =>
    intro dd v M' H' s a q x
    have z := h dd v M' H' s (k _ _ _ s a) q (by rw [hf]; exact x)
    rw [hc] at z
    exact z
  | err => exact h
theorem PostS.par {K : PySem.W.Frag} {P P' : Par} {M : List Addr} {H : Hp} {r : Res D} {Q : VK} {r' : SR} (hc : P'.CA = P.CA) (hf : P'.FN = P.FN) (hr : ofSR r' = r)
    (k : ∀ M' H' st', At K P' M' H' st' → At K P M' H' st') {E : XK} (h : Post K P M H (DV K) E r Q) : PostS K P' (fun c d _ H => E c d H) M H r' { nx := fun _ H' => Q .non H', rt := Q } := by
  subst hr
  cases r' with
  | nx e s => exact fun σ' M' H' s1 a1 _ => h .non M' H' s1 (k _ _ _ a1) (dv_non.mpr rfl)
  | rt d s => exact fun v M' H' s1 a1 r1 => h v M' H' s1 (k _ _ _ a1) r1
  | exc c d e s =>
    intro dd v σ' M' H' s1 a1 _ r1 x
    have z := h dd v M' H' s1 (k _ _ _ a1) r1 (by rw [← hf]; exact x)
    rw [← hc] at z
    exact z
  | bk e s => exact h.elim
  | ct e s => exact h.elim
  | err => exact h.elim
theorem evr_lam {K : PySem.W.Frag} {N : List Str} {f : Addr} (hN : 0 < N.length) : EvR K (lamP P M H f) M H (L2.start N [.ref f]) (envL N.length) := by
  unfold envL env0 L2.start
  refine ⟨by simp; omega, fun i d e => ?_⟩
  cases i with
  | zero =>
    have hl : 0 < (List.map some ([] : List D) ++ List.replicate (N.length - ([] : List D).length) none).length := by simpa using hN
    rw [List.getElem?_set_self hl] at e
    cases e
    exact ⟨.ref f, rfl, f, rfl, rfl⟩
  | succ i =>
    rw [List.getElem?_set_ne (by omega)] at e
    rw [List.map_nil, List.nil_append, List.getElem?_replicate] at e
    split at e <;> cases e
theorem q_act {Ng : List Str} {qg : Str} {sg : Scope} {g f c' : Addr} {cdg pm ctv : Value} {params : Arguments} {body : Expr} {scope : Scope} {k : Nat} {a : Str} {pn : List (Addr × Obj)} {xe : Value → Shared → Prop} {Wz : WX} {E0 : XK} {p1 p2 : Pos}
    (I : Inv X pins σ H1 s) (sl : EvR X.K P M H1 σ env) (mk : MOk M H1) (L : LamX.LamS X.env.scope scope) (hf : s.heap.get? f = some (PySem.W.kla_obj "<lambda>" (X.env.qual ++ "<lambda>") params body scope (cloFrom X.env.cells scope.names []) pm c' ctv)) (hfn : H1 f = none) (hfr : f ∉ frs X.stack) (hco : H1 c' = some (LamX.CodeO c' (X.env.qual ++ "<lambda>")))
    (hbind : bindArgs (PySem.W.kla_fn "<lambda>" (X.env.qual ++ "<lambda>") params body scope (cloFrom X.env.cells scope.names []) pm (.ref c') ctv) ⟨[], []⟩ = pure []) (tk : L2.Takes ((cxOf (L2.CX X.prog X.w) X.prog X.w X.K X.mg X.base Ng qg sg g cdg X.A X.stack s H1 E0).tr pn xe) Wz)
    (hr : Room (k + 1) (X.A.deeper (envOfC qg sg s.heap.objs.size g cdg))) (hgd : X.A.guards = some [])
    (hbody : ∀ (A : Around) (outer : List Env) (s : Shared) (H : Hp) (E : XK), Room k (A.deeper (LamX.lamEnv X scope s.heap.objs.size f c')) → A.guards = some [] → PE (LamX.lamCx X A outer s H E scope f c') body (tE X.K P (fun c d _ H => E c d H) Fl))
    (hN : Ng[0]? = some a) (hv : Vis sg a) (hd : (a == ("__debug__" : Str)) = false) (hcd : (a == ("__classdict__" : Str)) = false) :
    PE ((cxOf (L2.CX X.prog X.w) X.prog X.w X.K X.mg X.base Ng qg sg g cdg X.A X.stack s H1 E0).tr pn xe) (.Call (.Name a p1) [] [] p2) (tE X.K (lamP P M H1 f) Wz (thF fun st => Fl env st)) := by
  refine ⟨fun pinsZ sZ σZ HZ Q IZ h => ?_⟩
  obtain ⟨MZ, envZ, stZ, slZ, atZ, pZ⟩ := h
  have h0 : envZ[0]? = some (some (.exo 1)) ∧ thF (fun st => Fl env st) envZ stZ = Fl env stZ := by
    unfold thF at pZ ⊢
    split at pZ
    · rename_i e; exact ⟨e, rfl⟩
    · exact pZ.elim
  obtain ⟨h0, he⟩ := h0
  rw [he] at pZ
  obtain ⟨v0, hs, f', hf', rfl⟩ := slZ.2 0 _ h0
  obtain rfl : f = f' := by
    have : (if (1 : Nat) = 1 then some f else none) = some f' := hf'
    rw [if_pos rfl] at this
    exact Option.some.inj this
  obtain ⟨stp, _⟩ := atZ.sup (M, H1) (List.mem_cons_self ..)
  have hc : HZ c' = some (LamX.CodeO c' (X.env.qual ++ "<lambda>")) := stp.keep c' _ hco (mk.not hco (by unfold LamX.CodeO; rintro (⟨_, h⟩ | ⟨_, h⟩ | ⟨_, h⟩) <;> cases h)) LamX.codeO_ne
  have ht : tE X.K P (fun c d _ H => Wz c d σZ H) Fl σ HZ Q := ⟨MZ, env, stZ, sl.mono mk stp, atZ.drop, Post.par (P' := lamP P M H1 f) rfl rfl (fun M' H' st' s' a' => a'.back (stp.trans s') mk) pZ⟩
  refine wpAny_Call_Name_kw (thn ((pe_var (pos := p1) (i := 0) hN hv hd hcd).run pinsZ sZ σZ HZ (fun v H1 => v = .ref f ∧ H1 = HZ) IZ ⟨.ref f, hs, rfl, rfl⟩) fun u s1 ⟨v, H2, I1, r1, q1⟩ => ?_)
  obtain ⟨ev, eH⟩ := q1
  subst ev
  rw [eH] at I1
  obtain rfl : u = Value.ref f := r1
  have of1 : s1.heap.get? f = some (PySem.W.kla_obj "<lambda>" (X.env.qual ++ "<lambda>") params body scope (cloFrom X.env.cells scope.names []) pm c' ctv) := I1.base.keep f _ hf hfn hfr (fun z => nomatch (show f ∈ ([] : List Addr) from z))
  refine PySem.W.callWith_F0 ⟨_, _, _, _, of1⟩ ?_
  have un : Un (frs X.stack) [] H1 HZ s.heap s1.heap := I1.base
  obtain ⟨⟨oc, vs, t, hoc, hdc, hvc⟩, _, _⟩ := I1.hok c' _ hc
  have rc : codeAny (model X.prog X.w) (X.A.deeper (envOfC qg sg s.heap.objs.size g cdg)) (.call (.ref f) ⟨[], []⟩) (CR (L2.CX X.prog X.w) (envOfC qg sg s.heap.objs.size g cdg :: X.stack) X.prog X.w HZ s1 Q (fun c d H => Wz c d σZ H)) s1 := by
    refine PySem.W.kla_callFunE hr.depth of1 rfl L.co L.gen rfl ⟨c', oc, vs, t, rfl, hoc, hdc, hvc⟩ ?_
    rw [hbind]
    refine wpAny_pure (wpAny_newFunctionEnv (fun y hy => (L.own y hy).2) (fun y hy => absurd hy (by simp)) (fun h₁ hns hsb => ⟨I1.nolimit.fresh _ hsb, ?_⟩) L.kind)
    show codeAny _ _ (.expr body (LamX.lamEnv X scope s1.heap.objs.size f c')) _ _
    have kp : ∀ b o, s1.heap.get? b = some o → h₁.get? b = some o := fun b o e => hsb.extBut b o (Nat.ne_of_lt (Heap.lt_size e)) (Heap.get?_push_of_some _ e)
    have J : Inv (LamX.lamCx X (X.A.deeper (envOfC qg sg s.heap.objs.size g cdg)) (envOfC qg sg s.heap.objs.size g cdg :: X.stack) s1 HZ (fun c d H => Wz c d σZ H) scope f c') [] σ HZ { s1 with heap := h₁, toks := s1.toks + ([] : List (Str × Value)).length } :=
      LamX.lam_start2 I L I1.env0 hr.hd un hns kp
    refine PySem.W.kla_codeExpr (wpAny_mono ((hbody _ _ s1 HZ _ (hr.deeper _) hgd).run [] _ _ HZ Q J ht) (fun v s' hq => ?_) fun e s' hq => hq)
    obtain ⟨w', H', J', rv, q⟩ := hq
    exact ⟨w', H', J'.os, J'.bare, J'.base, J'.hok, rv, q⟩
  refine wpAny_call (codeAny_mono rc fun r s' hq => ?_)
  cases r with
  | error e => exact tk e s' (XE.of_call I1 (fun _ _ _ h => h) hq)
  | ok fl =>
    cases fl with
    | ret u => exact I1.after hq
    | next => exact False.elim hq
    | brk => exact False.elim hq
    | cont => exact False.elim hq
/-- x(lambda: body) -/
theorem q_lam {x a : Str} {g c t : Addr} {k : Nat} {qg : Str} {pg : Arguments} {bg : List Stmt} {sg : Scope} {dV kV doc pm cdv ct oc : Value} {an od : Option Addr} {osl : Array (Option Value)} {Ng : List Str} {params : Arguments} {body : Expr} {scope : Scope} {p lpos pos : Pos} {Fb : (Sto → Res D) → Ev → Sto → SR}
    (hg : Gl X x) (hm : X.mg x = some (.ref g)) (hk : PySem.W.keepIn X.K (.ref g) = true) (lk : X.K.lookup g = some ⟨oc, od, .func (PySem.W.fnOf x qg pg bg sg dV kV doc pm an cdv ct), osl⟩) (hcg : PySem.W.codeIn X.K cdv qg = true)
    (hb : ∀ us : List Value, us.length = 1 → bindArgs (PySem.W.fnOf x qg pg bg sg dV kV doc pm an cdv ct) ⟨us, []⟩ = pure ([a].zip us)) (Sg : FnScope Ng [a] sg) (hNg : Ng[0]? = some a) (hva : Vis sg a)
    (hG : ∀ (A : Around) (outer : List Env) (s : Shared) (H : Hp) (E : XK) (P' : Par) (th : Sto → Res D), P'.CA = P.CA → P'.FN = P.FN → P'.XV = [] → P'.xa 0 = none → P'.T = P.T → Room k (A.deeper (envOfC qg sg s.heap.objs.size g cdv)) → A.guards = some [] →
      ThOk (cxOf (L2.CX X.prog X.w) X.prog X.w X.K X.mg X.base Ng qg sg g cdv A outer s H E) P' a th → PSs (cxOf (L2.CX X.prog X.w) X.prog X.w X.K X.mg X.base Ng qg sg g cdv A outer s H E) bg (tS X.K P' (fun c d _ H => E c d H) (Fb th)))
    (hv0 : P.XV = []) (TB : LamX.TabB X.base X.mg c t) (hcode : X.env.code = .ref c) (hmT : (t, X.env.qual ++ "<lambda>") ∈ P.T) (hu : ∀ p ∈ P.T, p.1 = t → p.2 = X.env.qual ++ "<lambda>") (hr : Room (k + 1) X.A) (hgd : X.A.guards = some []) (tk : L2.Takes X W) (L : LamX.LamS X.env.scope scope) (hdef : defaultsOf params X.env = ([], []))
    (hbind : ∀ (q : Str) (cl : List (Str × Addr)) (pm cv ctv : Value), bindArgs (PySem.W.kla_fn "<lambda>" q params body scope cl pm cv ctv) ⟨[], []⟩ = pure [])
    (hk1 : 1 ≤ k) (hbody : ∀ (A : Around) (outer : List Env) (s : Shared) (H : Hp) (E : XK) (f c' : Addr), Room (k - 1) (A.deeper (LamX.lamEnv X scope s.heap.objs.size f c')) → A.guards = some [] → PE (LamX.lamCx X A outer s H E scope f c') body (tE X.K P (fun c d _ H => E c d H) Fl))
    (hdb : (x == ("__debug__" : Str)) = false) (hd : (a == ("__debug__" : Str)) = false) (hcd : (a == ("__classdict__" : Str)) = false) :
    PE X (.Call (.Name x p) [.Lambda params body scope lpos] [] pos) (tE X.K P W fun env st => ofSR (Fb (fun st => Fl env st) (envL Ng.length) st)) := by
  refine ⟨fun pins s σ H Q I h => ?_⟩
  obtain ⟨M, env, st, sl, at_, pp⟩ := h
  refine wpAny_Call_Name_kw (ld_glob I hg hm ?_ hdb)
  refine PySem.W.callWith_K (h₀ := X.base) I.ok.mod.kin hk ?_ (by rfl) (by rfl)
  show wpAny _ _ (spliced ((false, eval (.Lambda params body scope lpos) X.env) :: backTo pos (starEach [] X.env))) _ _ s
  refine Calls.spliced_cons (LamX.lam_make2 I TB hcode hmT hu at_.tab hdef (L.has I.ok) fun f c' pm' ctv H1 s' I1 eN T1 hf hfn hfr hco => ?_)
  refine Calls.spliced_nil ⟨I1.kIn, ?_⟩
  have a1 : At X.K P M H1 st := at_.ext eN T1
  have sl1 : EvR X.K P M H1 σ env := sl.mono at_.mok (Stp.ext eN)
  have hN0 : 0 < Ng.length := (List.getElem?_eq_some_iff.mp hNg).1
  have rc : codeAny (model X.prog X.w) X.A (.call (.ref g) ⟨[.ref f], []⟩) (CR (L2.CX X.prog X.w) X.stack X.prog X.w H1 s' Q (fun c d H' => W c d σ H')) s' := by
    refine LamX.run_ofS (N := Ng) (ps := [a]) (us := [.ref f]) (vs := [.ref f]) lk hcg Sg hr I1.env0 (.of_eq (hb [.ref f] rfl)) (.cons rfl .nil) rfl fun hr' => ?_
    refine ⟨_, hG X.A X.stack s' H1 (fun c d H' => W c d σ H') (lamP P M H1 f) (fun st => Fl env st) rfl rfl hv0 rfl rfl hr' hgd fun Wz pn xe p1 p2 tkz => q_act I1 sl1 a1.mok L hf hfn hfr hco (hbind _ _ _ _ _) tkz (k := k - 1) (by rw [Nat.sub_add_cancel hk1]; exact hr') hgd (fun A outer s H E hr2 hg2 => hbody A outer s H E f c' hr2 hg2) hNg hva hd hcd,
      M, envL Ng.length, st, evr_lam hN0, a1.note _, PostS.par (P := P) (P' := lamP P M H1 f) rfl rfl rfl (fun M' H' st' z => z.drop) (Post.step (Stp.ext eN) pp)⟩
  refine wpAny_call (codeAny_mono rc fun r s2 hq => ?_)
  cases r with
  | error e => exact tk e s2 (XE.of_call I1 (fun _ _ _ h => h) hq)
  | ok fl =>
    cases fl with
    | ret u => exact I1.after hq
    | next => exact False.elim hq
    | brk => exact False.elim hq
    | cont => exact False.elim hq
end
end Q
end

section
set_option Elab.async false
set_option linter.all false
set_option maxRecDepth 100000
set_option maxHeartbeats 1000000
set_option autoImplicit false
/-! Stores by place, dict displays, get. -/
namespace Q
open PySem PySem.Spec PyProof.Rows L2
section
variable {K : PySem.W.Frag} {P : Par} {M : List Addr} {H : Hp} {st : Sto}
theorem any_rel {k : Key} : ∀ {ds : List (Key × D)} {vs : List (Key × V)}, DKs K M H ds vs → (ds.any fun kv => decide (kv.1 = k)) = vs.any fun kv => decide (kv.1 = k)
  | [], vs, h => by unfold DKs at h; subst h; rfl
  | (k', d') :: ds, vs, h => by
    unfold DKs at h
    obtain ⟨v, vr, rfl, h1, h2⟩ := h
    rw [List.any_cons, List.any_cons, any_rel h2]
theorem dks_cons {k : Key} {d : D} {v : V} {ds : List (Key × D)} {vs : List (Key × V)} (h : DV K M H d v) (t : DKs K M H ds vs) : DKs K M H ((k, d) :: ds) ((k, v) :: vs) := by unfold DKs; exact ⟨v, vs, rfl, h, t⟩
theorem dks_nil : DKs K M H ([] : List (Key × D)) [] := by unfold DKs; rfl
theorem map_rel {k : Key} {d : D} {v : V} (r : DV K M H d v) : ∀ {ds : List (Key × D)} {vs : List (Key × V)}, DKs K M H ds vs → DKs K M H (ds.map fun kv => if kv.1 = k then (kv.1, d) else kv) (vs.map fun kv => if kv.1 = k then (kv.1, v) else kv)
  | [], vs, h => by unfold DKs at h; subst h; exact dks_nil
  | (k', d') :: ds, vs, h => by
    unfold DKs at h
    obtain ⟨v', vr, rfl, h1, h2⟩ := h
    rw [List.map_cons, List.map_cons]
    by_cases e : k' = k
    · rw [if_pos (show (k', d').1 = k from e), if_pos (show (k', v').1 = k from e)]
      exact dks_cons r (map_rel r h2)
    · rw [if_neg (show ¬ (k', d').1 = k from e), if_neg (show ¬ (k', v').1 = k from e)]
      exact dks_cons h1 (map_rel r h2)
theorem snoc_rel {k : Key} {d : D} {v : V} (r : DV K M H d v) : ∀ {ds : List (Key × D)} {vs : List (Key × V)}, DKs K M H ds vs → DKs K M H (ds ++ [(k, d)]) (vs ++ [(k, v)])
  | [], vs, h => by unfold DKs at h; subst h; exact dks_cons r dks_nil
  | (k', d') :: ds, vs, h => by
    unfold DKs at h
    obtain ⟨v', vr, rfl, h1, h2⟩ := h
    exact dks_cons h1 (snoc_rel r h2)
theorem put_rel {k : Key} {d : D} {v : V} (r : DV K M H d v) {ds : List (Key × D)} {vs : List (Key × V)} (h : DKs K M H ds vs) : DKs K M H (putD ds k d) (putK vs k v) := by
  unfold putD putK
  rw [any_rel h]
  split
  · exact map_rel r h
  · exact snoc_rel r h
def mergeD (kvs more : List (Key × D)) : List (Key × D) := more.foldl (fun acc kv => putD acc kv.1 kv.2) kvs
theorem merge_rel : ∀ {ms : List (Key × D)} {ns : List (Key × V)} {ds : List (Key × D)} {vs : List (Key × V)}, DKs K M H ms ns → DKs K M H ds vs → DKs K M H (mergeD ds ms) (mergeK vs ns)
  | [], ns, ds, vs, h, g => by unfold DKs at h; subst h; exact g
  | (k, d) :: ms, ns, ds, vs, h, g => by
    unfold DKs at h
    obtain ⟨v, vr, rfl, h1, h2⟩ := h
    show DKs K M H (mergeD (putD ds k d) ms) (mergeK (putK vs k v) vr)
    exact merge_rel h2 (put_rel h1 g)
end

/-! ### o[i] = v -/
def setD : D → D → D → Sto → Option Sto
  | .loc n, i, v, st => match st[n]? with
    | some (.lst ds) => match i with
      | .int k => (ixN ds.length k).map fun j => st.set n (.lst (ds.set j v))
      | _ => none
    | some (.dK kvs) => match keyD i with
      | some k => if kvs.length < 100000 then some (st.set n (.dK (putD kvs k v))) else none
      | none => none
    | _ => none
  | _, _, _, _ => none
section
variable {X : Cx} {P : Par} {W : WX}
def rSetD (K : PySem.W.Frag) (P : Par) : V → V → V → Hp → (Hp → Prop) → Prop := fun o i v H Q => ∃ M st do_ di dv, At K P M H st ∧ DV K M H do_ o ∧ DV K M H di i ∧ DV K M H dv v ∧ ∃ st', setD do_ di dv st = some st' ∧ ∀ M' H', Stp M H M' H' → At K P M' H' st' → Q H'
theorem set_ok (hu : X.A.units + 64 < cLine) : PSet X (rSetD X.K P) := by
  intro pins s σ H o i v ov iv u Q I ro ri rv h
  obtain ⟨M, st, do_, di, dv, at_, r1, r2, r3, st', e, k⟩ := h
  unfold setD at e
  split at e
  · rename_i n
    obtain ⟨p, rfl, hm⟩ := dv_loc.mp r1
    split at e
    · rename_i ds e1
      split at e
      · rename_i kk
        cases e2 : ixN ds.length kk with
        | none => rw [e2] at e; cases e
        | some j =>
          rw [e2] at e
          cases e
          obtain ⟨p', vs, h1, h2, h3⟩ := at_.lst e1
          rw [hm] at h1
          cases h1
          cases dv_int.mp r2
          refine set_list pins s σ H _ _ _ ov iv u Q I ro ri rv ⟨p, vs, kk, j, rfl, rfl, h2, by rw [← h3.length]; exact e2, ?_⟩
          have st1 : Stp M H M (upd H p (.lst (vs.set j v))) := stp_set hm nt_lst
          exact k M _ st1 (at_.set hm ⟨_, upd_same, (h3.set j r3).mono at_.mok st1⟩)
      · cases e
    · rename_i kvs e1
      split at e
      · rename_i kk e2
        split at e
        · rename_i hl
          cases e
          obtain ⟨p', vs, h1, h2, h3⟩ := at_.dK e1
          rw [hm] at h1
          cases h1
          obtain rfl : ov = Value.ref p := ro
          have st1 : Stp M H M (upd H p (.dK (putK vs kk v))) := stp_set hm (nt_mut (.inr (.inl ⟨_, rfl⟩)))
          exact d_setItem (H' := upd H p (.dK (putK vs kk v))) (by omega) I (.inl ⟨vs, kk, h2, keyD_of r2 e2, by rw [← h3.length, sizeLine_eq]; omega, rfl⟩) ri rv fun s' J => ⟨_, J, k M _ st1 (at_.set hm ⟨_, upd_same, (put_rel r3 h3).mono at_.mok st1⟩)⟩
        · cases e
      · cases e
    · cases e
  · cases e
def ofSt (r : Option Sto) (env : Ev) : SR := match r with
  | some st => .nx env st
  | none => .err
theorem q_put {o i value : Expr} {pos' pos : Pos} {Fo Fi Fv : Ev → Sto → Res D} (hu : X.A.units + 64 < cLine) (ho : PE X o (tE X.K P W Fo)) (hi : PE X i (tE X.K P W Fi)) (hv : PE X value (tE X.K P W Fv)) (hs : swapsWith value (some (.Subscript o i pos')) pos.line X.env = pure false) :
    PS X (.Assign [.Subscript o i pos'] value pos) (tS X.K P W fun env st => (Fv env st).then env fun v s1 => (Fo env s1).then env fun o s2 => (Fi env s2).then env fun i s3 => ofSt (setD o i v s3) env) := by
  refine ⟨fun pins s σ H De I h => ?_⟩
  obtain ⟨M, env, st, sl, at_, p⟩ := h
  have q : tG X.K P W (DV X.K) Fv σ H fun v H1 => tG X.K P W (DV X.K) Fo σ H1 fun o H2 => tG X.K P W (DV X.K) Fi σ H2 fun i H3 => rSetD X.K P o i v H3 fun H4 => De.nx σ H4 :=
    tG.goS sl at_ p fun v H1 dv M1 st1 s1 a1 sl1 r1 p1 => tG.goS sl1 a1 p1 fun o H2 do_ M2 st2 s2 a2 sl2 r2 p2 => tG.goS sl2 a2 p2 fun i H3 di M3 st3 s3 a3 sl3 r3 p3 => by
      refine ⟨M3, st3, do_, di, dv, a3, r2.mono a2.mok s3, r3, (r1.mono a1.mok s2).mono a2.mok s3, ?_⟩
      cases e : setD do_ di dv st3 with
      | none => rw [e] at p3; exact p3.elim
      | some st' =>
        rw [e] at p3
        exact ⟨st', rfl, fun M' H' s4 a4 => p3 σ M' H' s4 a4 (sl3.mono a3.mok s4)⟩
  exact wpAny_Assign_Subscript (thn (hv.run pins s σ H _ I q) fun r s1 ⟨v, H1, I1, rv, q1⟩ => thn (ho.run pins s1 σ H1 _ I1 q1) fun u s2 ⟨x, H2, I2, rx, q2⟩ => thn (hi.run pins s2 σ H2 _ I2 q2) fun iv s3 ⟨y, H3, I3, ry, q3⟩ =>
    thn (set_ok hu pins s3 σ H3 x y v u iv r _ I3 rx ry rv q3) fun _ s4 ⟨H4, I4, q4⟩ => ⟨σ, H4, I4, q4⟩) hs

/-! ### displays -/
theorem q_dnew {pos : Pos} : PE X (.Dict [] [] pos) (tE X.K P W fun env st => .ok (.loc st.length) (st ++ [.dK []])) := by
  refine ⟨fun pins s σ H Q I h => pe_dnewK.run pins s σ H Q I fun p hp => ?_⟩
  obtain ⟨M, env, st, sl, at_, q⟩ := h
  have s : Stp M H (M ++ [p]) (upd H p (.dK [])) := stp_loc hp
  refine q _ (M ++ [p]) _ s (at_.loc hp ⟨[], upd_same, dks_nil⟩) (dv_loc.mpr ⟨p, rfl, ?_⟩)
  rw [← at_.rel.len, List.getElem?_append_right (Nat.le_refl _), Nat.sub_self]
  rfl
abbrev FF := Ev → Sto → Res D
def pairsF : List (FF × FF) → Ev → Sto → Res (List (D × D))
  | [], _, st => .ok [] st
  | (fk, fv) :: r, env, st => (fk env st).bind fun k s1 => (fv env s1).bind fun v s2 => (pairsF r env s2).bind fun ps s3 => .ok ((k, v) :: ps) s3
def DPs (K : PySem.W.Frag) (M : List Addr) (H : Hp) (ds : List (D × D)) (ps : List (V × V)) : Prop := DVs K M H (ds.map (·.1)) (ps.map (·.1)) ∧ DVs K M H (ds.map (·.2)) (ps.map (·.2))
theorem q_pairs {σ : L2.St} : ∀ (l : List (FF × FF)) (H : Hp) (Q : List (V × V) → Hp → Prop), tG X.K P W (DPs X.K) (pairsF l) σ H Q → tPairs (l.map fun f => (tE X.K P W f.1, tE X.K P W f.2)) σ H Q
  | [], H, Q, ⟨M, env, st, sl, at_, p⟩ => p [] M H (Stp.refl _ _) at_ ⟨dvs_nil, dvs_nil⟩
  | (fk, fv) :: r, H, Q, ⟨M, env, st, sl, at_, p⟩ => by
    refine tG.go sl at_ p fun x H1 dx M1 st1 s1 a1 sl1 r1 p1 => tG.go sl1 a1 p1 fun y H2 dy M2 st2 s2 a2 sl2 r2 p2 => q_pairs r H2 _ (tG.go sl2 a2 p2 fun ps H3 ds M3 st3 s3 a3 sl3 r3 p3 => ?_)
    exact p3 ((x, y) :: ps) M3 H3 (Stp.refl _ _) a3 ⟨dvs_cons ((r1.mono a1.mok s2).mono a2.mok s3) r3.1, dvs_cons (r2.mono a2.mok s3) r3.2⟩
def keysD (ps : List (D × D)) : Option (List (Key × D)) := mapO (fun p => (keyD p.1).map fun k => (k, p.2)) ps
def dispEnd (n : Nat) (ps : List (D × D)) (st : Sto) : OD := match st[n]?, keysD ps with
  | some (.dK []), some kvs => if kvs.length ≤ 15 then some (.loc n, st.set n (.dK (mergeD [] kvs))) else none
  | _, _ => none
def dispF (l : List (FF × FF)) (env : Ev) (st : Sto) : Res D := (pairsF l env (st ++ [.dK []])).bind fun ps s1 => ofO (dispEnd st.length ps s1)
theorem keys_rel {M : List Addr} {H : Hp} : ∀ {ds : List (D × D)} {ps : List (V × V)} {kvs : List (Key × D)}, DPs X.K M H ds ps → keysD ds = some kvs → ∃ ks : List (Key × V), ps = ks.map (fun kv => (kV kv.1, kv.2)) ∧ DKs X.K M H kvs ks
  | [], ps, kvs, h, e => by
    obtain ⟨h1, _⟩ := h
    have := h1.nil_inv
    cases e
    cases ps with
    | nil => exact ⟨[], rfl, dks_nil⟩
    | cons _ _ => cases this
  | (dk, dv) :: ds, ps, kvs, h, e => by
    obtain ⟨h1, h2⟩ := h
    obtain ⟨x, xr, e1, r1, t1⟩ := h1.cons_inv
    obtain ⟨y, yr, e2, r2, t2⟩ := h2.cons_inv
    cases ps with
    | nil => cases e1
    | cons p ps =>
      rw [List.map_cons] at e1 e2
      cases e1
      cases e2
      unfold keysD mapO at e
      cases ek : keyD dk with
      | none => rw [ek] at e; cases e
      | some k =>
        rw [ek] at e
        cases er : keysD ds with
        | none =>
          unfold keysD at er
          rw [er] at e
          cases e
        | some kr =>
          obtain ⟨ks, e3, r3⟩ := keys_rel ⟨t1, t2⟩ er
          unfold keysD at er
          rw [er] at e
          cases e
          refine ⟨(k, p.2) :: ks, ?_, dks_cons r2 r3⟩
          rw [List.map_cons, e3, ← keyD_of r1 ek]
theorem DKs.len {M : List Addr} {H : Hp} {ds : List (Key × D)} {vs : List (Key × V)} (h : DKs X.K M H ds vs) : ds.length = vs.length := h.length
theorem q_disp {pos : Pos} {keys : List (Option Expr)} {values : List Expr} {l : List (FF × FF)} (h : PPs X pos keys values (l.map fun f => (tE X.K P W f.1, tE X.K P W f.2))) (hall : keys.all (·.isSome) = true) (hl : keys.length = values.length) (h0 : keys ≠ []) (h15 : keys.length ≤ 15) :
    PE X (.Dict keys values pos) (tE X.K P W (dispF l)) := by
  refine ⟨fun pins s σ H Q I q => (pe_disp h hall hl h0 h15).run pins s σ H Q I fun p hp => ?_⟩
  obtain ⟨M, env, st, sl, at_, pp⟩ := q
  have s0 : Stp M H (M ++ [p]) (upd H p (.dK [])) := stp_loc hp
  have a0 : At X.K P (M ++ [p]) (upd H p (.dK [])) (st ++ [.dK []]) := at_.loc hp ⟨[], upd_same, dks_nil⟩
  have hm : (M ++ [p])[st.length]? = some p := by
    rw [← at_.rel.len, List.getElem?_append_right (Nat.le_refl _), Nat.sub_self]
    rfl
  refine q_pairs l _ _ (tG.go (sl.mono at_.mok s0) a0 (Post.step s0 pp) fun ps H3 ds M3 st3 s3 a3 sl3 r3 p3 => ?_)
  have p3 := p3.toO
  unfold dispEnd at p3
  split at p3
  · rename_i kvs e1 e2
    split at p3
    · rename_i h15'
      have hm3 := s3.get hm
      obtain ⟨p', vs, k1, k2, k3⟩ := a3.dK e1
      rw [hm3] at k1
      cases k1
      have : vs = [] := by unfold DKs at k3; exact k3
      subst this
      obtain ⟨ks, e3, r4⟩ := keys_rel r3 e2
      refine ⟨k2, ks, e3, by rw [← r4.length]; exact h15', ?_⟩
      obtain ⟨d', st', e', kk⟩ := p3
      cases e'
      have st4 : Stp M3 H3 M3 (upd H3 p (.dK (mergeK [] ks))) := stp_set hm3 (nt_mut (.inr (.inl ⟨_, rfl⟩)))
      exact kk _ M3 _ st4 (a3.set hm3 ⟨_, upd_same, (merge_rel r4 dks_nil).mono a3.mok st4⟩) (dv_loc.mpr ⟨p, rfl, hm3⟩)
    · exact p3.not.elim
  · exact p3.not.elim

/-! ### d.get(k, x) -/
def getD2 : D → D → D → Sto → OD
  | .loc n, k, x, st => match st[n]?, keyD k with
    | some (.dK kvs), some k => some ((lookD kvs k).getD x, st)
    | _, _ => none
  | _, _, _, _ => none
def isDk (d : D) (st : Sto) : Bool := match d with
  | .loc n => match st[n]? with
    | some (.dK _) => true
    | _ => false
  | _ => false
def getF (Fo Fk Fx : FF) : FF := fun env st => (Fo env st).bind fun o s1 => if isDk o s1 = true then (Fk env s1).bind fun k s2 => (Fx env s2).bind fun x s3 => ofO (getD2 o k x s3) else .err
theorem q_get2 {o e f : Expr} {apos cpos : Pos} {Fo Fk Fx : FF} (hu : X.A.units + 64 < cLine) (ho : PE X o (tE X.K P W Fo)) (he : PE X e (tE X.K P W Fk)) (hf : PE X f (tE X.K P W Fx)) (m : M2 X o "get" apos e f cpos) :
    PE X (.Call (.Attribute o "get" apos) [e, f] [] cpos) (tE X.K P W (getF Fo Fk Fx)) := by
  refine ⟨fun pins s σ H Q I h => (pe_dget2 (by omega) ho he hf m).run pins s σ H Q I ?_⟩
  obtain ⟨M, env, st, sl, at_, pp⟩ := h
  refine tG.go sl at_ pp fun x H1 d M1 st1 s1 a1 sl1 r1 p1 => ?_
  split at p1
  · rename_i hd
    unfold isDk at hd
    split at hd
    · rename_i n
      split at hd
      · rename_i kvs e1
        obtain ⟨p, rfl, hm⟩ := dv_loc.mp r1
        obtain ⟨p', vs, k1, k2, k3⟩ := a1.dK e1
        rw [hm] at k1
        cases k1
        refine ⟨p, rfl, .inl ⟨vs, Rd.of k2⟩, tG.go sl1 a1 p1 fun y H2 dy M2 st2 s2 a2 sl2 r2 p2 => tG.go sl2 a2 p2 fun z H3 dz M3 st3 s3 a3 sl3 r3 p3 => ?_⟩
        have p3 := p3.toO
        simp only [getD2] at p3
        split at p3
        · rename_i kvs3 kk e3 e4
          obtain ⟨p2, vs3, k4, k5, k6⟩ := a3.dK e3
          rw [s3.get (s2.get hm)] at k4
          cases k4
          refine ⟨valV vs3 kk, .inl ⟨vs3, kk, Rd.of k5, keyD_of (r2.mono a2.mok s3) e4, rfl⟩, ?_⟩
          cases el : lookD kvs3 kk with
          | none =>
            rw [el] at p3
            rw [(look_rel k6).2 el]
            exact p3.pure a3 r3
          | some d3 =>
            rw [el] at p3
            obtain ⟨v3, e5, r5⟩ := (look_rel k6).1 d3 el
            rw [e5]
            exact p3.pure a3 r5
        · exact p3.not.elim
      · cases hd
    · cases hd
  · exact p1.elim
end
end Q
end

section
set_option Elab.async false
set_option linter.all false
set_option maxRecDepth 100000
set_option maxHeartbeats 1000000
set_option autoImplicit false
/-! List comprehensions with one clause, by data. -/
namespace Q
open PySem PySem.Spec PyProof.Rows L2
/-! ### targets of a block: what is not the block's own stays -/
def PostPv (K : PySem.W.Frag) (P : Par) (vs : List Nat) (σ : L2.St) (M : List Addr) (H : Hp) (st : Sto) (r : Option Ev) (Q : L2.St → Hp → Prop) : Prop := ∃ env', r = some env' ∧ ∀ (σ' : L2.St) (M' : List Addr) (H' : Hp), Stp M H M' H' → At K P M' H' st → EvR K P M' H' σ' env' → wipe σ' vs = wipe σ vs → Q σ' H'
def tPv (K : PySem.W.Frag) (P : Par) (vs : List Nat) (g : D → Ev → Option Ev) : TG := fun v σ H Q => ∃ (M : List Addr) (env : Ev) (st : Sto) (d : D), EvR K P M H σ env ∧ At K P M H st ∧ DV K M H d v ∧ PostPv K P vs σ M H st (g d env) Q
def tPvs (K : PySem.W.Frag) (P : Par) (ws : List Nat) (g : List D → Ev → Option Ev) : TGs := fun vs σ H Q => ∃ (M : List Addr) (env : Ev) (st : Sto) (ds : List D), EvR K P M H σ env ∧ At K P M H st ∧ DVs K M H ds vs ∧ PostPv K P ws σ M H st (g ds env) Q
theorem wipe_set {σ : L2.St} {i : Nat} {x : Option V} : ∀ {vs : List Nat}, i ∈ vs → wipe (σ.set i x) vs = wipe σ vs
  | v :: vs, h => by
    unfold wipe
    by_cases hi : i ∈ vs
    · rw [wipe_set hi]
    · have hv : i = v := by
        rcases List.mem_cons.mp h with h | h
        · exact h
        · exact absurd h hi
      subst hv
      have key : ∀ ws : List Nat, i ∉ ws → wipe (σ.set i x) ws = (wipe σ ws).set i x := by
        intro ws
        induction ws with
        | nil => intro _; rfl
        | cons w ws ih =>
          intro hn
          rw [List.mem_cons, not_or] at hn
          unfold wipe
          rw [ih hn.2, List.set_comm _ _ hn.1]
      rw [key vs hi, List.set_set]
section
variable {X : Cx} {P : Par} {pos : Pos} {vs : List Nat}
theorem q_pvn {i : Nat} {x : Str} (hv : i ∈ vs) (hN : X.N.Nodup) (hi : X.N[i]? = some x) (hx : Loc X.env.scope x) (hf : X.fn x = true ∨ X.env.scope.names.lookup x = some .local) : PG X (.Name x pos) (tPv X.K P vs (gNm i)) := by
  refine ⟨fun pins s σ H v u Q I r h => (pg_name hN hi hx hf).run pins s σ H v u Q I r ?_⟩
  obtain ⟨M, env, st, d, sl, at_, rd, env', e, k⟩ := h
  cases e
  exact k _ M H (Stp.refl _ _) at_ (sl.set rd) (wipe_set hv)
theorem q_pvnil : PGs X [] (tPvs X.K P vs gsNil) := by
  refine ⟨fun pins s σ H ws us Q I r h => pgs_nil.run pins s σ H ws us Q I r ?_⟩
  obtain ⟨M, env, st, ds, sl, at_, rd, env', e, k⟩ := h
  cases ds with
  | nil =>
    cases e
    exact ⟨rd.nil_inv, k _ M H (Stp.refl _ _) at_ sl rfl⟩
  | cons _ _ => cases e
theorem q_pvcons {t : Expr} {ts : List Expr} {g : D → Ev → Option Ev} {gs : List D → Ev → Option Ev} (h1 : PG X t (tPv X.K P vs g)) (h2 : PGs X ts (tPvs X.K P vs gs))
    (hs : (assignEach (t :: ts) X.env).map (·.2) = assign t X.env :: (assignEach ts X.env).map (·.2)) : PGs X (t :: ts) (tPvs X.K P vs (gsCons g gs)) := by
  refine ⟨fun pins s σ H ws us Q I r h => (pgs_cons h1 h2 hs).run pins s σ H ws us Q I r ?_⟩
  obtain ⟨M, env, st, ds, sl, at_, rd, env', e, k⟩ := h
  cases ds with
  | nil => cases e
  | cons d ds =>
    obtain ⟨v, vr, rfl, r1, r2⟩ := rd.cons_inv
    cases e1 : g d env with
    | none => simp only [gsCons, e1, Option.bind_none] at e; cases e
    | some env1 =>
      simp only [gsCons, e1, Option.bind_some] at e
      exact ⟨v, vr, rfl, M, env, st, d, sl, at_, r1, env1, e1, fun σ' M' H' s1 a1 sl1 w1 => ⟨M', env1, st, ds, sl1, a1, r2.mono at_.mok s1, env', e, fun σ2 M2 H2 s2 a2 sl2 w2 => k σ2 M2 H2 (s1.trans s2) a2 sl2 (w2.trans w1)⟩⟩
theorem q_pvtup {ts : List Expr} {k n : Nat} {gs : List D → Ev → Option Ev} (hc : X.calm = true) (h : PGs X ts (tPvs X.K P vs gs)) (hn : (assignEach ts X.env).length = n) (hst : (assignEach ts X.env).findIdx? (·.1) = none) : PG X (.Tuple ts k pos) (tPv X.K P vs (gTp gs n)) := by
  refine ⟨fun pins s σ H v u Q I r hh => (pg_tup hc h hn hst).run pins s σ H v u Q I r ?_⟩
  obtain ⟨M, env, st, d, sl, at_, rd, env', e, kk⟩ := hh
  cases d with
  | tup ds =>
    simp only [gTp] at e
    split at e
    · rename_i hl
      obtain ⟨a, ws, rfl, h1, h2⟩ := dv_tup.mp rd
      exact ⟨a, ws, rfl, h1, by rw [← h2.length]; exact hl, M, env, st, ds, sl, at_, h2, env', e, kk⟩
    · cases e
  | _ => cases e
end

/-! ### the comprehension -/
def wipeE (env : Ev) : List Nat → Ev
  | [] => env
  | v :: vs => (wipeE env vs).set v none
theorem EvR.wipe {K : PySem.W.Frag} {P : Par} {M : List Addr} {H : Hp} {σ : L2.St} {env : Ev} (h : EvR K P M H σ env) : ∀ vs : List Nat, EvR K P M H (L2.wipe σ vs) (wipeE env vs)
  | [] => h
  | v :: vs => by
    unfold L2.wipe wipeE
    exact (EvR.wipe h vs).none v
def lcLoop (it : ItD) (g : D → Ev → Option Ev) (T : Ev → Sto → Res Bool) (Fe : Ev → Sto → Res D) (env : Ev) (n0 : Nat) : Nat → Nat → Sto → Option Sto
  | 0, _, st => if it.fin st = true then some st else none
  | k + 1, i, st => match it.item i st with
    | none => none
    | some d => match g d env with
      | none => none
      | some env1 => match T env1 st with
        | .ok true st1 => match Fe env1 st1 with
          | .ok y st2 => match lenAt n0 st2 with
            | some acc => if acc.length < 100000 then lcLoop it g T Fe env n0 k (i + 1) (st2.set n0 (.lst (acc ++ [y]))) else none
            | none => none
          | _ => none
        | .ok false st1 => lcLoop it g T Fe env n0 k (i + 1) st1
        | _ => none
def lcEnd (it : ItD) (g : D → Ev → Option Ev) (T : Ev → Sto → Res Bool) (Fe : Ev → Sto → Res D) (env : Ev) (st : Sto) : Res D := match lcLoop it g T Fe env st.length it.n 0 (st ++ [.lst []]) with
  | some st' => .ok (.loc st.length) st'
  | none => .err
def lcF (Fi : Ev → Sto → Res ItD) (g : D → Ev → Option Ev) (T : Ev → Sto → Res Bool) (Fe : Ev → Sto → Res D) (vs : List Nat) (env : Ev) (st : Sto) : Res D := (Fi env st).bind fun it s1 => lcEnd it g T Fe (wipeE env vs) s1
section
variable {X : Cx} {P : Par} {W : WX} {Fi : Ev → Sto → Res ItD} {g : D → Ev → Option Ev} {T : Ev → Sto → Res Bool} {Fe : Ev → Sto → Res D} {vs : List Nat}
theorem lc_read {σ : L2.St} {H : Hp} {Q : VK} (h : tE X.K P W (lcF Fi g T Fe vs) σ H Q) : tLc (tI X.K P W Fi) (tPv X.K P vs g) (tT X.K P W0 T) (tE X.K P W0 Fe) vs σ H Q := by
  obtain ⟨M, env, st, sl, at_, p⟩ := h
  refine tG.go sl at_ p fun J H1 it M1 st1 s1 a1 sl1 r1 p1 => fun Da hD => ?_
  unfold lcEnd at p1
  have s2 : Stp M1 H1 (M1 ++ [Da]) (upd H1 Da (.lst [])) := stp_loc hD
  have a2 : At X.K P (M1 ++ [Da]) (upd H1 Da (.lst [])) (st1 ++ [.lst []]) := a1.loc hD ⟨[], upd_same, dvs_nil⟩
  have hm : (M1 ++ [Da])[st1.length]? = some Da := by
    rw [← a1.rel.len, List.getElem?_append_right (Nat.le_refl _), Nat.sub_self]
    rfl
  cases e0 : lcLoop it g T Fe (wipeE env vs) st1.length it.n 0 (st1 ++ [.lst []]) with
  | none => rw [e0] at p1; exact p1.elim
  | some stE =>
    rw [e0] at p1
    have p1 : ∀ (b : V) (M' : List Addr) (H' : Hp), Stp M1 H1 M' H' → At X.K P M' H' stE → DV X.K M' H' (.loc st1.length) b → Q b H' := p1
    refine ⟨fun i m H => m = it.n - i ∧ i ≤ it.n ∧ ∃ M st, Stp (M1 ++ [Da]) (upd H1 Da (.lst [])) M H ∧ At X.K P M H st ∧ lcLoop it g T Fe (wipeE env vs) st1.length (it.n - i) i st = some stE, ⟨it.n, rfl, Nat.zero_le _, _, _, Stp.refl _ _, a2, e0⟩, ?_⟩
    rintro i m H2 ⟨rfl, hle, M2, st2, s3, a3, e1⟩
    have ok := r1 i M2 H2 st2 (s2.trans s3) a3
    by_cases hlt : i < it.n
    · refine .inr ?_
      obtain ⟨k, hk⟩ : ∃ k, it.n - i = k + 1 := ⟨it.n - i - 1, by omega⟩
      have hk2 : it.n - (i + 1) = k := by omega
      rw [hk, lcLoop] at e1
      cases e2 : it.item i st2 with
      | none => rw [e2] at e1; cases e1
      | some d =>
        rw [e2] at e1
        dsimp only at e1
        cases e3 : g d (wipeE env vs) with
        | none => rw [e3] at e1; cases e1
        | some env1 =>
          rw [e3] at e1
          dsimp only at e1
          obtain ⟨go, yl⟩ := ok.1 d hlt e2
          refine ⟨go, fun H' => ∃ M st, Stp (M1 ++ [Da]) (upd H1 Da (.lst [])) M H' ∧ At X.K P M H' st ∧ lcLoop it g T Fe (wipeE env vs) st1.length k (i + 1) st = some stE, fun H' hn => ⟨it.n - (i + 1), by omega, rfl, hlt, by rw [hk2]; exact hn⟩, fun x H' y => ?_⟩
          obtain ⟨M3, s4, a4, r4⟩ := yl x H' y
          have sW : EvR X.K P M3 H' (wipe σ vs) (wipeE env vs) := (((sl1.mono a1.mok s2).mono a2.mok s3).mono a3.mok s4).wipe vs
          refine ⟨M3, wipeE env vs, st2, d, sW, a4, r4, env1, e3, fun σ4 M4 H4 s5 a5 sl5 w5 => ⟨?_, M4, env1, st2, sl5, a5, ?_⟩⟩
          · rw [w5]
            have idem : ∀ ws : List Nat, wipe (wipe σ ws) ws = wipe σ ws := by
              intro ws
              have key : ∀ (us ws : List Nat) (τ : L2.St), (∀ u ∈ us, u ∈ ws) → wipe (wipe τ us) ws = wipe τ ws := by
                intro us
                induction us with
                | nil => intro ws τ _; rfl
                | cons u us ih =>
                  intro ws τ hsub
                  show wipe ((wipe τ us).set u none) ws = _
                  rw [wipe_set (hsub u (List.mem_cons_self ..))]
                  exact ih ws τ fun v hv => hsub v (List.mem_cons_of_mem _ hv)
              exact key ws ws σ fun u hu => hu
            exact idem vs
          have s15 : Stp (M1 ++ [Da]) (upd H1 Da (.lst [])) M4 H4 := (s3.trans s4).trans s5
          cases e4 : T env1 st2 with
          | exc c d s => rw [e4] at e1; cases e1
          | err => rw [e4] at e1; cases e1
          | ok b st5 =>
            rw [e4] at e1
            intro b' M5 H5 s6 a6 hb
            subst hb
            cases b with
            | false =>
              rw [if_neg Bool.false_ne_true]
              exact ⟨M5, st5, s15.trans s6, a6, e1⟩
            | true =>
              rw [if_pos rfl]
              dsimp only at e1
              cases e5 : Fe env1 st5 with
              | exc c d s => rw [e5] at e1; cases e1
              | err => rw [e5] at e1; cases e1
              | ok y6 st6 =>
                rw [e5] at e1
                dsimp only at e1
                refine ⟨M5, env1, st5, sl5.mono a5.mok s6, a6, ?_⟩
                rw [e5]
                intro v6 M6 H6 s7 a7 r7
                cases e6 : lenAt st1.length st6 with
                | none => rw [e6] at e1; cases e1
                | some acc =>
                  rw [e6] at e1
                  dsimp only at e1
                  split at e1
                  · rename_i hacc
                    have s17 := (s15.trans s6).trans s7
                    obtain ⟨p', vs', k1, k2, k3⟩ := a7.lst (lenAt_of e6)
                    rw [s17.get hm] at k1
                    cases k1
                    have s8 : Stp M6 H6 M6 (upd H6 Da (.lst (vs' ++ [v6]))) := stp_set (s17.get hm) nt_lst
                    exact ⟨vs', k2, by rw [← k3.length, sizeLine_eq]; omega, M6, _, s17.trans s8, a7.set (ob := .lst (acc ++ [y6])) (s17.get hm) ⟨_, upd_same, (k3.append (dvs_cons r7 dvs_nil)).mono a7.mok s8⟩, e1⟩
                  · cases e1
    · have e9 : it.n - i = 0 := by omega
      rw [e9, lcLoop] at e1
      split at e1
      · rename_i hf
        cases e1
        exact .inl ⟨ok.2 (by omega) hf, p1 _ M2 H2 (s2.trans s3) a3 (dv_loc.mpr ⟨Da, rfl, s3.get hm⟩)⟩
      · cases e1
variable {elt tg iter : Expr} {ifs : List Expr} {scope : Scope} {own : List (Str × Nat)} {pos : Pos}
theorem q_lc (hc : X.calm = true) (hN : X.N.Nodup) (hi : PI X tg iter (tI X.K P W Fi)) (ok : BlkOk X.N X.env.scope scope own)
    (hg : ∀ (s : Shared) (H : Hp) (C : Addr) (cl : List (Str × Addr)) (fp : List Addr), PG (X.blk s H scope (compEnvC scope cl C X.env) fp) tg (tPv X.K P (own.map (·.2)) g)) (ht : ∀ (s : Shared) (H : Hp) (C : Addr) (cl : List (Str × Addr)) (fp : List Addr), PTs (X.blk s H scope (compEnvC scope cl C X.env) fp) ifs (tT X.K P W0 T))
    (he : ∀ (s : Shared) (H : Hp) (C : Addr) (cl : List (Str × Addr)) (fp : List Addr), PE (X.blk s H scope (compEnvC scope cl C X.env) fp) elt (tE X.K P W0 Fe)) (hs : ∀ x, foldedSetIterable iter X.env x = pure x) :
    PE X (.ListComp elt [⟨tg, iter, ifs, 0⟩] scope pos) (tE X.K P W (lcF Fi g T Fe (own.map (·.2)))) :=
  ⟨fun pins s σ H Q I h => (pe_lc hc hN hi ok hg ht he hs).run pins s σ H Q I (lc_read h)⟩
theorem q_setLc {i : Nat} {y : Str} {py spos : Pos} (hc : X.calm = true) (hN : X.N.Nodup) (hy : X.N[i]? = some y) (hyl : X.env.scope.names.lookup y = some .local) (hsw : swapsWith (.ListComp elt [⟨tg, iter, ifs, 0⟩] scope pos) (some (.Name y py)) spos.line X.env = pure true)
    (hi : PI X tg iter (tI X.K P W Fi)) (ok : BlkOk X.N X.env.scope scope own)
    (hg : ∀ (s : Shared) (H : Hp) (C : Addr) (cl : List (Str × Addr)) (fp : List Addr), PG (X.blk s H scope (compEnvC scope cl C X.env) fp) tg (tPv X.K P (own.map (·.2)) g)) (ht : ∀ (s : Shared) (H : Hp) (C : Addr) (cl : List (Str × Addr)) (fp : List Addr), PTs (X.blk s H scope (compEnvC scope cl C X.env) fp) ifs (tT X.K P W0 T))
    (he : ∀ (s : Shared) (H : Hp) (C : Addr) (cl : List (Str × Addr)) (fp : List Addr), PE (X.blk s H scope (compEnvC scope cl C X.env) fp) elt (tE X.K P W0 Fe)) (hs : ∀ x, foldedSetIterable iter X.env x = pure x) :
    PS X (.Assign [.Name y py] (.ListComp elt [⟨tg, iter, ifs, 0⟩] scope pos) spos) (tS X.K P W fun env st => (lcF Fi g T Fe (own.map (·.2)) env st).then env fun d s1 => .nx (env.set i (some d)) s1) := by
  refine ⟨fun pins s σ H De I h => (ps_setLc hc hN hy hyl hsw hi ok hg ht he hs).run pins s σ H De I (lc_read ?_)⟩
  obtain ⟨M, env, st, sl, at_, p⟩ := h
  exact tG.goS sl at_ p fun x H1 d M1 st1 s1 a1 sl1 r1 p1 => p1 (σ.set i (some x)) M1 H1 (Stp.refl _ _) a1 (sl1.set r1)
theorem q_tsnil : PTs X [] (tT X.K P W fun _ st => .ok true st) := by
  refine ⟨fun pins s σ H Q I h => pts_nil.run pins s σ H Q I ?_⟩
  obtain ⟨M, env, st, sl, at_, p⟩ := h
  exact p true M H (Stp.refl _ _) at_ rfl
theorem q_tsone {c : Expr} {Tc : Ev → Sto → Res Bool} (h : PT X c (tT X.K P W Tc)) : PTs X [c] (tT X.K P W Tc) := pts_one h
end
end Q
end

section
set_option Elab.async false
set_option linter.all false
set_option maxRecDepth 100000
set_option maxHeartbeats 1000000
set_option autoImplicit false
/-! Further operators and builtins. -/
namespace Q
open PySem PySem.Spec PyProof.Rows L2
section
variable {X : Cx} {P : Par} {W : WX}
def negD : D → Sto → OD
  | .int i, st => some (.int (-i), st)
  | _, _ => none
theorem neg_ok : UnR X (unaryOp .USub) (rD1 X.K P negD) := by
  intro pins s σ H x u Q I r h
  obtain ⟨M, st, d, a, rd, p⟩ := h
  unfold negD at p
  split at p
  · cases dv_int.mp rd
    exact un_neg pins s σ H _ u Q I r ⟨_, rfl, p.int a⟩
  · exact p.not.elim
def ltD : D → D → Sto → OD := int2b fun i j => decide (i < j)
def leD : D → D → Sto → OD := int2b fun i j => decide (i ≤ j)
def gtD : D → D → Sto → OD := int2b fun i j => decide (j < i)
def geD : D → D → Sto → OD := int2b fun i j => decide (j ≤ i)
theorem lt_ok : OpR X (compareOp .Lt) (rD2 X.K P ltD) := int2b_ok op_lt
theorem le_ok : OpR X (compareOp .LtE) (rD2 X.K P leD) := int2b_ok op_le
theorem gt_ok : OpR X (compareOp .Gt) (rD2 X.K P gtD) := int2b_ok op_gt
theorem ge_ok : OpR X (compareOp .GtE) (rD2 X.K P geD) := int2b_ok op_ge
def strD : List D → Sto → OD
  | [.int i], st => if i.natAbs.log2 < 1920 then some (.str (toString i : String), st) else none
  | [.bl b], st => some (.str (if b then "True" else "False"), st)
  | [.non], st => some (.str "None", st)
  | [.str x], st => some (.str x, st)
  | _, _ => none
theorem str_ok : CallR X (.type "str") (rDL X.K P strD) := by
  intro pins s σ H xs us Q I r h
  obtain ⟨M, st, ds, a, rd, p⟩ := h
  unfold strD at p
  split at p
  · obtain ⟨v, rfl, h1⟩ := one_of rd
    rw [dv_int.mp h1] at r
    split at p
    · rename_i hz
      exact call_str_int pins s σ H _ us Q I r ⟨_, rfl, hz, p.str a⟩
    · exact p.not.elim
  · obtain ⟨v, rfl, h1⟩ := one_of rd
    rw [dv_bl.mp h1] at r
    obtain ⟨u, rfl, ru⟩ := vals_one r
    cases ru
    exact PySem.P.str_of_bool ⟨.str _, H, I.tok _, ⟨_, rfl⟩, p.str a⟩
  · obtain ⟨v, rfl, h1⟩ := one_of rd
    rw [dv_non.mp h1] at r
    obtain ⟨u, rfl, ru⟩ := vals_one r
    cases ru
    exact PySem.P.str_of_none ⟨.str _, H, I.tok _, ⟨_, rfl⟩, p.str a⟩
  · obtain ⟨v, rfl, h1⟩ := one_of rd
    rw [dv_str.mp h1] at r
    obtain ⟨u, rfl, t, rfl⟩ := vals_one r
    exact PySem.P.str_of_str ⟨.str _, H, I, ⟨_, rfl⟩, p.str a⟩
  · exact p.not.elim
end
end Q
end

section
set_option Elab.async false
set_option linter.all false
set_option maxRecDepth 100000
set_option maxHeartbeats 1000000
set_option autoImplicit false
/-! A small syntax, and what it does. -/
namespace Q
open PySem PySem.Spec PyProof.Rows L2
inductive Op where | add | sub | mul | fdiv | mod | pow | shl | shr
  deriving DecidableEq
inductive Cm where | eq | ne | lt | le | gt | ge
  deriving DecidableEq
inductive Bf where | len | int | abs | gcd | list | tuple | max2 | min2 | repr | str
  deriving DecidableEq
inductive Mt where | append | pop
  deriving DecidableEq
mutual
inductive Tg where | nm (i : Nat) | tp (l : TgL)
inductive TgL where | nil | cons (t : Tg) (l : TgL)
end
mutual
inductive E where
  | var (i : Nat) | non | bl (b : Bool) | int (i : Int) | str (x : Str)
  | op (o : Op) (a b : E) | cmp (o : Cm) (a b : E) | chain (o p : Cm) (a b c : E)
  | and (a b : E) | or (a b : E) | not (a : E) | neg (a : E) | ite (c a b : E)
  | tup (es : EL) | lst (es : EL) | ix (a b : E) | sl (a : E) (lo hi : OE) | rev (a : E)
  | blt (f : Bf) (es : EL) | isi (a : E) (t : Ty) | call (f : Nat) (es : EL) | callK (f n : Nat) (ix : List Nat) (es ks : EL)
  | mt (m : Mt) (o : E) (es : EL) | get2 (o k x : E) | dict (ps : PL)
  | lc (it : IT) (tg : Tg) (t : OE) (e : E) (vs : List Nat)
  | lam (h : Nat) (e : E) | thunk | thing (i : Nat) (f : Str)
inductive EL where | nil | cons (e : E) (es : EL)
inductive PL where | nil | cons (k v : E) (r : PL)
inductive OE where | none | some (e : E)
inductive IT where | val (e : E) | r1 (a : E) | r2 (a b : E) | r3 (a b c : E) | rev1 (a : E)
end
mutual
inductive S where
  | expr (e : E) | ret (e : E) | retN | set (i : Nat) (e : E) | asg (t : Tg) (e : E) | par2 (i j : Nat) (a b : E) | par3 (i j l : Nat) (a b c : E)
  | put (o i v : E) | ite (c : E) (a b : SL) | for (t : Tg) (it : IT) (b : SL) | while (c : E) (b : SL) | brk | cont | pass | raise (c : Nat) (e : E) | tr (b : SL) (hs : HL)
inductive SL where | nil | cons (s : S) (r : SL)
inductive HL where | nil | cons (cs : List Nat) (i : Option Nat) (su : SL) (r : HL)
end

/-- what an evaluation leans on -/
structure Ctx where
  ft : Nat → List D → Sto → Res D
  hf : Nat → (Sto → Res D) → Sto → Res D
  th : Sto → Res D
  fuel : Nat
  sub : Nat → Nat → Bool
  fn : Nat → Str
  ex : Option (Nat × D)
def opD : Op → D → D → Sto → OD
  | .add => addD | .sub => subD | .mul => mulD | .fdiv => int2 fdivI | .mod => int2 modI | .pow => int2 powI | .shl => int2 shlI | .shr => int2 shrI
def cmD : Cm → D → D → Sto → OD
  | .eq => eqD | .ne => neD | .lt => ltD | .le => leD | .gt => gtD | .ge => geD
def bfD : Bf → List D → Sto → OD
  | .len => lenD | .int => intD | .abs => absD | .gcd => gcdD | .list => listD | .tuple => tupleD | .max2 => max2D | .min2 => min2D | .repr => reprD | .str => strD
def mtD : Mt → D → List D → Sto → OD
  | .append => appD | .pop => popD
mutual
def gT : Tg → D → Ev → Option Ev
  | .nm i => gNm i
  | .tp l => gTp (gTs l) (lT l)
def gTs : TgL → List D → Ev → Option Ev
  | .nil => gsNil
  | .cons t l => gsCons (gT t) (gTs l)
def lT : TgL → Nat
  | .nil => 0
  | .cons _ l => lT l + 1
end
def thingR (C : Ctx) (i : Nat) (f : Str) : Ev → Sto → Res D := match C.ex with
  | some (c, d) => thingF i (decide (f = C.fn c)) d
  | none => fun _ _ => .err
mutual
def evE (C : Ctx) : E → Ev → Sto → Res D
  | .var i => vGet i
  | .non => fun _ st => .ok .non st
  | .bl b => fun _ st => .ok (.bl b) st
  | .int i => fun _ st => .ok (.int i) st
  | .str x => fun _ st => .ok (.str x) st
  | .op o a b => fun env st => (evE C a env st).bind fun x s1 => (evE C b env s1).bind fun y s2 => ofO (opD o x y s2)
  | .cmp o a b => fun env st => (evE C a env st).bind fun x s1 => (evE C b env s1).bind fun y s2 => ofO (cmD o x y s2)
  | .chain o p a b c => fChain (cmD o) (cmD p) (evE C a) (evE C b) (evE C c)
  | .and a b => fAnd (evE C a) (evE C b)
  | .or a b => fOr (evE C a) (evE C b)
  | .not a => fNot (evE C a)
  | .neg a => fun env st => (evE C a env st).bind fun x s1 => ofO (negD x s1)
  | .ite c a b => fIf (evT C c) (evE C a) (evE C b)
  | .tup es => fun env st => (evL C es env st).bind fun ds s1 => ofO (mkTup ds s1)
  | .lst es => fun env st => (evL C es env st).bind fun ds s1 => ofO (mkLst ds s1)
  | .ix a b => fun env st => (evE C a env st).bind fun x s1 => (evE C b env s1).bind fun y s2 => ofO (ixD x y s2)
  | .sl a lo hi => fun env st => (evE C a env st).bind fun d s1 => (evO C lo env s1).bind fun l s2 => (evO C hi env s2).bind fun u s3 => ofO (slD d l u s3)
  | .rev a => fun env st => (evE C a env st).bind fun d s1 => ofO (revD d s1)
  | .blt f es => fun env st => (evL C es env st).bind fun ds s1 => ofO (bfD f ds s1)
  | .isi a t => fun env st => (evE C a env st).bind fun d s1 => ofO (isiD [t] d s1)
  | .call f es => fun env st => (evL C es env st).bind (C.ft f)
  | .callK f n ix es ks => fun env st => (evL C es env st).bind fun ds s1 => (evL C ks env s1).bind fun ws s2 => if ds.length = n then C.ft f (pick ix (ds ++ ws)) s2 else .err
  | .mt m o es => fMt (evE C o) (evL C es) (mtD m)
  | .get2 o k x => getF (evE C o) (evE C k) (evE C x)
  | .dict .nil => fun _ st => .ok (.loc st.length) (st ++ [.dK []])
  | .dict (.cons k v r) => dispF ((evE C k, evE C v) :: evP C r)
  | .lc it tg t e vs => lcF (evI C it) (gT tg) (evOT C t) (evE C e) vs
  | .lam h e => fun env st => C.hf h (fun s => evE C e env s) st
  | .thunk => thF C.th
  | .thing i f => thingR C i f
def evT (C : Ctx) : E → Ev → Sto → Res Bool
  | .cmp o a b => fBl fun env st => (evE C a env st).bind fun x s1 => (evE C b env s1).bind fun y s2 => ofO (cmD o x y s2)
  | .chain o p a b c => fBl (fChain (cmD o) (cmD p) (evE C a) (evE C b) (evE C c))
  | .and a b => gAnd (evT C a) (evT C b)
  | .or a b => gOr (evT C a) (evT C b)
  | .not a => gNot (evT C a)
  | .ite c a b => gIf (evT C c) (evT C a) (evT C b)
  | .var i => fTru (vGet i)
  | .bl b => fTru fun _ st => .ok (.bl b) st
  | .call f es => fTru fun env st => (evL C es env st).bind (C.ft f)
  | .isi a t => fTru fun env st => (evE C a env st).bind fun d s1 => ofO (isiD [t] d s1)
  | .ix a b => fTru fun env st => (evE C a env st).bind fun x s1 => (evE C b env s1).bind fun y s2 => ofO (ixD x y s2)
  | _ => fun _ _ => .err
def evL (C : Ctx) : EL → Ev → Sto → Res (List D)
  | .nil => fun _ st => .ok [] st
  | .cons e es => fun env st => (evE C e env st).bind fun d s1 => (evL C es env s1).bind fun ds s2 => .ok (d :: ds) s2
def evP (C : Ctx) : PL → List (FF × FF)
  | .nil => []
  | .cons k v r => (evE C k, evE C v) :: evP C r
def evO (C : Ctx) : OE → Ev → Sto → Res (Option Int)
  | .none => fun _ st => .ok none st
  | .some e => fun env st => (evE C e env st).bind partD
def evOT (C : Ctx) : OE → Ev → Sto → Res Bool
  | .none => fun _ st => .ok true st
  | .some e => evT C e
def evI (C : Ctx) : IT → Ev → Sto → Res ItD
  | .val e => fun env st => (evE C e env st).bind itD
  | .r1 a => fun env st => ((evE C a env st).bind fun d s1 => .ok [d] s1).bind rng1
  | .r2 a b => fun env st => ((evE C a env st).bind fun d s1 => ((evE C b env s1).bind fun e s2 => .ok [e] s2).bind fun ds s2 => .ok (d :: ds) s2).bind rng2
  | .r3 a b c => fun env st => ((evE C a env st).bind fun d s1 => ((evE C b env s1).bind fun e s2 => ((evE C c env s2).bind fun f s3 => .ok [f] s3).bind fun ds s3 => .ok (e :: ds) s3).bind fun ds s2 => .ok (d :: ds) s2).bind rng3
  | .rev1 a => fun env st => (evE C a env st).bind rev1
end
def evPar : List D → List Nat → Ev → Option Ev
  | [], [], env => some env
  | d :: ds, i :: is, env => evPar ds is (env.set i (some d))
  | _, _, _ => none
mutual
def evS (C : Ctx) : S → Ev → Sto → SR
  | .expr e => fun env st => (evE C e env st).then env fun _ s1 => .nx env s1
  | .ret e => fun env st => (evE C e env st).then env fun d s1 => .rt d s1
  | .retN => fun env st => .rt .non st
  | .set i e => fun env st => (evE C e env st).then env fun d s1 => .nx (env.set i (some d)) s1
  | .asg t e => fun env st => (evE C e env st).then env fun d s1 => ofEv (gT t d env) s1
  | .par2 i j a b => fun env st => (evE C a env st).then env fun x s1 => (evE C b env s1).then env fun y s2 => .nx ((env.set i (some x)).set j (some y)) s2
  | .par3 i j l a b c => fun env st => (evE C a env st).then env fun x s1 => (evE C b env s1).then env fun y s2 => (evE C c env s2).then env fun z s3 => .nx (((env.set i (some x)).set j (some y)).set l (some z)) s3
  | .put o i v => fun env st => (evE C v env st).then env fun v s1 => (evE C o env s1).then env fun o s2 => (evE C i env s2).then env fun i s3 => ofSt (setD o i v s3) env
  | .ite c a b => fun env st => (evT C c env st).then env fun k s1 => if k = true then evSs C a env s1 else evSs C b env s1
  | .for t it b => fun env st => (evI C it env st).then env fun it s1 => loopS it (gT t) (evSs C b) it.n 0 env s1
  | .while c b => whileS (evT C c) (evSs C b) C.fuel
  | .brk => fun env st => .bk env st
  | .cont => fun env st => .ct env st
  | .pass => fun env st => .nx env st
  | .raise c e => fun env st => (evE C e env st).then env fun d s1 => .exc c d env s1
  | .tr b hs => tryF C.sub (evSs C b) (evH C hs)
def evSs (C : Ctx) : SL → Ev → Sto → SR
  | .nil => fun env st => .nx env st
  | .cons s r => fun env st => (evS C s env st).bind (evSs C r)
def evH (C : Ctx) : HL → List Hd
  | .nil => []
  | .cons cs i su r => (cs, i, fun c d => evSs { C with ex := some (c, d), th := fun _ => .err } su) :: evH C r
end
end Q
end

section
set_option Elab.async false
set_option linter.all false
set_option maxRecDepth 100000
set_option maxHeartbeats 1000000
set_option autoImplicit false
/-! When a piece of the text is what a piece of syntax says. -/
namespace Q
open PySem PySem.Spec PyProof.Rows L2
structure SG where
  fn : List (Str × Nat)
  kw : List (Nat × Nat × List Str × List Nat)
  cls : List (Str × Str)
  ho : List Str
  blt : List Str
structure Gam where
  N : List Str
  sc : Scope
  fnAll : Bool
  calm : Bool
  top : Bool
  lam : Bool
  rm : Nat
  th : Option Str
  ex : Option (Nat × Str)

def isStar : Expr → Bool
  | .Starred .. => true
  | _ => false
def isComp : Expr → Bool
  | .ListComp .. => true | .SetComp .. => true | .DictComp .. => true
  | _ => false
def isSetE : Expr → Bool
  | .Set .. => true
  | _ => false
def isSl : Expr → Bool
  | .Slice .. => true
  | _ => false
/-- what may be super() -/
def isCall0 : Expr → Bool
  | .Call (.Name _ _) [] [] _ => true
  | _ => false
/-- whose truth is its value's -/
def isPlainT : Expr → Bool
  | .UnaryOp .Not _ _ => false | .BoolOp .. => false | .IfExp .. => false | .Compare .. => false
  | _ => true
def lk (Γ : Gam) (x : Str) : Option NameKind := Γ.sc.names.lookup x
def visB (Γ : Gam) (x : Str) : Bool := lk Γ x == some .local || lk Γ x == some .cell || lk Γ x == some .free
def locB (Γ : Gam) (x : Str) : Bool := (lk Γ x == some .local || lk Γ x == some .cell) && (Γ.fnAll || lk Γ x == some .local)
def glB (Γ : Gam) (x : Str) : Bool := lk Γ x == some .globalImplicit
def okN (x : Str) : Bool := !(x == ("__debug__" : Str)) && !(x == ("__classdict__" : Str))
def slot (Γ : Gam) (i : Nat) (x : Str) : Bool := Γ.N[i]? == some x
def opK : Op → Operator
  | .add => .Add | .sub => .Sub | .mul => .Mult | .fdiv => .FloorDiv | .mod => .Mod | .pow => .Pow | .shl => .LShift | .shr => .RShift
def cmK : Cm → CmpOp
  | .eq => .Eq | .ne => .NotEq | .lt => .Lt | .le => .LtE | .gt => .Gt | .ge => .GtE
def bfN : Bf → Str
  | .len => "len" | .int => "int" | .abs => "abs" | .gcd => "gcd" | .list => "list" | .tuple => "tuple" | .max2 => "max" | .min2 => "min" | .repr => "repr" | .str => "str"
def mtN : Mt → Str
  | .append => "append" | .pop => "pop"
def mtA : Mt → Nat
  | .append => 1 | .pop => 0
def noArgs : Arguments → Bool
  | ⟨[], [], none, [], [], none, []⟩ => true
  | _ => false
def blkG (Γ : Gam) (scope : Scope) : Gam := { Γ with sc := relS scope Γ.sc, fnAll := false, top := false, lam := false, th := none, ex := none }
def lamG (Γ : Gam) (scope : Scope) : Gam := { Γ with sc := scope, fnAll := false, top := false, lam := false, rm := 0, th := none, ex := none }
def ownOf (Γ : Gam) (vs : List Nat) : List (Str × Nat) := vs.map fun i => (Γ.N.getD i "", i)
def kwNames : List Keyword → Option (List Str)
  | [] => some []
  | ⟨some x, _, _⟩ :: r => (kwNames r).map (x :: ·)
  | _ => none
mutual
def ckTg (Γ : Gam) : Tg → Expr → Bool
  | .nm i, .Name x _ => slot Γ i x && locB Γ x
  | .tp l, .Tuple xs _ _ => Γ.calm && ckTgs Γ l xs
  | _, _ => false
def ckTgs (Γ : Gam) : TgL → List Expr → Bool
  | .nil, [] => true
  | .cons t l, x :: xs => !isStar x && ckTg Γ t x && ckTgs Γ l xs
  | _, _ => false
end
mutual
def inTg (vs : List Nat) : Tg → Bool
  | .nm i => vs.contains i
  | .tp l => inTgs vs l
def inTgs (vs : List Nat) : TgL → Bool
  | .nil => true
  | .cons t l => inTg vs t && inTgs vs l
end
mutual
def ckE (Q : SG) (Γ : Gam) : E → Expr → Bool
  | .var i, .Name x _ => slot Γ i x && visB Γ x && okN x
  | .non, .Constant .none _ _ => true
  | .bl b, .Constant (.bool c) _ _ => b == c
  | .int i, .Constant (.int j) _ _ => i == j
  | .str x, .Constant (.str y) _ _ => x == y
  | .op o a b, .BinOp x p y _ => opK o == p && ckE Q Γ a x && ckE Q Γ b y
  | .cmp o a b, .Compare x [p] [y] _ => cmK o == p && ckE Q Γ a x && ckE Q Γ b y
  | .chain o o' a b c, .Compare x [p, p'] [y, z] _ => cmK o == p && cmK o' == p' && ckE Q Γ a x && ckE Q Γ b y && ckE Q Γ c z
  | .and a b, .BoolOp .And (x :: y :: []) _ => ckE Q Γ a x && ckE Q Γ b y
  | .and a b, .BoolOp .And (x :: y :: z :: r) p => ckE Q Γ a x && ckE Q Γ b (.BoolOp .And (y :: z :: r) p)
  | .or a b, .BoolOp .Or (x :: y :: []) _ => ckE Q Γ a x && ckE Q Γ b y
  | .or a b, .BoolOp .Or (x :: y :: z :: r) p => ckE Q Γ a x && ckE Q Γ b (.BoolOp .Or (y :: z :: r) p)
  | .not a, .UnaryOp .Not x _ => ckE Q Γ a x
  | .neg a, .UnaryOp .USub x _ => ckE Q Γ a x
  | .ite c a b, .IfExp x y z _ => ckE Q Γ c x && ckE Q Γ a y && ckE Q Γ b z
  | .tup es, .Tuple xs _ _ => ckL Q Γ es xs
  | .lst es, .List xs _ => ckL Q Γ es xs
  | .rev a, .Subscript x (.Slice none none (some (.UnaryOp .USub (.Constant (.int j) _ _) _)) _) _ => j == 1 && ckE Q Γ a x
  | .sl a lo hi, .Subscript x (.Slice l h none _) _ => ckE Q Γ a x && ckO Q Γ lo l && ckO Q Γ hi h
  | .ix a b, .Subscript x y _ => !isSl y && ckE Q Γ a x && ckE Q Γ b y
  | .blt f es, .Call (.Name x _) (y :: ys) [] _ => x == bfN f && glB Γ x && Q.blt.contains x && (Γ.calm || (f != .max2 && f != .min2)) && ckL Q Γ es (y :: ys)
  | .isi a t, .Call (.Name x _) [y, .Name T _] [] _ => x == ("isinstance" : Str) && glB Γ x && Q.blt.contains x && T == (tyN t : Str) && glB Γ T && Q.blt.contains T && !isStar y && ckE Q Γ a y
  | .call f es, .Call (.Name x _) ys [] _ => Γ.calm && glB Γ x && (Q.fn[f]? == some (x, ys.length)) && ckL Q Γ es ys
  | .callK f n ix es ks, .Call (.Name x _) ys kws _ => Γ.calm && glB Γ x && (Q.fn[f]?.map (·.1) == some x) && (Q.fn[f]?.map (·.2) == some ix.length) && ix.all (fun i => decide (i < ys.length + kws.length)) && ys.length == n && (match kwNames kws with | some ns => Q.kw.contains (f, n, ns, ix) | none => false) && ckL Q Γ es ys && ckK Q Γ ks kws
  | .mt m o es, .Call (.Attribute y nm ap) ys [] cp => nm == mtN m && ys.length == mtA m && !isCall0 y && (ap.endLine == cp.line) && ckE Q Γ o y && ckL Q Γ es ys
  | .get2 o k d, .Call (.Attribute y nm ap) [u, v] [] cp => nm == ("get" : Str) && !isCall0 y && (ap.endLine == cp.line) && !isStar u && !isStar v && ckE Q Γ o y && ckE Q Γ k u && ckE Q Γ d v
  | .dict ps, .Dict ks vs _ => decide (ks.length ≤ 15) && ckP Q Γ ps ks vs
  | .lc it tg t e vs, .ListComp x [⟨tx, ix, ifs, 0⟩] scope _ => Γ.calm && blkC Γ.N Γ.sc scope (ownOf Γ vs) && !isSetE ix && ckI Q Γ it ix && ckTg (blkG Γ scope) tg tx && inTg vs tg && ckT Q (blkG Γ scope) t ifs && ckE Q (blkG Γ scope) e x
  | .lam h e, .Call (.Name x _) [.Lambda ar body scope _] [] _ => Γ.calm && Γ.lam && glB Γ x && (Q.ho[h]? == some x) && LamX.lamSB Γ.sc scope && noArgs ar && ckE Q (lamG Γ scope) e body
  | .thunk, .Call (.Name x _) [] [] _ => Γ.th == some x
  | .thing i f, .Attribute (.Name n _) g _ => (Γ.ex == some (i, n)) && f == g
  | _, _ => false
def ckL (Q : SG) (Γ : Gam) : EL → List Expr → Bool
  | .nil, [] => true
  | .cons e es, x :: xs => !isStar x && ckE Q Γ e x && ckL Q Γ es xs
  | _, _ => false
def ckK (Q : SG) (Γ : Gam) : EL → List Keyword → Bool
  | .nil, [] => true
  | .cons e es, ⟨_, x, _⟩ :: xs => ckE Q Γ e x && ckK Q Γ es xs
  | _, _ => false
def ckP (Q : SG) (Γ : Gam) : PL → List (Option Expr) → List Expr → Bool
  | .nil, [], [] => true
  | .cons k v r, some x :: xs, y :: ys => ckE Q Γ k x && ckE Q Γ v y && ckP Q Γ r xs ys
  | _, _, _ => false
def ckO (Q : SG) (Γ : Gam) : OE → Option Expr → Bool
  | .none, none => true
  | .some e, some x => ckE Q Γ e x
  | _, _ => false
def ckT (Q : SG) (Γ : Gam) : OE → List Expr → Bool
  | .none, [] => true
  | .some e, [x] => ckE Q Γ e x
  | _, _ => false
def ckI (Q : SG) (Γ : Gam) : IT → Expr → Bool
  | .r1 a, .Call (.Name x _) [y] [] _ => x == ("range" : Str) && glB Γ x && Q.blt.contains x && !isStar y && ckE Q Γ a y
  | .r2 a b, .Call (.Name x _) [y, z] [] _ => x == ("range" : Str) && glB Γ x && Q.blt.contains x && !isStar y && !isStar z && ckE Q Γ a y && ckE Q Γ b z
  | .r3 a b c, .Call (.Name x _) [y, z, u] [] _ => x == ("range" : Str) && glB Γ x && Q.blt.contains x && !isStar y && !isStar z && !isStar u && ckE Q Γ a y && ckE Q Γ b z && ckE Q Γ c u
  | .rev1 a, .Call (.Name x _) [.Call (.Name y _) [z] [] _] [] _ => x == ("reversed" : Str) && y == ("range" : Str) && glB Γ x && glB Γ y && Q.blt.contains x && Q.blt.contains y && !isStar z && ckE Q Γ a z
  | .val e, x => ckE Q Γ e x
  | _, _ => false
end
def swNm (Γ : Gam) (l : Nat) : Expr → Option Str
  | .Name id pos => if lk Γ id == some .local && pos.line == l then some id else none
  | _ => none
def swIf (Γ : Gam) (ts vs : List Expr) (ns : List Str) : Option (Option (List Str)) :=
  if (!(ts.length == 2 || ts.length == 3) || vs.length != ts.length || Γ.sc.kind != .function) = true then some none
  else if (vs.any isStar) = true then some none
  else if (ns.length != ts.length || ns.eraseDups.length != ns.length) = true then some none
  else if (vs.all (foldedForSure 8)) = true then some none
  else if (vs.all (constantsAlone 8)) = true then none
  else some (some ns)
/-- the names of a parallel store, if it is one -/
def swP (Γ : Gam) (ts : List Expr) (v : Expr) : Option (Option (List Str)) := match ts, v with
  | [.Tuple ts _ _], .Tuple vs _ _ => swIf Γ ts vs (ts.filterMap (swNm Γ ((ts.head?.map (·.pos.line)).getD 0)))
  | [.Tuple _ _ _], .Name _ _ => some none
  | [.Tuple _ _ _], .Call _ _ _ _ => some none
  | [.Tuple _ _ _], .Subscript _ _ _ => some none
  | [.Tuple _ _ _], .IfExp _ _ _ _ => some none
  | _, _ => none
/-- whether a store of a comprehension swaps -/
def swB (Γ : Gam) (scope : Scope) (vpos : Pos) (t : Str) (tpos : Pos) : Bool := lk Γ t == some .local && tpos.line == vpos.line && !(scope.names.any fun (n, k) => n == t && (k == .local || k == .cell))
def suG (Γ : Gam) (ex : Option (Nat × Str)) : Gam := { Γ with calm := false, top := false, lam := false, th := none, ex := ex }
def namesOf : List Expr → Option (List (Str × Pos))
  | [] => some []
  | .Name x p :: r => (namesOf r).map ((x, p) :: ·)
  | _ => none
def ckCls (Q : SG) (Γ : Gam) (cs : List Nat) : Expr → Bool
  | .Name x _ => match cs with
    | [c] => glB Γ x && okN x && (Q.cls[c]?.map (·.1) == some x)
    | _ => false
  | .Tuple xs _ _ => match namesOf xs with
    | some l => decide (2 ≤ l.length) && decide (l.length ≤ 4) && l.length == cs.length && (l.zip cs).all fun p => glB Γ p.1.1 && okN p.1.1 && (Q.cls[p.2]?.map (·.1) == some p.1.1)
    | none => false
  | _ => false
mutual
def ckS (Q : SG) (Γ : Gam) : S → Stmt → Bool
  | .expr e, .Expr x _ => !isComp x && ckE Q Γ e x
  | .ret e, .Return (some x) _ => ckE Q Γ e x
  | .retN, .Return none _ => true
  | .set i e, .Assign [.Name x tp] v _ => slot Γ i x && locB Γ x && ckE Q Γ e v && (match v with | .ListComp _ _ _ _ => true | v => !isComp v)
  | .asg t e, .Assign [.Tuple xs k tp] v _ => ckTg Γ t (.Tuple xs k tp) && !isComp v && ckE Q Γ e v && (swP Γ [.Tuple xs k tp] v == some none)
  | .par2 i j a b, .Assign [.Tuple [.Name x px, .Name y py] k tp] (.Tuple [u, v] k2 p2) _ => Γ.calm && slot Γ i x && slot Γ j y && i != j && lk Γ x == some .local && lk Γ y == some .local && !isStar u && !isStar v && ckE Q Γ a u && ckE Q Γ b v && (swP Γ [.Tuple [.Name x px, .Name y py] k tp] (.Tuple [u, v] k2 p2) == some (some [x, y]))
  | .par3 i j l a b c, .Assign [.Tuple [.Name x px, .Name y py, .Name z pz] k tp] (.Tuple [u, v, w] k2 p2) _ => Γ.calm && slot Γ i x && slot Γ j y && slot Γ l z && i != j && i != l && j != l && lk Γ x == some .local && lk Γ y == some .local && lk Γ z == some .local && !isStar u && !isStar v && !isStar w && ckE Q Γ a u && ckE Q Γ b v && ckE Q Γ c w && (swP Γ [.Tuple [.Name x px, .Name y py, .Name z pz] k tp] (.Tuple [u, v, w] k2 p2) == some (some [x, y, z]))
  | .put o i v, .Assign [.Subscript x y _] z _ => ckE Q Γ o x && ckE Q Γ i y && ckE Q Γ v z
  | .ite c a b, .If x y z _ => ckE Q Γ c x && ckSs Q Γ a y && ckSs Q Γ b z
  | .for t it b, .For tx ix body [] _ => Γ.calm && !isSetE ix && ckI Q Γ it ix && ckTg Γ t tx && ckSs Q Γ b body
  | .while c b, .While x body [] _ => Γ.calm && ckE Q Γ c x && ckSs Q Γ b body
  | .brk, .Break _ => true
  | .cont, .Continue _ => true
  | .pass, .Pass _ => true
  | .raise c e, .Raise (some (.Call (.Name x _) [y] [] _)) none _ => Γ.calm && glB Γ x && (Q.cls[c]?.map (·.1) == some x) && !isStar y && ckE Q Γ e y
  | .tr b hs, .Try body (h0 :: hds) [] [] _ => Γ.calm && Γ.top && ckSs Q Γ b body && ckH Q Γ hs (h0 :: hds)
  | _, _ => false
def ckSs (Q : SG) (Γ : Gam) : SL → List Stmt → Bool
  | .nil, [] => true
  | .cons s r, x :: xs => ckS Q Γ s x && ckSs Q Γ r xs
  | _, _ => false
def ckH (Q : SG) (Γ : Gam) : HL → List ExceptHandler → Bool
  | .nil, [] => true
  | .cons cs none su r, .ExceptHandler (some ty) none (b0 :: suite) _ :: hds => ckCls Q Γ cs ty && ckSs Q (suG Γ none) su (b0 :: suite) && ckH Q Γ r hds
  | .cons cs (some i) su r, .ExceptHandler (some ty) (some n) (b0 :: suite) _ :: hds => ckCls Q Γ cs ty && slot Γ i n && (lk Γ n == some .local) && okN n && ckSs Q (suG Γ (some (i, n))) su (b0 :: suite) && ckH Q Γ r hds
  | _, _ => false
end
end Q
end

section
set_option Elab.async false
set_option linter.all false
set_option maxRecDepth 100000
set_option maxHeartbeats 1000000
set_option autoImplicit false
/-! What the checks of shape give. -/
namespace Q
open PySem PySem.Spec PyProof.Rows L2
theorem star_cons {e : Expr} (es : List Expr) (env : Env) (h : isStar e = false) : starEach (e :: es) env = (false, eval e env) :: starEach es env := by
  cases e <;> first
    | rfl
    | cases h
theorem star_all : ∀ {es : List Expr} (env : Env) (pos : Pos), es.all (fun e => !isStar e) = true → (backTo pos (starEach es env)).any (·.1) = false
  | [], _, _, _ => rfl
  | e :: es, env, pos, h => by
    rw [List.all_cons, Bool.and_eq_true, Bool.not_eq_true'] at h
    rw [star_cons es env h.1]
    show (false || (backTo pos (starEach es env)).any (·.1)) = false
    rw [star_all env pos h.2]
    rfl
theorem star_len : ∀ (es : List Expr) (env : Env), (starEach es env).length = es.length
  | [], _ => rfl
  | e :: es, env => by
    have ih := star_len es env
    cases e <;> (show (starEach es env).length + 1 = es.length + 1; rw [ih])
theorem star_few {es : List Expr} (env : Env) (pos : Pos) (h : es.all (fun e => !isStar e) = true) (hl : es.length < 29) : ((backTo pos (starEach es env)).all (fun x => !x.1) && (backToKw pos (keywordEach [] env)).all (fun x => x.1.isSome) && decide (es.length + ([] : List Keyword).length + (if ([] : List Keyword).isEmpty then 0 else 1) < 30)) = true := by
  have h1 := star_all env pos h
  have h2 : (backTo pos (starEach es env)).all (fun x => !x.1) = true := by
    rw [List.all_eq_true]
    intro x hx
    rw [List.any_eq_false] at h1
    simpa using h1 x hx
  rw [h2]
  have h3 : es.length + ([] : List Keyword).length + (if ([] : List Keyword).isEmpty then 0 else 1) < 30 := by
    show es.length + 0 + 0 < 30
    omega
  rw [decide_eq_true h3]
  rfl
theorem no_swap {e : Expr} (t : Option Expr) (l : Nat) (env : Env) (h : isComp e = false) : swapsWith e t l env = pure false := by
  cases e <;> first
    | rfl
    | cases h
theorem no_swap1 {e t : Expr} (l : Nat) (env : Env) (h : isComp e = false) : swapsWithSole [t] e l env = pure false := no_swap _ _ _ h
theorem no_fold {e : Expr} (env : Env) (h : isSetE e = false) (x : Value) : foldedSetIterable e env x = pure x := by
  cases e <;> first
    | rfl
    | cases h
theorem plain_ix {e : Expr} (h : isSl e = false) : PlainIx e := by
  intro o i
  cases e <;> first
    | rfl
    | cases h
theorem attr_base {o : Expr} (m : Str) (env : Env) (w : Sem Value) (h : isCall0 o = false) : attributeBase o m env w = w := by
  unfold attributeBase
  split
  · cases h
  · rfl
theorem plain_t {e : Expr} (env : Env) (h : isPlainT e = true) (whole : Sem Value) : isTrue e env whole = (do let v ← whole; standAt e.pos; holding [v] (truthy v)) := by
  cases e <;> first
    | rfl
    | cases h
    | (rename_i op x p; cases op <;> first | rfl | cases h)
theorem no_mark {o : Cm} (e : Expr) : behindInMarks (cmK o) e = false := by
  unfold behindInMarks
  split
  · cases o <;> simp [cmK]
  · rfl
theorem kw_names : ∀ {kws : List Keyword} {ns : List Str} (env : Env) (pos : Pos), kwNames kws = some ns → (backToKw pos (keywordEach kws env)).all (·.1.isSome) = true ∧ (backToKw pos (keywordEach kws env)).filterMap (·.1) = ns ∧ (backToKw pos (keywordEach kws env)).any (·.1.isNone) = false ∧ ns.length = kws.length
  | [], ns, env, pos, h => by cases h; exact ⟨rfl, rfl, rfl, rfl⟩
  | ⟨some x, e, p⟩ :: r, ns, env, pos, h => by
    unfold kwNames at h
    cases hr : kwNames r with
    | none => rw [hr] at h; cases h
    | some l =>
      rw [hr] at h
      cases h
      obtain ⟨h1, h2, h3, h4⟩ := kw_names env pos hr
      refine ⟨?_, ?_, ?_, by simp [h4]⟩
      · show (true && (backToKw pos (keywordEach r env)).all (·.1.isSome)) = true
        rw [h1]; rfl
      · show x :: (backToKw pos (keywordEach r env)).filterMap (·.1) = x :: l
        rw [h2]
      · show (false || (backToKw pos (keywordEach r env)).any (·.1.isNone)) = false
        rw [h3]; rfl
  | ⟨none, e, p⟩ :: r, ns, env, pos, h => by cases h
theorem no_args {a : Arguments} (h : noArgs a = true) : a = ⟨[], [], none, [], [], none, []⟩ := by
  unfold noArgs at h
  split at h
  · rfl
  · cases h
/-- the names of a parallel store -/
theorem sw_ok {Γ : Gam} {ts : List Expr} {v : Expr} {env : Env} {r : Option (List Str)} (hsc : env.scope = Γ.sc) (hk : Γ.sc.kind = .function) (h : swP Γ ts v = some r) : swappedStores ts v env = pure r := by
  have hb : env.blockKind = .function := by unfold Env.blockKind; rw [hsc, hk]; rfl
  have hlk : ∀ x, env.kindOf x = lk Γ x := fun x => by unfold Env.kindOf lk; rw [hsc]
  unfold swP at h
  split at h
  · rename_i ts k p vs k2 p2
    unfold swappedStores
    have h1 : (env.blockKind != .function) = (Γ.sc.kind != .function) := by rw [hb, hk]
    simp only [pure_bind, h1, hlk]
    generalize hns : ts.filterMap (swNm Γ ((ts.head?.map (·.pos.line)).getD 0)) = ns at h
    have hns' : ts.filterMap (fun | .Name id pos => if (lk Γ id == some .local && pos.line == (ts.head?.map (·.pos.line)).getD 0) = true then some id else none | _ => none) = ns := by
      rw [← hns]
      first
        | rfl
        | (congr 1; done)
        | (congr 1; funext x; cases x <;> rfl)
    unfold swIf at h
    by_cases c1 : (!(ts.length == 2 || ts.length == 3) || vs.length != ts.length || Γ.sc.kind != .function) = true
    · rw [if_pos c1] at h ⊢
      cases h; rfl
    rw [if_neg c1] at h ⊢
    try simp only [pure_bind]
    by_cases c2 : vs.any isStar = true
    · rw [if_pos c2] at h
      cases h
      exact if_pos c2
    rw [if_neg c2] at h
    refine (if_neg c2).trans ?_
    try simp only [pure_bind]
    by_cases c3 : (ns.length != ts.length || ns.eraseDups.length != ns.length) = true
    · rw [if_pos c3] at h
      cases h
      rw [← hns'] at c3
      exact if_pos c3
    rw [if_neg c3] at h
    rw [← hns'] at c3
    refine (if_neg c3).trans ?_
    try simp only [pure_bind]
    by_cases c4 : vs.all (foldedForSure 8) = true
    · rw [if_pos c4] at h ⊢
      cases h; rfl
    rw [if_neg c4] at h ⊢
    try simp only [pure_bind]
    by_cases c5 : vs.all (constantsAlone 8) = true
    · rw [if_pos c5] at h
      cases h
    rw [if_neg c5] at h ⊢
    cases h
    rw [← hns']
    rfl
  · cases h; rfl
  · cases h; rfl
  · cases h; rfl
  · cases h; rfl
  · cases h
theorem asg_each {t : Expr} (env : Env) (h : isStar t = false) (ts : List Expr) : assignEach (t :: ts) env = (false, assign t env) :: assignEach ts env := by
  cases t <;> first
    | rfl
    | cases h
theorem asg_len : ∀ (ts : List Expr) (env : Env), (assignEach ts env).length = ts.length
  | [], _ => rfl
  | t :: ts, env => by
    have ih := asg_len ts env
    cases t <;> (show (assignEach ts env).length + 1 = ts.length + 1; rw [ih])
theorem asg_plain : ∀ {ts : List Expr} (env : Env), ts.all (fun e => !isStar e) = true → (assignEach ts env).findIdx? (·.1) = none
  | [], _, _ => rfl
  | t :: ts, env, h => by
    rw [List.all_cons, Bool.and_eq_true, Bool.not_eq_true'] at h
    rw [asg_each env h.1, List.findIdx?_cons]
    simp [asg_plain env h.2]
end Q
end

section
set_option Elab.async false
set_option linter.all false
set_option maxRecDepth 100000
set_option maxHeartbeats 4000000
set_option autoImplicit false
/-! The context of a piece; expressions do what their syntax does. -/
namespace Q
open PySem PySem.Spec PyProof.Rows L2
def PB (P0 P : Par) : Prop := P.T = P0.T ∧ P.CA = P0.CA ∧ P.FN = P0.FN
/-- what is known of the own functions, classes, builtins; lv: the room that a function wants -/
structure SGok (SG' : SG) (lv : Nat) (prog : Program) (w : World) (K : PySem.W.Frag) (mg : Str → Option Value) (base : Heap) (P0 : Par) (C : Ctx) : Prop where
  lv2 : 2 ≤ lv
  fn : ∀ (f : Nat) (nm : Str) (ar : Nat), SG'.fn[f]? = some (nm, ar) → ∃ (ad : Addr) (fd : FuncData) (ps : List Str), mg nm = some (.ref ad) ∧ PySem.W.keepIn K (.ref ad) = true ∧ (nm == ("__debug__" : Str)) = false ∧ ps.length = ar ∧ (∀ us : List Value, us.length = ps.length → bindArgs fd ⟨us, []⟩ = pure (ps.zip us)) ∧
    (∀ P, PB P0 P → P.XV = [] → P.xa 0 = none → FnS prog w K mg base P lv ad fd ps (C.ft f)) ∧ ∀ (n : Nat) (ks : List Str) (ix : List Nat), (f, n, ks, ix) ∈ SG'.kw → KwB fd ps ks n ix
  cl : ∀ (c : Nat) (nm : Str) (f : Str), SG'.cls[c]? = some (nm, f) → mg nm = some (.ref (P0.CA c)) ∧ (nm == ("__debug__" : Str)) = false ∧ OwnE K (P0.CA c) ∧ ∃ (fI : Addr) (fd : FuncData) (ps : List Str), PySem.W.findIn K (.ref (P0.CA c)) "__init__" = some (some (.ref fI)) ∧ PySem.W.typeIn K (.ref fI) = some (.type "function") ∧ FnOk prog w K mg base (L2.CX prog w) 1 fI fd ps (InitSp (P0.CA c) (P0.FN c)) ∧ ps.length = 2 ∧ ∀ us : List Value, us.length = 2 → bindArgs fd ⟨us, []⟩ = pure (ps.zip us)
  sub : ∀ a b, PySem.W.exmOne K (.ref (P0.CA a)) (.ref (P0.CA b)) = some (C.sub a b)
  eg : ∀ c, ExG K (P0.CA c) (P0.FN c)
  fnm : C.fn = P0.FN
  bl : ∀ x ∈ SG'.blt, x ≠ ("gcd" : Str) → mg x = none
  gc : ("gcd" : Str) ∈ SG'.blt → mg "gcd" = some (.builtin "math.gcd")
  ho : ∀ (h : Nat) (x : Str), SG'.ho[h]? = some x → ∀ (X : Cx) (P : Par) (W : WX) (Fl : Ev → Sto → Res D) (params : Arguments) (body : Expr) (scope : Scope) (p lpos pos : Pos) (c t : Addr), X.prog = prog → X.w = w → X.K = K → X.mg = mg → X.base = base → PB P0 P → P.XV = [] → P.xa 0 = none → Gl X x →
    LamX.TabB X.base X.mg c t → X.env.code = .ref c → (t, X.env.qual ++ "<lambda>") ∈ P.T → (∀ p ∈ P.T, p.1 = t → p.2 = X.env.qual ++ "<lambda>") → Room (lv + 2) X.A → X.A.guards = some [] → L2.Takes X W → LamX.LamS X.env.scope scope → noArgs params = true →
    (∀ (A : Around) (outer : List Env) (s : Shared) (H : Hp) (E : XK) (f c' : Addr), Room lv (A.deeper (LamX.lamEnv X scope s.heap.objs.size f c')) → A.guards = some [] → PE (LamX.lamCx X A outer s H E scope f c') body (tE X.K P (fun c d _ H => E c d H) Fl)) →
    PE X (.Call (.Name x p) [.Lambda params body scope lpos] [] pos) (tE X.K P W fun env st => C.hf h (fun s => Fl env s) st)
structure Cok (SG' : SG) (lv : Nat) (P0 P : Par) (C : Ctx) (Γ : Gam) (X : Cx) (W : WX) : Prop where
  pb : PB P0 P
  G : SGok SG' lv X.prog X.w X.K X.mg X.base P0 C
  N : X.N = Γ.N
  sc : X.env.scope = Γ.sc
  nd : X.N.Nodup
  fk : Γ.sc.kind = .function
  fnA : Γ.fnAll = true → ∀ x, X.fn x = true
  calm : Γ.calm = true → X.calm = true ∧ Room (lv + Γ.rm) X.A ∧ P.XV = [] ∧ P.xa 0 = none ∧ PassesOwn (model X.prog X.w) X.A X.env X.xe
  un : X.A.units + 64 < cLine
  gd : X.A.guards = some []
  tk : L2.Takes X W
  top : Γ.top = true → X.stack = X.env :: X.outer ∧ X.env.frame = some X.env.locals ∧ Γ.ex = none
  lam : Γ.lam = true → Γ.rm = 2 ∧ ∃ c t, X.env.code = .ref c ∧ LamX.TabB X.base X.mg c t ∧ (t, X.env.qual ++ "<lambda>") ∈ P.T ∧ ∀ p ∈ P.T, p.1 = t → p.2 = X.env.qual ++ "<lambda>"
  th : ∀ a, Γ.th = some a → ThOk X P a C.th
  ex : ∀ i n, Γ.ex = some (i, n) → ∃ c d, C.ex = some (c, d) ∧ ∀ (W : WX) (f : Str) (p0 p1 : Pos), PE X (.Attribute (.Name n p0) f p1) (tE X.K P W (thingF i (decide (f = C.fn c)) d))

section
variable {G : SG} {lv : Nat} {P0 P : Par} {C : Ctx} {Γ : Gam} {X : Cx} {W : WX}
theorem Cok.gl (k : Cok G lv P0 P C Γ X W) {x : Str} (h : glB Γ x = true) : Gl X x := by
  unfold glB lk at h
  show X.env.scope.names.lookup x = some .globalImplicit
  rw [k.sc]
  exact beq_iff_eq.mp h
theorem Cok.vis (k : Cok G lv P0 P C Γ X W) {x : Str} (h : visB Γ x = true) : Vis X.env.scope x := by
  unfold visB lk at h
  unfold Vis
  rw [k.sc]
  simp only [Bool.or_eq_true, beq_iff_eq] at h
  rcases h with (h | h) | h
  · exact .inl h
  · exact .inr (.inl h)
  · exact .inr (.inr h)
theorem Cok.slot (k : Cok G lv P0 P C Γ X W) {i : Nat} {x : Str} (h : slot Γ i x = true) : X.N[i]? = some x := by
  unfold Q.slot at h
  rw [k.N]
  exact beq_iff_eq.mp h
theorem Cok.loc (k : Cok G lv P0 P C Γ X W) {x : Str} (h : locB Γ x = true) : L2.Loc X.env.scope x ∧ (X.fn x = true ∨ X.env.scope.names.lookup x = some .local) := by
  unfold locB lk at h
  unfold L2.Loc
  rw [k.sc]
  simp only [Bool.and_eq_true, Bool.or_eq_true, beq_iff_eq] at h
  obtain ⟨h1, h2⟩ := h
  refine ⟨h1, ?_⟩
  rcases h2 with h2 | h2
  · exact .inl (k.fnA h2 x)
  · exact .inr h2
theorem okN_d {x : Str} (h : okN x = true) : (x == ("__debug__" : Str)) = false ∧ (x == ("__classdict__" : Str)) = false := by
  unfold okN at h
  simpa using h
theorem Cok.bl (k : Cok G lv P0 P C Γ X W) {x : Str} (h : G.blt.contains x = true) (n : x ≠ ("gcd" : Str)) : X.mg x = none := k.G.bl x (by simpa using h) n
theorem bfN_ne (f : Bf) : bfN f ≠ ("__name__" : Str) ∧ (bfN f == ("__debug__" : Str)) = false := by cases f <;> decide +kernel
theorem op_ok (o : Op) : OpR X (binaryOp (opK o)) (rD2 X.K P (opD o)) := by
  cases o with
  | add => exact add_ok
  | sub => exact sub_ok
  | mul => exact mulD_ok
  | fdiv => exact fdiv_ok
  | mod => exact mod_ok
  | pow => exact pow_ok
  | shl => exact shl_ok'
  | shr => exact shr_ok
theorem cm_ok (hu : X.A.units + 64 < cLine) (o : Cm) : OpR X (compareOp (cmK o)) (rD2 X.K P (cmD o)) := by
  cases o with
  | eq => exact eq_ok hu
  | ne => exact ne_ok hu
  | lt => exact lt_ok
  | le => exact le_ok
  | gt => exact gt_ok
  | ge => exact ge_ok
/-- how long a list of values is -/
def elLen : EL → Nat
  | .nil => 0
  | .cons _ es => elLen es + 1
theorem Res.bind_ok {α β : Type} {r : Res α} {f : α → Sto → Res β} {b : β} {st : Sto} (h : r.bind f = .ok b st) : ∃ a s1, r = .ok a s1 ∧ f a s1 = .ok b st := by
  cases r with
  | ok a s1 => exact ⟨a, s1, rfl, h⟩
  | exc c d s => cases h
  | err => cases h
theorem evL_len {C : Ctx} : ∀ (es : EL) {env : Ev} {st : Sto} {ds : List D} {s : Sto}, evL C es env st = .ok ds s → ds.length = elLen es
  | .nil, _, _, _, _, h => by
    simp only [evL] at h
    cases h
    rfl
  | .cons e es, _, _, _, _, h => by
    simp only [evL] at h
    obtain ⟨a, s1, _, h2⟩ := Res.bind_ok h
    obtain ⟨b, s2, h3, h4⟩ := Res.bind_ok h2
    cases h4
    rw [List.length_cons, evL_len es h3, elLen]
theorem ckL_len : ∀ {es : EL} {xs : List Expr}, ckL G Γ es xs = true → elLen es = xs.length ∧ xs.all (fun e => !isStar e) = true
  | .nil, [], _ => ⟨rfl, rfl⟩
  | .nil, _ :: _, h => by simp [ckL] at h
  | .cons e es, [], h => by simp [ckL] at h
  | .cons e es, x :: xs, h => by
    simp only [ckL, Bool.and_eq_true] at h
    obtain ⟨h1, h2⟩ := ckL_len h.2
    exact ⟨by rw [elLen, h1, List.length_cons], by rw [List.all_cons, h2, h.1.1]; rfl⟩
theorem ckK_len : ∀ {es : EL} {xs : List Keyword}, ckK G Γ es xs = true → elLen es = xs.length
  | .nil, [], _ => rfl
  | .nil, _ :: _, h => by simp [ckK] at h
  | .cons e es, [], h => by simp [ckK] at h
  | .cons e es, ⟨_, x, _⟩ :: xs, h => by
    simp only [ckK, Bool.and_eq_true] at h
    rw [elLen, ckK_len h.2, List.length_cons]
theorem bind_len {α : Type} {r : Res (List D)} {n : Nat} {F F' : List D → Sto → Res α} (hr : ∀ ds s, r = .ok ds s → ds.length = n) (h : ∀ ds s, ds.length = n → F ds s = F' ds s) : r.bind F = r.bind F' := by
  cases r with
  | ok ds s => exact h ds s (hr ds s rfl)
  | exc c d s => rfl
  | err => rfl
theorem pick_len {α : Type} : ∀ {ix : List Nat} {xs : List α}, ix.all (fun i => decide (i < xs.length)) = true → (pick ix xs).length = ix.length
  | [], _, _ => rfl
  | i :: ix, xs, h => by
    rw [List.all_cons, Bool.and_eq_true, decide_eq_true_eq] at h
    unfold pick
    rw [List.filterMap_cons, List.getElem?_eq_getElem h.1]
    show (pick ix xs).length + 1 = ix.length + 1
    rw [pick_len h.2]
theorem pe_same {e : Expr} {F F' : Ev → Sto → Res D} (h : PE X e (tE X.K P W F)) (e' : ∀ env st, F env st = F' env st) : PE X e (tE X.K P W F') := by
  have : F = F' := by funext env st; exact e' env st
  rw [← this]; exact h
theorem ps_same {s : Stmt} {F F' : Ev → Sto → SR} (h : PS X s (tS X.K P W F)) (e' : ∀ env st, F env st = F' env st) : PS X s (tS X.K P W F') := by
  have : F = F' := by funext env st; exact e' env st
  rw [← this]; exact h
/-- the block of a comprehension -/
theorem Cok.blk (k : Cok G lv P0 P C Γ X W) {scope : Scope} (hk : scope.kind = .function) (hc : Γ.calm = true) (s : Shared) (H : Hp) (L : Addr) (cl : List (Str × Addr)) (fp : List Addr) : Cok G lv P0 P C (blkG Γ scope) (X.blk s H scope (compEnvC scope cl L X.env) fp) W0 where
  pb := k.pb
  G := k.G
  N := k.N
  sc := by
    show relS scope X.env.scope = relS scope Γ.sc
    rw [k.sc]
  nd := k.nd
  fk := hk
  fnA := fun h => nomatch h
  calm := fun h => ⟨(k.calm hc).1, (k.calm hc).2.1, (k.calm hc).2.2.1, (k.calm hc).2.2.2.1, PassesOwn.never⟩
  un := k.un
  gd := k.gd
  tk := takes0
  top := fun h => nomatch h
  lam := fun h => nomatch h
  th := fun a h => nomatch h
  ex := fun i n h => nomatch h
theorem Cok.tr (k : Cok G lv P0 P C Γ X W) {W1 : WX} {pn : List (Addr × Obj)} {xe : Value → Shared → Prop} (tk : L2.Takes (X.tr pn xe) W1) (ow : PassesOwn (model X.prog X.w) X.A X.env xe) (hx : Γ.ex = none) : Cok G lv P0 P C Γ (X.tr pn xe) W1 where
  pb := k.pb
  G := k.G
  N := k.N
  sc := k.sc
  nd := k.nd
  fk := k.fk
  fnA := k.fnA
  calm := fun h => ⟨(k.calm h).1, (k.calm h).2.1, (k.calm h).2.2.1, (k.calm h).2.2.2.1, ow⟩
  un := k.un
  gd := k.gd
  tk := tk
  top := k.top
  lam := k.lam
  th := fun a h W pn2 xe2 p1 p2 t => k.th a h W pn2 xe2 p1 p2 t
  ex := fun i n h => by rw [hx] at h; cases h
end
end Q
end

section
set_option Elab.async false
set_option linter.all false
set_option maxRecDepth 100000
set_option maxHeartbeats 8000000
set_option autoImplicit false
/-! Expressions do what their syntax does. -/
namespace Q
open PySem PySem.Spec PyProof.Rows L2
def isBo : Expr → Bool
  | .BoolOp .. => true
  | _ => false
section
variable {G : SG} {lv : Nat} {P0 P : Par} {C : Ctx}
theorem q_terr {X : Cx} {W : WX} {x : Expr} : PT X x (tT X.K P W fun _ _ => .err) := ⟨fun pins s σ H Q I h => by
  obtain ⟨M, env, st, sl, at_, p⟩ := h
  exact p.elim⟩
theorem bf_ok {Γ : Gam} {X : Cx} {W : WX} (k : Cok G lv P0 P C Γ X W) {f : Bf} {x : Str} {y : Expr} {ys : List Expr} {p pos : Pos} {F : Ev → Sto → Res (List D)} (hx : x = bfN f) (hg : glB Γ x = true) (hb : G.blt.contains x = true) (hc : (Γ.calm || (f != .max2 && f != .min2)) = true) (hs : (y :: ys).all (fun e => !isStar e) = true) (ha : PA X (y :: ys) (tL X.K P W F)) :
    PE X (.Call (.Name x p) (y :: ys) [] pos) (tE X.K P W fun env st => (F env st).bind fun ds s1 => ofO (bfD f ds s1)) := by
  have hs1 := hs
  rw [List.all_cons, Bool.and_eq_true, Bool.not_eq_true'] at hs1
  have he := star_cons ys X.env hs1.1
  have hp := star_all X.env pos hs1.2
  have ne := bfN_ne f
  rw [← hx] at ne
  have cm : (f = .max2 ∨ f = .min2) → X.calm = true := fun z => by
    rw [Bool.or_eq_true] at hc
    rcases hc with hc | hc
    · exact (k.calm hc).1
    · rcases z with rfl | rfl <;> simp at hc
  cases f with
  | len => exact q_blt len_ok (k.gl hg) (k.bl hb (by rw [hx]; decide)) (by rw [hx]; decide +kernel) ha ne.1 ne.2 he hp
  | int => exact q_bty int_ok (k.gl hg) (k.bl hb (by rw [hx]; decide)) (by rw [hx]; decide +kernel) ha ne.1 ne.2 he hp
  | abs => exact q_blt abs_ok (k.gl hg) (k.bl hb (by rw [hx]; decide)) (by rw [hx]; decide +kernel) ha ne.1 ne.2 he hp
  | gcd =>
    subst hx
    have hb2 : bfN .gcd ∈ G.blt := by simpa using hb
    refine ⟨fun pins s σ H Q I hh => (pe_callBfun (gcd_ok (P := P)) (k.gl hg) (k.G.gc hb2) ha ne.2 he hp).run pins s σ H Q I ?_⟩
    obtain ⟨M, env, st, sl, at_, q⟩ := hh
    exact tG.go sl at_ q fun xs H1 ds M1 st1 s1 a1 sl1 r1 p1 => ⟨M1, st1, ds, a1, r1, p1.toO⟩
  | list => exact q_bty list_ok (k.gl hg) (k.bl hb (by rw [hx]; decide)) (by rw [hx]; decide +kernel) ha ne.1 ne.2 he hp
  | tuple => exact q_bty tuple_ok (k.gl hg) (k.bl hb (by rw [hx]; decide)) (by rw [hx]; decide +kernel) ha ne.1 ne.2 he hp
  | max2 => exact q_blt (max2_ok (cm (.inl rfl))) (k.gl hg) (k.bl hb (by rw [hx]; decide)) (by rw [hx]; decide +kernel) ha ne.1 ne.2 he hp
  | min2 => exact q_blt (min2_ok (cm (.inr rfl))) (k.gl hg) (k.bl hb (by rw [hx]; decide)) (by rw [hx]; decide +kernel) ha ne.1 ne.2 he hp
  | repr => exact q_blt (repr_ok k.un k.gd) (k.gl hg) (k.bl hb (by rw [hx]; decide)) (by rw [hx]; decide +kernel) ha ne.1 ne.2 he hp
  | str => exact q_bty str_ok (k.gl hg) (k.bl hb (by rw [hx]; decide)) (by rw [hx]; decide +kernel) ha ne.1 ne.2 he hp
theorem call_ok {Γ : Gam} {X : Cx} {W : WX} (k : Cok G lv P0 P C Γ X W) {f : Nat} {es : EL} {x : Str} {ys : List Expr} {p pos : Pos} (hc : Γ.calm = true) (hg : glB Γ x = true) (hf : G.fn[f]? = some (x, ys.length)) (hl : elLen es = ys.length) (hs : ys.all (fun e => !isStar e) = true) (ha : PA X ys (tL X.K P W (evL C es))) :
    PE X (.Call (.Name x p) ys [] pos) (tE X.K P W (evE C (.call f es))) := by
  obtain ⟨ad, fd, ps, hm, hk, hd, hps, hb, hF, _⟩ := k.G.fn f x _ hf
  obtain ⟨c1, c2, c3, c4, c5⟩ := k.calm hc
  have F := hF P k.pb c3 c4
  have hr : Room lv X.A := c2.mono (Nat.le_add_right _ _)
  cases ys with
  | nil =>
    cases es with
    | cons _ _ => simp [elLen] at hl
    | nil =>
      cases ps with
      | cons _ _ => simp at hps
      | nil => exact q_call0 F hr k.gd (k.gl hg) hm hk hb k.tk hd
  | cons y ys =>
    rw [List.all_cons, Bool.and_eq_true, Bool.not_eq_true'] at hs
    refine pe_same (q_call F hr k.gd (k.gl hg) hm hk hb k.tk ha hd (star_cons ys X.env hs.1) (star_all X.env pos hs.2)) fun env st => ?_
    simp only [evE]
    refine bind_len (n := elLen es) (fun ds s h => evL_len es h) fun ds s h => ?_
    unfold atLen
    rw [if_pos (by rw [h, hl, hps])]
theorem mt_ok {Γ : Gam} {X : Cx} {W : WX} (k : Cok G lv P0 P C Γ X W) {m : Mt} {es : EL} {Fo : Ev → Sto → Res D} {y : Expr} {ys : List Expr} {nm : Str} {ap cp : Pos} (hn : nm = mtN m) (hl : ys.length = mtA m) (h0 : isCall0 y = false) (hline : (ap.endLine == cp.line) = true) (hel : elLen es = ys.length) (hs : ys.all (fun e => !isStar e) = true) (ho : PE X y (tE X.K P W Fo)) (ha : PA X ys (tL X.K P W (evL C es))) :
    PE X (.Call (.Attribute y nm ap) ys [] cp) (tE X.K P W (fMt Fo (evL C es) (mtD m))) := by
  subst hn
  cases m with
  | append =>
    match ys, hl, hs, ha with
    | [e], _, hs, ha =>
      have hs1 := hs
      rw [List.all_cons, Bool.and_eq_true, Bool.not_eq_true'] at hs1
      exact q_lm PySem.F.slot_list_append PySem.F.type_list_append mt_append (fun x xs H Q h => app_r h) ho ha (attr_base _ _ _ h0) (star_few X.env cp hs (by show 1 < 29; omega)) hline (star_cons [] X.env hs1.1) rfl
  | pop =>
    match ys, hl, es, hel with
    | [], _, .nil, _ =>
      have := q_lm0 (X := X) (P := P) (W := W) (f := popD) PySem.F.slot_list_pop PySem.F.type_list_pop mt_pop (fun x xs H Q h => pop_r h) ho (attr_base (mtN .pop) X.env (eval y X.env) h0) hline
      refine pe_same this fun env st => ?_
      simp only [evL]
      rfl
theorem pe_bty {X : Cx} {x : Str} {T : String} {p : Pos} (hg : Gl X x) (hm : X.mg x = none) (hv : bootBuiltins x = some (.type T)) (hn : x ≠ "__name__") (hd : (x == ("__debug__" : Str)) = false) : PE X (.Name x p) (tC (.ty T)) :=
  ⟨fun pins s σ H Q I h => ld_blt I hg hm hv ⟨.ty T, H, I, rfl, h⟩ hn hd⟩
theorem ckTgs_len {Γ : Gam} : ∀ {l : TgL} {xs : List Expr}, ckTgs Γ l xs = true → xs.length = lT l ∧ xs.all (fun e => !isStar e) = true
  | .nil, [], _ => ⟨rfl, rfl⟩
  | .nil, _ :: _, h => by simp [ckTgs] at h
  | .cons e es, [], h => by simp [ckTgs] at h
  | .cons e es, x :: xs, h => by
    simp only [ckTgs, Bool.and_eq_true] at h
    obtain ⟨h1, h2⟩ := ckTgs_len h.2
    exact ⟨by rw [lT, ← h1, List.length_cons], by rw [List.all_cons, h2, h.1.1]; rfl⟩
theorem callK_ok {Γ : Gam} {X : Cx} {W : WX} (k : Cok G lv P0 P C Γ X W) {f n : Nat} {ix : List Nat} {es ks : EL} {x : Str} {ys : List Expr} {kws : List Keyword} {p pos : Pos} (hc : Γ.calm = true) (hg : glB Γ x = true) (h3 : G.fn[f]?.map (·.1) = some x) (h4 : G.fn[f]?.map (·.2) = some ix.length) (h5 : ix.all (fun i => decide (i < ys.length + kws.length)) = true) (h6 : ys.length = n)
    (h7 : (match kwNames kws with | some ns => G.kw.contains (f, n, ns, ix) | none => false) = true) (hl : elLen es = ys.length) (hs : ys.all (fun e => !isStar e) = true) (hlk : elLen ks = kws.length) (ha : PA X ys (tL X.K P W (evL C es))) (hk : PK X kws (tL X.K P W (evL C ks))) :
    PE X (.Call (.Name x p) ys kws pos) (tE X.K P W (evE C (.callK f n ix es ks))) := by
  have hf : G.fn[f]? = some (x, ix.length) := by
    cases e : G.fn[f]? with
    | none => rw [e] at h3; cases h3
    | some q =>
      rw [e] at h3 h4
      obtain ⟨a, b⟩ := q
      cases h3
      cases h4
      rfl
  cases e : kwNames kws with
  | none => rw [e] at h7; cases h7
  | some ns =>
    rw [e] at h7
    have hmem : (f, n, ns, ix) ∈ G.kw := by simpa using h7
    obtain ⟨n1, n2, n3, n4⟩ := kw_names X.env pos e
    obtain ⟨ad, fd, ps, hm, hkp, hd, hps, hb, hF, hkw⟩ := k.G.fn f x _ hf
    obtain ⟨c1, c2, c3, c4, c5⟩ := k.calm hc
    have F := hF P k.pb c3 c4
    have hr : Room lv X.A := c2.mono (Nat.le_add_right _ _)
    have fin : ∀ (ds ws : List D) (st : Sto), ds.length = n → ws.length = ns.length → kwRun ps n ix (C.ft f) ns.length ds ws st = C.ft f (pick ix (ds ++ ws)) st := fun ds ws st q1 q2 => by
      unfold kwRun
      rw [if_pos ⟨q1, q2, by rw [pick_len (by rw [List.length_append, q1, q2, ← h6, n4]; exact h5), hps]⟩]
    cases ys with
    | nil =>
      cases es with
      | cons _ _ => simp [elLen] at hl
      | nil =>
        subst h6
        refine pe_same (q_callK0 F hr k.gd (k.gl hg) hm hkp (hkw 0 ns ix hmem) k.tk hk n1 n2 hd (by rw [n3]; rfl)) fun env st => ?_
        simp only [evE, evL]
        show _ = Res.bind _ _
        refine bind_len (n := ns.length) (fun ds s h => by rw [evL_len ks h, hlk, n4]) fun ds s h => ?_
        refine (fin [] ds s rfl h).trans ?_
        rfl
    | cons y ys =>
      have hs1 := hs
      rw [List.all_cons, Bool.and_eq_true, Bool.not_eq_true'] at hs1
      refine pe_same (q_callK F hr k.gd (k.gl hg) hm hkp (hkw n ns ix hmem) k.tk ha hk n1 n2 hd (star_cons ys X.env hs1.1) (by rw [n3, star_all X.env pos hs]; rfl)) fun env st => ?_
      simp only [evE]
      refine bind_len (n := n) (fun ds s h => by rw [evL_len es h, hl, h6]) fun ds s h => ?_
      refine bind_len (n := ns.length) (fun ws s h => by rw [evL_len ks h, hlk, n4]) fun ws s h' => ?_
      rw [fin ds ws s h h', if_pos h]
/-- the context of a lambda's body -/
theorem Cok.lamB {Γ : Gam} {X : Cx} {W : WX} (k : Cok G lv P0 P C Γ X W) {scope : Scope} (L : LamX.LamS X.env.scope scope) (hc : Γ.calm = true) (A : Around) (outer : List Env) (s : Shared) (H : Hp) (E : XK) (f c' : Addr) (hr : Room lv (A.deeper (LamX.lamEnv X scope s.heap.objs.size f c'))) (hg : A.guards = some []) :
    Cok G lv P0 P C (lamG Γ scope) (LamX.lamCx X A outer s H E scope f c') (fun c d _ H => E c d H) where
  pb := k.pb
  G := k.G
  N := k.N
  sc := rfl
  nd := k.nd
  fk := L.kind
  fnA := fun h => nomatch h
  calm := fun _ => ⟨rfl, hr, (k.calm hc).2.2.1, (k.calm hc).2.2.2.1, passes_of rfl⟩
  un := hr.units
  gd := hg
  tk := takes_of rfl rfl rfl rfl
  top := fun h => nomatch h
  lam := fun h => nomatch h
  th := fun a h => nomatch h
  ex := fun i n h => nomatch h
mutual
/-- targets of a block -/
theorem sTg {Γ : Gam} {X : Cx} {W : WX} {vs : List Nat} (k : Cok G lv P0 P C Γ X W) (hv : Γ.calm = true) : ∀ (t : Tg) (x : Expr), ckTg Γ t x = true → inTg vs t = true → PG X x (tPv X.K P vs (gT t))
  | .nm i, x, h, hi => by
    unfold ckTg at h
    split at h
    · rename_i i' x p e
      cases e
      rw [Bool.and_eq_true] at h
      obtain ⟨l1, l2⟩ := k.loc h.2
      unfold inTg at hi
      exact q_pvn (by simpa using hi) k.nd (k.slot h.1) l1 l2
    · rename_i e; cases e
    · cases h
  | .tp l, x, h, hi => by
    unfold ckTg at h
    split at h
    · rename_i e; cases e
    · rename_i l' xs kk p e
      cases e
      rw [Bool.and_eq_true] at h
      unfold inTg at hi
      obtain ⟨h1, h2⟩ := ckTgs_len h.2
      exact q_pvtup (k.calm hv).1 (sTgs k hv l xs h.2 hi) (by rw [asg_len, h1]) (asg_plain X.env h2)
    · cases h
theorem sTgs {Γ : Gam} {X : Cx} {W : WX} {vs : List Nat} (k : Cok G lv P0 P C Γ X W) (hv : Γ.calm = true) : ∀ (t : TgL) (xs : List Expr), ckTgs Γ t xs = true → inTgs vs t = true → PGs X xs (tPvs X.K P vs (gTs t))
  | .nil, [], _, _ => q_pvnil
  | .nil, _ :: _, h, _ => by simp [ckTgs] at h
  | .cons t l, [], h, _ => by simp [ckTgs] at h
  | .cons t l, x :: xs, h, hi => by
    simp only [ckTgs, Bool.and_eq_true, Bool.not_eq_true'] at h
    simp only [inTgs, Bool.and_eq_true] at hi
    exact q_pvcons (sTg k hv t x h.1.2 hi.1) (sTgs k hv l xs h.2 hi.2) (by rw [asg_each X.env h.1.1 xs]; rfl)
end
theorem ckP_len {Γ : Gam} : ∀ {ps : PL} {ks : List (Option Expr)} {vs : List Expr}, ckP G Γ ps ks vs = true → ks.all (·.isSome) = true ∧ ks.length = vs.length
  | .nil, [], [], _ => ⟨rfl, rfl⟩
  | .nil, _ :: _, _, h => by simp [ckP] at h
  | .nil, [], _ :: _, h => by simp [ckP] at h
  | .cons a b r, [], _, h => by simp [ckP] at h
  | .cons a b r, none :: _, _, h => by simp [ckP] at h
  | .cons a b r, some x :: xs, [], h => by simp [ckP] at h
  | .cons a b r, some x :: xs, y :: ys, h => by
    simp only [ckP, Bool.and_eq_true] at h
    obtain ⟨h1, h2⟩ := ckP_len h.2
    exact ⟨by rw [List.all_cons, h1]; rfl, by rw [List.length_cons, List.length_cons, h2]⟩
mutual
theorem sE {Γ : Gam} {X : Cx} {W : WX} (k : Cok G lv P0 P C Γ X W) (e : E) (x : Expr) (h : ckE G Γ e x = true) : PE X x (tE X.K P W (evE C e)) := by
  unfold ckE at h
  split at h
  · -- var
    simp only [Bool.and_eq_true] at h
    obtain ⟨d1, d2⟩ := okN_d h.2
    simp only [evE]
    exact q_var (k.slot h.1.1) (k.vis h.1.2) d1 d2
  · simp only [evE]; exact q_const pe_non fun _ _ => dv_non.mpr rfl
  · simp only [beq_iff_eq] at h; subst h; simp only [evE]; exact q_const pe_bl fun _ _ => dv_bl.mpr rfl
  · simp only [beq_iff_eq] at h; subst h; simp only [evE]; exact q_const pe_int fun _ _ => dv_int.mpr rfl
  · simp only [beq_iff_eq] at h; subst h; simp only [evE]; exact q_const pe_str fun _ _ => dv_str.mpr rfl
  · -- op
    rename_i o a b x p y pos
    simp only [Bool.and_eq_true, beq_iff_eq] at h
    obtain ⟨⟨rfl, h1⟩, h2⟩ := h
    simp only [evE]
    exact q_bin (op_ok o) (sE k a x h1) (sE k b y h2)
  · rename_i o a b x p y pos
    simp only [Bool.and_eq_true, beq_iff_eq] at h
    obtain ⟨⟨rfl, h1⟩, h2⟩ := h
    simp only [evE]
    exact q_cmp (cm_ok k.un o) (sE k a x h1) (sE k b y h2) (no_mark y)
  · rename_i o o' a b c x p p' y z pos
    simp only [Bool.and_eq_true, beq_iff_eq] at h
    obtain ⟨⟨⟨⟨rfl, rfl⟩, h1⟩, h2⟩, h3⟩ := h
    simp only [evE]
    exact q_chain (cm_ok k.un o) (cm_ok k.un o') (sE k a x h1) (sE k b y h2) (sE k c z h3) (no_mark z)
  · rename_i a b x y pos
    simp only [Bool.and_eq_true] at h
    simp only [evE]
    exact q_and (sE k a x h.1) (pe_one (sE k b y h.2))
  · rename_i a b x y z r p
    simp only [Bool.and_eq_true] at h
    simp only [evE]
    exact q_and (sE k a x h.1) (sE k b _ h.2)
  · rename_i a b x y pos
    simp only [Bool.and_eq_true] at h
    simp only [evE]
    exact q_or (sE k a x h.1) (pe_one (sE k b y h.2))
  · rename_i a b x y z r p
    simp only [Bool.and_eq_true] at h
    simp only [evE]
    exact q_or (sE k a x h.1) (sE k b _ h.2)
  · rename_i a x pos
    simp only [evE]
    exact q_not (sE k a x h)
  · rename_i a x pos
    simp only [evE]
    exact q_un neg_ok (sE k a x h)
  · rename_i c a b x y z pos
    simp only [Bool.and_eq_true] at h
    simp only [evE]
    exact q_if (sT k c x h.1.1) (sE k a y h.1.2) (sE k b z h.2)
  · rename_i es xs kk pos
    simp only [evE]
    exact q_tup (sL k es xs h)
  · rename_i es xs pos
    simp only [evE]
    exact q_lst (sL k es xs h)
  · rename_i a x j k1 p1 p2 p3 pos
    simp only [Bool.and_eq_true, beq_iff_eq] at h
    obtain ⟨rfl, h⟩ := h
    simp only [evE]
    exact q_rev (sE k a x h)
  · rename_i a lo hi x l u p pos
    simp only [Bool.and_eq_true] at h
    simp only [evE]
    exact q_slice (sE k a x h.1.1) (sO k lo l h.1.2) (sO k hi u h.2)
  · rename_i a b x y pos
    simp only [Bool.and_eq_true, Bool.not_eq_true'] at h
    simp only [evE]
    exact q_ix (ix_ok k.un) (sE k a x h.1.2) (sE k b y h.2) (plain_ix h.1.1)
  · rename_i f es x p y ys pos
    simp only [Bool.and_eq_true, beq_iff_eq] at h
    obtain ⟨⟨⟨⟨h1, h2⟩, h3⟩, h4⟩, h5⟩ := h
    simp only [evE]
    exact bf_ok k h1 h2 h3 h4 (ckL_len h5).2 (sL k es _ h5)
  · rename_i a t x p y T p2 pos
    simp only [Bool.and_eq_true, beq_iff_eq, Bool.not_eq_true'] at h
    obtain ⟨⟨⟨⟨⟨⟨⟨rfl, h2⟩, h3⟩, rfl⟩, h5⟩, h6⟩, h7⟩, h8⟩ := h
    simp only [evE]
    refine q_isi (x := ("isinstance" : Str)) (sE k a y h8) (k.gl h2) (k.bl h3 (by decide)) (pe_bty (k.gl h5) (k.bl h6 (by cases t <;> decide)) (by cases t <;> decide +kernel) (by cases t <;> decide +kernel) (by cases t <;> decide +kernel)) (star_cons _ X.env h7)
  · rename_i f es x p ys pos
    simp only [Bool.and_eq_true, beq_iff_eq] at h
    obtain ⟨⟨⟨h1, h2⟩, h3⟩, h4⟩ := h
    exact call_ok k h1 h2 h3 (ckL_len h4).1 (ckL_len h4).2 (sL k es ys h4)
  · rename_i f n ix es ks x p ys kws pos
    simp only [Bool.and_eq_true, beq_iff_eq] at h
    obtain ⟨⟨⟨⟨⟨⟨⟨⟨h1, h2⟩, h3⟩, h4⟩, h5⟩, h6⟩, h7⟩, h8⟩, h9⟩ := h
    exact callK_ok k h1 h2 h3 h4 h5 h6 h7 (ckL_len h8).1 (ckL_len h8).2 (ckK_len h9) (sL k es ys h8) (sK k ks kws h9)
  · rename_i m o es y nm ap ys cp
    simp only [Bool.and_eq_true, beq_iff_eq, Bool.not_eq_true'] at h
    obtain ⟨⟨⟨⟨⟨h1, h2⟩, h3⟩, h4⟩, h5⟩, h6⟩ := h
    simp only [evE]
    exact mt_ok k h1 h2 h3 (beq_iff_eq.mpr h4) (ckL_len h6).1 (ckL_len h6).2 (sE k o y h5) (sL k es ys h6)
  · rename_i o kk d y nm ap u v cp
    simp only [Bool.and_eq_true, beq_iff_eq, Bool.not_eq_true'] at h
    obtain ⟨⟨⟨⟨⟨⟨⟨rfl, h2⟩, h3⟩, h4⟩, h5⟩, h6⟩, h7⟩, h8⟩ := h
    simp only [evE]
    have hs : ([u, v] : List Expr).all (fun e => !isStar e) = true := by simp [h4, h5]
    exact q_get2 k.un (sE k o y h6) (sE k kk u h7) (sE k d v h8) ⟨attr_base _ _ _ h2, star_few X.env cp hs (by show 2 < 29; omega), beq_iff_eq.mpr h3, by rw [star_cons _ X.env h4, star_cons _ X.env h5]; rfl⟩
  · rename_i ps ks vs pos
    simp only [Bool.and_eq_true, decide_eq_true_eq] at h
    exact sD k ps ks vs h.1 h.2
  · rename_i it tg t e vs x tx ix ifs scope pos
    simp only [Bool.and_eq_true, Bool.not_eq_true'] at h
    obtain ⟨⟨⟨⟨⟨⟨⟨h1, h2⟩, h3⟩, h4⟩, h5⟩, h6⟩, h7⟩, h8⟩ := h
    have ok : BlkOk X.N X.env.scope scope (ownOf Γ vs) := by rw [k.N, k.sc]; exact blkOk_by h2
    have ho : (ownOf Γ vs).map (·.2) = vs := by
      unfold ownOf
      rw [List.map_map]
      exact List.map_id _
    simp only [evE]
    have z := q_lc (X := X) (P := P) (W := W) (own := ownOf Γ vs) (pos := pos) (k.calm h1).1 k.nd (sI k it tx ix h4) ok
      (fun s H L cl fp => sTg (k.blk ok.kind h1 s H L cl fp) h1 tg tx h5 (by rw [ho]; exact h6)) (fun s H L cl fp => sOT (k.blk ok.kind h1 s H L cl fp) t ifs h7) (fun s H L cl fp => sE (k.blk ok.kind h1 s H L cl fp) e x h8) (no_fold X.env h3)
    rw [ho] at z
    exact z
  · rename_i hh e x p ar body scope lp pos
    simp only [Bool.and_eq_true, beq_iff_eq] at h
    obtain ⟨⟨⟨⟨⟨⟨h1, h2⟩, h3⟩, h4⟩, h5⟩, h6⟩, h7⟩ := h
    obtain ⟨r2, c, t, e1, e2, e3, e4⟩ := k.lam h2
    obtain ⟨c1, c2, c3, c4, c5⟩ := k.calm h1
    rw [r2] at c2
    have L : LamX.LamS X.env.scope scope := by rw [k.sc]; exact LamX.lamS_by h5
    simp only [evE]
    exact k.G.ho hh x h4 X P W (evE C e) ar body scope p lp pos c t rfl rfl rfl rfl rfl k.pb c3 c4 (k.gl h3) e2 e1 e3 e4 c2 k.gd k.tk L h6 fun A outer s H E f c' hr hg => sE (k.lamB L h1 A outer s H E f c' hr hg) e body h7
  · rename_i x p pos
    simp only [beq_iff_eq] at h
    simp only [evE]
    exact k.th x h W X.pn X.xe p pos k.tk
  · rename_i i f n p g pos
    simp only [Bool.and_eq_true, beq_iff_eq] at h
    obtain ⟨h1, rfl⟩ := h
    obtain ⟨c, d, e1, e2⟩ := k.ex i n h1
    simp only [evE, thingR, e1]
    exact e2 W f p pos
  · cases h
termination_by (sizeOf e, 0)
theorem sT {Γ : Gam} {X : Cx} {W : WX} (k : Cok G lv P0 P C Γ X W) (e : E) (x : Expr) (h : ckE G Γ e x = true) : PT X x (tT X.K P W (evT C e)) := by
  have hE := sE k e x h
  by_cases hp : isPlainT x = true
  · -- truth of the value
    have plain := fun F (z : PE X x (tE X.K P W F)) => q_tru z (plain_t X.env hp)
    cases e with
    | var i => simp only [evE] at hE; simp only [evT]; exact plain _ hE
    | bl b => simp only [evE] at hE; simp only [evT]; exact plain _ hE
    | call f es => simp only [evE] at hE; simp only [evT]; exact plain _ hE
    | isi a t => simp only [evE] at hE; simp only [evT]; exact plain _ hE
    | ix a b => simp only [evE] at hE; simp only [evT]; exact plain _ hE
    | cmp o a b => exfalso; unfold ckE at h; split at h <;> first | contradiction | cases h
    | chain o p a b c => exfalso; unfold ckE at h; split at h <;> first | contradiction | cases h
    | and a b => exfalso; unfold ckE at h; split at h <;> first | contradiction | cases h
    | or a b => exfalso; unfold ckE at h; split at h <;> first | contradiction | cases h
    | not a => exfalso; unfold ckE at h; split at h <;> first | contradiction | cases h
    | ite c a b => exfalso; unfold ckE at h; split at h <;> first | contradiction | cases h
    | _ => simp only [evT]; exact q_terr
  · by_cases hb : isBo x = true
    · exact (sW k e x h hb).pt
    · unfold ckE at h
      split at h
      any_goals first
        | (exfalso; exact hp rfl)
        | (exfalso; exact hb rfl)
      · rename_i o a b x p y pos
        simp only [Bool.and_eq_true, beq_iff_eq] at h
        obtain ⟨⟨rfl, h1⟩, h2⟩ := h
        simp only [evT]
        exact q_tcmp (cm_ok k.un o) (sE k a x h1) (sE k b y h2) (no_mark y)
      · rename_i o o' a b c x p p' y z pos
        simp only [Bool.and_eq_true, beq_iff_eq] at h
        obtain ⟨⟨⟨⟨rfl, rfl⟩, h1⟩, h2⟩, h3⟩ := h
        simp only [evT]
        exact q_tchain (cm_ok k.un o) (cm_ok k.un o') (sE k a x h1) (sE k b y h2) (sE k c z h3) (no_mark z)
      · rename_i a x pos
        simp only [evT]
        exact q_tnot (sT k a x h)
      · rename_i c a b x y z pos
        simp only [Bool.and_eq_true] at h
        simp only [evT]
        exact q_tif (sT k c x h.1.1) (sT k a y h.1.2) (sT k b z h.2)
      · cases h
termination_by (sizeOf e, 2)
theorem sW {Γ : Gam} {X : Cx} {W : WX} (k : Cok G lv P0 P C Γ X W) (e : E) (x : Expr) (h : ckE G Γ e x = true) (hb : isBo x = true) : PW X x (tT X.K P W (evT C e)) := by
  unfold ckE at h
  split at h <;> first
    | (exact absurd hb Bool.false_ne_true)
    | skip
  · rename_i a b x y pos
    simp only [Bool.and_eq_true] at h
    simp only [evT]
    exact q_wand (sT k a x h.1) (pw_and1 (sT k b y h.2))
  · rename_i a b x y z r p
    simp only [Bool.and_eq_true] at h
    simp only [evT]
    exact q_wand (sT k a x h.1) (sW k b _ h.2 rfl)
  · rename_i a b x y pos
    simp only [Bool.and_eq_true] at h
    simp only [evT]
    exact q_wor (sT k a x h.1) (pw_or1 (sT k b y h.2))
  · rename_i a b x y z r p
    simp only [Bool.and_eq_true] at h
    simp only [evT]
    exact q_wor (sT k a x h.1) (sW k b _ h.2 rfl)
  · cases h
termination_by (sizeOf e, 1)
theorem sL {Γ : Gam} {X : Cx} {W : WX} (k : Cok G lv P0 P C Γ X W) (es : EL) (xs : List Expr) (h : ckL G Γ es xs = true) : PA X xs (tL X.K P W (evL C es)) := by
  unfold ckL at h
  split at h
  · simp only [evL]; exact q_nil
  · rename_i e es x xs
    simp only [Bool.and_eq_true, Bool.not_eq_true'] at h
    simp only [evL]
    exact q_cons (sE k e x h.1.2) (sL k es xs h.2) (star_cons xs X.env h.1.1)
  · cases h
termination_by (sizeOf es, 0)
theorem sK {Γ : Gam} {X : Cx} {W : WX} (k : Cok G lv P0 P C Γ X W) (es : EL) (xs : List Keyword) (h : ckK G Γ es xs = true) : PK X xs (tL X.K P W (evL C es)) := by
  unfold ckK at h
  split at h
  · simp only [evL]; exact q_knil
  · rename_i e es nm x kp xs
    simp only [Bool.and_eq_true] at h
    simp only [evL]
    exact q_kcons (sE k e x h.1) (sK k es xs h.2)
  · cases h
termination_by (sizeOf es, 0)
theorem sPP {Γ : Gam} {X : Cx} {W : WX} (k : Cok G lv P0 P C Γ X W) (ps : PL) (ks : List (Option Expr)) (vs : List Expr) (h : ckP G Γ ps ks vs = true) {pos : Pos} : PPs X pos ks vs ((evP C ps).map fun f => (tE X.K P W f.1, tE X.K P W f.2)) := by
  unfold ckP at h
  split at h
  · simp only [evP]; exact pps_nil
  · rename_i a b r x xs y ys
    simp only [Bool.and_eq_true] at h
    simp only [evP]
    exact pps_cons (sE k a x h.1.1) (sE k b y h.1.2) (sPP k r xs ys h.2)
  · cases h
termination_by (sizeOf ps, 0)
theorem sD {Γ : Gam} {X : Cx} {W : WX} (k : Cok G lv P0 P C Γ X W) (ps : PL) (ks : List (Option Expr)) (vs : List Expr) (hl : ks.length ≤ 15) (h : ckP G Γ ps ks vs = true) {pos : Pos} : PE X (.Dict ks vs pos) (tE X.K P W (evE C (.dict ps))) := by
  have z := fun pos => sPP k ps ks vs h (pos := pos)
  unfold ckP at h
  split at h
  · simp only [evE]; exact q_dnew
  · rename_i a b r x xs y ys
    simp only [evE]
    have z1 := z pos
    simp only [evP] at z1
    refine q_disp z1 ?_ ?_ (fun z => nomatch z) hl
    · exact (ckP_len (G := G) (Γ := Γ) (ps := .cons a b r) (ks := some x :: xs) (vs := y :: ys) (by unfold ckP; exact h)).1
    · exact (ckP_len (G := G) (Γ := Γ) (ps := .cons a b r) (ks := some x :: xs) (vs := y :: ys) (by unfold ckP; exact h)).2
  · cases h
termination_by (sizeOf ps, 1)
theorem sO {Γ : Gam} {X : Cx} {W : WX} (k : Cok G lv P0 P C Γ X W) (e : OE) (x : Option Expr) (h : ckO G Γ e x = true) : PO X x (tO X.K P W (evO C e)) := by
  unfold ckO at h
  split at h
  · simp only [evO]; exact q_non
  · rename_i e x
    simp only [evO]
    exact q_som (sE k e x h)
  · cases h
termination_by (sizeOf e, 0)
theorem sOT {Γ : Gam} {X : Cx} {W : WX} (k : Cok G lv P0 P C Γ X W) (e : OE) (x : List Expr) (h : ckT G Γ e x = true) : PTs X x (tT X.K P W (evOT C e)) := by
  unfold ckT at h
  split at h
  · simp only [evOT]; exact q_tsnil
  · rename_i e x
    simp only [evOT]
    exact q_tsone (sT k e x h)
  · cases h
termination_by (sizeOf e, 0)
theorem sI {Γ : Gam} {X : Cx} {W : WX} (k : Cok G lv P0 P C Γ X W) (e : IT) (tg : Expr) (x : Expr) (h : ckI G Γ e x = true) : PI X tg x (tI X.K P W (evI C e)) := by
  unfold ckI at h
  split at h
  · rename_i a x p y pos
    simp only [Bool.and_eq_true, beq_iff_eq, Bool.not_eq_true'] at h
    obtain ⟨⟨⟨⟨rfl, h2⟩, h3⟩, h4⟩, h5⟩ := h
    simp only [evI]
    exact q_rng1 (k.gl h2) (k.bl h3 (by decide)) (q_cons (sE k a y h5) q_nil (star_cons [] X.env h4)) (star_cons [] X.env h4)
  · rename_i a b x p y z pos
    simp only [Bool.and_eq_true, beq_iff_eq, Bool.not_eq_true'] at h
    obtain ⟨⟨⟨⟨⟨⟨rfl, h2⟩, h3⟩, h4⟩, h5⟩, h6⟩, h7⟩ := h
    simp only [evI]
    have e1 := star_cons [z] X.env h4
    have e2 := star_cons [] X.env h5
    exact q_rng2 (k.gl h2) (k.bl h3 (by decide)) (q_cons (sE k a y h6) (q_cons (sE k b z h7) q_nil e2) e1) (by rw [e1, e2]; rfl) (by rw [e2]; rfl)
  · rename_i a b c x p y z u pos
    simp only [Bool.and_eq_true, beq_iff_eq, Bool.not_eq_true'] at h
    obtain ⟨⟨⟨⟨⟨⟨⟨⟨rfl, h2⟩, h3⟩, h4⟩, h5⟩, h6⟩, h7⟩, h8⟩, h9⟩ := h
    simp only [evI]
    have e1 := star_cons [z, u] X.env h4
    have e2 := star_cons [u] X.env h5
    have e3 := star_cons [] X.env h6
    exact q_rng3 (k.gl h2) (k.bl h3 (by decide)) (q_cons (sE k a y h7) (q_cons (sE k b z h8) (q_cons (sE k c u h9) q_nil e3) e2) e1) e1 (star_all X.env pos (by simp [h5, h6]))
  · rename_i a x p y p2 z pos2 pos
    simp only [Bool.and_eq_true, beq_iff_eq, Bool.not_eq_true'] at h
    obtain ⟨⟨⟨⟨⟨⟨⟨rfl, rfl⟩, h3⟩, h4⟩, h5⟩, h6⟩, h7⟩, h8⟩ := h
    simp only [evI]
    exact q_rev1 (k.gl h3) (k.bl h5 (by decide)) (k.gl h4) (k.bl h6 (by decide)) (sE k a z h8) (star_cons [] X.env h7) (star_cons [] X.env rfl)
  · simp only [evI]
    exact q_itv (sE k _ _ h)
  · cases h
termination_by (sizeOf e, 0)
end
end
end Q
end

section
set_option Elab.async false
set_option linter.all false
set_option maxRecDepth 100000
set_option maxHeartbeats 8000000
set_option autoImplicit false
/-! Statements do what their syntax does. -/
namespace Q
open PySem PySem.Spec PyProof.Rows L2
section
variable {G : SG} {lv : Nat} {P0 : Par}
theorem SGok.ctx {prog : Program} {w : World} {K : PySem.W.Frag} {mg : Str → Option Value} {base : Heap} {C : Ctx} (h : SGok G lv prog w K mg base P0 C) (x : Option (Nat × D)) (t : Sto → Res D) : SGok G lv prog w K mg base P0 { C with ex := x, th := t } :=
  ⟨h.lv2, h.fn, h.cl, h.sub, h.eg, h.fnm, h.bl, h.gc, h.ho⟩
/-- the context of an except suite -/
theorem Cok.su {P : Par} {C : Ctx} {Γ : Gam} {X : Cx} {W : WX} (k : Cok G lv P0 P C Γ X W) {a dd : Addr} {oe : Obj} {c0 : Nat} {d0 : D} {pn : List (Addr × Obj)} {ex : Option (Nat × Str)} (hz : Zc (.ref (P.CA c0)) (some dd) oe) (hd : ∃ vs, oe.data = .fields vs)
    (hx : ∀ i n, ex = some (i, n) → Q.slot Γ i n = true ∧ lk Γ n = some .local ∧ okN n = true) : Cok G lv P0 (inX P a dd c0 d0) { C with ex := some (c0, d0), th := fun _ => .err } (suG Γ ex) (X.suite a ((a, oe) :: pn)) W0 where
  pb := k.pb
  G := k.G.ctx _ _
  N := k.N
  sc := k.sc
  nd := k.nd
  fk := k.fk
  fnA := k.fnA
  calm := fun h => nomatch h
  un := k.un
  gd := k.gd
  tk := takes0
  top := fun h => nomatch h
  lam := fun h => nomatch h
  th := fun a h => nomatch h
  ex := fun i n h => by
    obtain ⟨h1, h2, h3⟩ := hx i n h
    obtain ⟨d1, d2⟩ := okN_d h3
    refine ⟨c0, d0, rfl, fun W f p0 p1 => ?_⟩
    refine q_thing (X := X) (P := P) (a := a) (dd := dd) (oe := oe) (c0 := c0) (pn := pn) ?_ (fun z => ?_) hz hd (k.slot h1) (.inl (by rw [k.sc]; exact h2)) d1 d2 rfl
    · rw [k.pb.2.1, k.pb.2.2]; exact k.G.eg c0
    · have : f = C.fn c0 := of_decide_eq_true z
      rw [this, k.G.fnm, k.pb.2.2]
theorem names_of {l : List Expr} {ns : List (Str × Pos)} : namesOf l = some ns → l = ns.map fun p => Expr.Name p.1 p.2 := by
  induction l generalizing ns with
  | nil => intro h; cases h; rfl
  | cons e r ih =>
    intro h
    unfold namesOf at h
    split at h
    · rename_i e1; cases e1
    · rename_i x p r' e1
      cases e1
      cases hr : namesOf r with
      | none => rw [hr] at h; cases h
      | some m =>
        rw [hr] at h
        cases h
        rw [ih hr]
        rfl
    · cases h
theorem cls_ok {P : Par} {C : Ctx} {Γ : Gam} {X : Cx} {W : WX} (k : Cok G lv P0 P C Γ X W) {cs : List Nat} {ty : Expr} (h : ckCls G Γ cs ty = true) : TestOk X ty (cs.map fun c => .ref (P.CA c)) := by
  have one : ∀ {x : Str} {c : Nat}, glB Γ x = true → okN x = true → G.cls[c]?.map (·.1) = some x → Names X x (.ref (P.CA c)) := fun {x c} h1 h2 h3 => by
    cases e : G.cls[c]? with
    | none => rw [e] at h3; cases h3
    | some q =>
      obtain ⟨nm, f⟩ := q
      rw [e] at h3
      cases h3
      refine ⟨k.gl h1, (okN_d h2).1, .inl ?_⟩
      rw [k.pb.2.1]
      exact (k.G.cl c _ f e).1
  unfold ckCls at h
  split at h
  · rename_i x p
    split at h
    · rename_i c
      simp only [Bool.and_eq_true, beq_iff_eq] at h
      exact test_one (one h.1.1 h.1.2 h.2)
    · cases h
  · rename_i xs kk p
    split at h
    · rename_i l e
      simp only [Bool.and_eq_true, decide_eq_true_eq, beq_iff_eq, List.all_eq_true] at h
      obtain ⟨⟨⟨h1, h2⟩, h3⟩, h4⟩ := h
      rw [names_of e]
      refine test_tup (fun q hq => ?_) (by rw [List.length_map]; exact h3) (by rw [List.length_map]; omega)
      rw [List.zip_map_right] at hq
      obtain ⟨r, hr, rfl⟩ := List.mem_map.mp hq
      obtain ⟨⟨h5, h6⟩, h7⟩ := h4 r hr
      exact one h5 h6 h7
    · cases h
  · cases h
mutual
theorem sTg' {P : Par} {C : Ctx} {Γ : Gam} {X : Cx} {W : WX} (k : Cok G lv P0 P C Γ X W) : ∀ (t : Tg) (x : Expr), ckTg Γ t x = true → PG X x (tP X.K P (gT t))
  | .nm i, x, h => by
    unfold ckTg at h
    split at h
    · rename_i i' x p e
      cases e
      rw [Bool.and_eq_true] at h
      obtain ⟨l1, l2⟩ := k.loc h.2
      exact q_pgn k.nd (k.slot h.1) l1 l2
    · rename_i e; cases e
    · cases h
  | .tp l, x, h => by
    unfold ckTg at h
    split at h
    · rename_i e; cases e
    · rename_i l' xs kk p e
      cases e
      rw [Bool.and_eq_true] at h
      obtain ⟨h1, h2⟩ := ckTgs_len h.2
      exact q_pgtup (k.calm h.1).1 (sTgs' k l xs h.2) (by rw [asg_len, h1]) (asg_plain X.env h2)
    · cases h
theorem sTgs' {P : Par} {C : Ctx} {Γ : Gam} {X : Cx} {W : WX} (k : Cok G lv P0 P C Γ X W) : ∀ (t : TgL) (xs : List Expr), ckTgs Γ t xs = true → PGs X xs (tPs X.K P (gTs t))
  | .nil, [], _ => q_pgnil
  | .nil, _ :: _, h => by simp [ckTgs] at h
  | .cons t l, [], h => by simp [ckTgs] at h
  | .cons t l, x :: xs, h => by
    simp only [ckTgs, Bool.and_eq_true, Bool.not_eq_true'] at h
    exact q_pgcons (sTg' k t x h.1.2) (sTgs' k l xs h.2) (by rw [asg_each X.env h.1.1 xs]; rfl)
end
theorem bind_then {α β : Type} {r : Res α} {f : α → Sto → Res β} {env : Ev} {g : β → Sto → SR} : (r.bind f).then env g = r.then env fun a s => (f a s).then env g := by
  cases r <;> rfl
theorem lc_inv {Γ : Gam} {e : E} {elt : Expr} {gens : List Comprehension} {scope : Scope} {pos : Pos} (h : ckE G Γ e (.ListComp elt gens scope pos) = true) : ∃ it tg t e' vs tx ix ifs, e = .lc it tg t e' vs ∧ gens = [⟨tx, ix, ifs, 0⟩] ∧ Γ.calm = true ∧ blkC Γ.N Γ.sc scope (ownOf Γ vs) = true ∧ isSetE ix = false ∧ ckI G Γ it ix = true ∧ ckTg (blkG Γ scope) tg tx = true ∧ inTg vs tg = true ∧ ckT G (blkG Γ scope) t ifs = true ∧ ckE G (blkG Γ scope) e' elt = true := by
  unfold ckE at h
  split at h <;> first
    | contradiction
    | skip
  · rename_i e1
    cases e1
    simp only [Bool.and_eq_true, Bool.not_eq_true'] at h
    obtain ⟨⟨⟨⟨⟨⟨⟨c1, c2⟩, c3⟩, c4⟩, c5⟩, c6⟩, c7⟩, c8⟩ := h
    exact ⟨_, _, _, _, _, _, _, _, rfl, rfl, c1, c2, c3, c4, c5, c6, c7, c8⟩
theorem sw_lc {Γ : Gam} {elt : Expr} {gens : List Comprehension} {scope : Scope} {vp tp : Pos} {x : Str} {l : Nat} {env : Env} (hsc : env.scope = Γ.sc) (hk : Γ.sc.kind = .function) : swapsWith (.ListComp elt gens scope vp) (some (.Name x tp)) l env = pure (swB Γ scope vp x tp) := by
  have hb : env.blockKind = .function := by unfold Env.blockKind; rw [hsc, hk]; rfl
  have hl : env.kindOf x = lk Γ x := by unfold Env.kindOf lk; rw [hsc]
  unfold swapsWith swB
  simp only [hb, hl]
  rfl
mutual
theorem sS {P : Par} {C : Ctx} {Γ : Gam} {X : Cx} {W : WX} (k : Cok G lv P0 P C Γ X W) (s : S) (x : Stmt) (h : ckS G Γ s x = true) : PS X x (tS X.K P W (evS C s)) := by
  unfold ckS at h
  split at h
  · rename_i e x pos
    simp only [Bool.and_eq_true, Bool.not_eq_true'] at h
    simp only [evS]
    exact q_expr (sE k e x h.2) (no_swap _ _ _ h.1)
  · rename_i e x pos
    simp only [evS]
    exact q_ret (sE k e x h)
  · simp only [evS]; exact q_retN
  · rename_i i e x tp v pos
    simp only [Bool.and_eq_true] at h
    obtain ⟨⟨⟨h1, h2⟩, h3⟩, h4⟩ := h
    obtain ⟨l1, l2⟩ := k.loc h2
    simp only [evS]
    by_cases hc : isComp v = true
    · split at h4
      · rename_i elt gens scope vp
        obtain ⟨it, tg, t, e', vs, tx, ix, ifs, rfl, rfl, c1, c2, c3, c4, c5, c6, c7, c8⟩ := lc_inv h3
        cases hsw : swB Γ scope vp x tp with
        | false => exact q_set k.nd (k.slot h1) l1 (sE k _ _ h3) (by rw [sw_lc k.sc k.fk, hsw]) l2
        | true =>
          have ok : BlkOk X.N X.env.scope scope (ownOf Γ vs) := by rw [k.N, k.sc]; exact blkOk_by c2
          have ho : (ownOf Γ vs).map (·.2) = vs := by
            unfold ownOf
            rw [List.map_map]
            exact List.map_id _
          have hl : X.env.scope.names.lookup x = some .local := by
            unfold swB lk at hsw
            simp only [Bool.and_eq_true, beq_iff_eq] at hsw
            rw [k.sc]
            exact hsw.1.1
          have z := q_setLc (X := X) (P := P) (W := W) (own := ownOf Γ vs) (i := i) (spos := pos) (k.calm c1).1 k.nd (k.slot h1) hl (by rw [sw_lc k.sc k.fk, hsw]) (sI k it tx ix c4) ok
            (fun s H L cl fp => sTg (k.blk ok.kind c1 s H L cl fp) c1 tg tx c5 (by rw [ho]; exact c6)) (fun s H L cl fp => sOT (k.blk ok.kind c1 s H L cl fp) t ifs c7) (fun s H L cl fp => sE (k.blk ok.kind c1 s H L cl fp) e' elt c8) (no_fold X.env c3)
          rw [ho] at z
          simp only [evE]
          exact z
      · rw [hc] at h4; cases h4
    · have hc' : isComp v = false := by simpa using hc
      exact q_set k.nd (k.slot h1) l1 (sE k e v h3) (no_swap _ _ _ hc') l2
  · -- a, b = ..
    rename_i t e xs kk tp v pos
    simp only [Bool.and_eq_true, beq_iff_eq, Bool.not_eq_true'] at h
    obtain ⟨⟨⟨h1, h2⟩, h3⟩, h4⟩ := h
    simp only [evS]
    exact q_asg (sE k e v h3) (sTg' k t _ h1) (no_swap1 _ _ h2) (sw_ok k.sc k.fk h4) rfl
  · rename_i i j a b x px y py kk tp u v k2 p2 pos
    simp only [Bool.and_eq_true, beq_iff_eq, Bool.not_eq_true', bne_iff_ne, ne_eq] at h
    obtain ⟨⟨⟨⟨⟨⟨⟨⟨⟨⟨h1, h2⟩, h3⟩, h4⟩, h5⟩, h6⟩, h7⟩, h8⟩, h9⟩, h10⟩, h11⟩ := h
    refine ps_same (q_par2 (k.calm h1).1 k.nd (k.slot h2) (k.slot h3) h4 (by rw [k.sc]; exact h5) (by rw [k.sc]; exact h6) (q_cons (sE k a u h9) (q_cons (sE k b v h10) q_nil (star_cons [] X.env h8)) (star_cons [v] X.env h7)) (sw_ok k.sc k.fk h11) (no_swap1 _ _ rfl)) fun env st => ?_
    simp only [evS]
    cases evE C a env st with
    | ok d1 s1 =>
      simp only [Res.bind, Res.then]
      cases evE C b env s1 <;> rfl
    | exc c d s1 => rfl
    | err => rfl
  · rename_i i j l a b c x px y py z pz kk tp u v w k2 p2 pos
    simp only [Bool.and_eq_true, beq_iff_eq, Bool.not_eq_true', bne_iff_ne, ne_eq] at h
    obtain ⟨⟨⟨⟨⟨⟨⟨⟨⟨⟨⟨⟨⟨⟨⟨⟨h1, h2⟩, h3⟩, h4⟩, h5⟩, h6⟩, h7⟩, h8⟩, h9⟩, h10⟩, h11⟩, h12⟩, h13⟩, h14⟩, h15⟩, h16⟩, h17⟩ := h
    refine ps_same (q_par3 (k.calm h1).1 k.nd (k.slot h2) (k.slot h3) (k.slot h4) h5 h6 h7 (by rw [k.sc]; exact h8) (by rw [k.sc]; exact h9) (by rw [k.sc]; exact h10) (q_cons (sE k a u h14) (q_cons (sE k b v h15) (q_cons (sE k c w h16) q_nil (star_cons [] X.env h13)) (star_cons [w] X.env h12)) (star_cons [v, w] X.env h11)) (sw_ok k.sc k.fk h17) (no_swap1 _ _ rfl)) fun env st => ?_
    simp only [evS]
    cases evE C a env st with
    | ok d1 s1 =>
      simp only [Res.bind, Res.then]
      cases evE C b env s1 with
      | ok d2 s2 =>
        simp only [Res.bind, Res.then]
        cases evE C c env s2 <;> rfl
      | exc c d s1 => rfl
      | err => rfl
    | exc c d s1 => rfl
    | err => rfl
  · rename_i o i v x y p z pos
    simp only [Bool.and_eq_true] at h
    simp only [evS]
    exact q_put k.un (sE k o x h.1.1) (sE k i y h.1.2) (sE k v z h.2) (by cases z <;> rfl)
  · rename_i c a b x y z pos
    simp only [Bool.and_eq_true] at h
    simp only [evS]
    exact q_sif (sT k c x h.1.1) (sSs k a y h.1.2) (sSs k b z h.2)
  · rename_i t it b tx ix body pos
    simp only [Bool.and_eq_true, Bool.not_eq_true'] at h
    obtain ⟨⟨⟨⟨h1, h2⟩, h3⟩, h4⟩, h5⟩ := h
    simp only [evS]
    exact q_for (k.calm h1).2.2.2.2 (k.calm h1).1 (sI k it tx ix h3) (sTg' k t tx h4) (sSs k b body h5) (no_fold X.env h2)
  · rename_i c b x body pos
    simp only [Bool.and_eq_true] at h
    simp only [evS]
    exact q_while C.fuel (k.calm h.1.1).2.2.2.2 (sT k c x h.1.2) (sSs k b body h.2)
  · simp only [evS]; exact q_break
  · simp only [evS]; exact q_cont
  · simp only [evS]; exact q_pass
  · rename_i c e x p y pos pos2
    simp only [Bool.and_eq_true, beq_iff_eq, Bool.not_eq_true'] at h
    obtain ⟨⟨⟨⟨h1, h2⟩, h3⟩, h4⟩, h5⟩ := h
    cases e1 : G.cls[c]? with
    | none => rw [e1] at h3; cases h3
    | some q =>
      obtain ⟨nm, f⟩ := q
      rw [e1] at h3
      cases h3
      obtain ⟨g1, g2, g3, fI, fd, ps, g4, g5, g6, g7, g8⟩ := k.G.cl c _ f e1
      obtain ⟨c1, c2, c3, c4, c5⟩ := k.calm h1
      have hr : Room (1 + 1) X.A := c2.mono (Nat.le_trans k.G.lv2 (Nat.le_add_right _ _))
      rw [← k.pb.2.1] at g1 g3 g4 g6
      rw [← k.pb.2.2] at g6
      refine ps_same (q_raise (c := c) rfl rfl g3 g4 g5 g6 g7 hr g8 (k.gl h2) g1 c1 k.tk (q_cons (sE k e y h5) q_nil (star_cons [] X.env h4)) g2 (star_cons [] X.env h4) (fun _ => rfl)) fun env st => ?_
      simp only [evS]
      cases evE C e env st <;> rfl
  · rename_i b hs body h0 hds pos
    simp only [Bool.and_eq_true] at h
    obtain ⟨⟨⟨h1, h2⟩, h3⟩, h4⟩ := h
    obtain ⟨t1, t2, t3⟩ := k.top h2
    obtain ⟨c1, c2, c3, c4, c5⟩ := k.calm h1
    simp only [evS]
    exact q_try t1 t2 k.nd k.tk (fun a b => by rw [k.pb.2.1]; exact k.G.sub a b) c3 c4 (fun W' pn xe tk ow => sSs (k.tr tk ow t3) b body h3) (sH k hs (h0 :: hds) h4)
  · cases h
termination_by (sizeOf s, 0)
theorem sSs {P : Par} {C : Ctx} {Γ : Gam} {X : Cx} {W : WX} (k : Cok G lv P0 P C Γ X W) (s : SL) (x : List Stmt) (h : ckSs G Γ s x = true) : PSs X x (tS X.K P W (evSs C s)) := by
  unfold ckSs at h
  split at h
  · simp only [evSs]; exact q_snil
  · rename_i s r x xs
    simp only [Bool.and_eq_true] at h
    simp only [evSs]
    exact q_scons (sS k s x h.1) (sSs k r xs h.2)
  · cases h
termination_by (sizeOf s, 0)
theorem sH {P : Par} {C : Ctx} {Γ : Gam} {X : Cx} {W : WX} (k : Cok G lv P0 P C Γ X W) (s : HL) (x : List ExceptHandler) (h : ckH G Γ s x = true) : ClsOk X x ((evH C s).map (clOf X.K P)) := by
  unfold ckH at h
  split at h
  · simp only [evH]; exact .nil
  · rename_i cs su r ty b0 suite p hds
    simp only [Bool.and_eq_true] at h
    obtain ⟨⟨h1, h2⟩, h3⟩ := h
    simp only [evH, List.map_cons]
    exact .one (c := clOf X.K P (cs, none, fun c d => evSs { C with ex := some (c, d), th := fun _ => .err } su)) (cls_ok k h1) rfl (su_ok fun a dd oe c0 d0 pn hz hd => sSs (k.su (ex := none) hz hd fun i n z => by cases z) su (b0 :: suite) h2) (sH k r hds h3)
  · rename_i cs i su r ty n b0 suite p hds
    simp only [Bool.and_eq_true, beq_iff_eq] at h
    obtain ⟨⟨⟨⟨⟨h1, h2⟩, h3⟩, h4⟩, h5⟩, h6⟩ := h
    simp only [evH, List.map_cons]
    refine .as (c := clOf X.K P (cs, some i, fun c d => evSs { C with ex := some (c, d), th := fun _ => .err } su)) (cls_ok k h1) rfl (k.slot h2) (by show X.env.scope.names.lookup n = _; rw [k.sc]; exact h3) (su_ok fun a dd oe c0 d0 pn hz hd => sSs (k.su hz hd fun i' n' z => ?_) su (b0 :: suite) h5) (sH k r hds h6)
    cases z
    exact ⟨h2, h3, h4⟩
  · cases h
termination_by (sizeOf s, 0)
end
end
end Q
end

section
set_option Elab.async false
set_option linter.all false
set_option maxRecDepth 100000
set_option maxHeartbeats 2000000
set_option autoImplicit false
/-! The end of a law: its function by data, called at a script. -/
namespace Q
open PySem PySem.Spec PyProof.Rows L2
/-- what is tracked at the call: the script, if it is not of the written part, and the tables -/
def hp0 (K : PySem.W.Frag) (a : Addr) (vs : List Value) (ns : List Int) (ts : List Addr) : Hp := fun b =>
  if b = a ∧ K.lookup a = none then some (.frz { cls := .type "list", data := .seq vs.toArray } (.lst (ns.map V.int))) else if b ∈ ts then some (.tbl #[]) else none
/-- the wish: the script's list is read off, the tables are empty -/
def LawF (P : Program) (w : World) (K : PySem.W.Frag) (mg : Str → Option Value) (base : Heap) (fa : Addr) (cs : List (Addr × Addr)) (fd : FuncData) (x : Str) (n : Nat) : Prop :=
  ∀ (s : Shared) (H : Hp) (a : Addr) (ns : List Int) (us : List Value), Env0 P w K mg base callerA [] s H → BindsTo s fd ⟨us, []⟩ ([x].zip us) → Vals [.ref a] us → SqF K H a (ns.map V.int) → (∀ p ∈ cs, H p.2 = some (.tbl #[])) → ns.length ≤ n → (∀ z ∈ ns, Builtin.Int.intBits z ≤ 1048576) →
    codeAny (model P w) callerA (.call (.ref fa) ⟨us, []⟩) (CR (L2.CX P w) [] P w H s (fun v _ => v = .bl true) fun _ _ _ => False) s
section
variable {P : Program} {w : World} {K : PySem.W.Frag} {mg mb : Str → Option Value} {fa a : Addr} {cs : List (Addr × Addr)} {fd : FuncData} {x : Str} {s : Shared} {vs : List Value} {ns : List Int} {n : Nat}
theorem law_callQ (kin : K.In s.heap) (hns : s.heap.Ns mainGlobals mg) (hbl : s.heap.Ns builtinsNs mb) (hbb : ∀ x : Str, x ≠ "__name__" → mb x = bootBuiltins x) (hlim : s.heap.NoLimit) (hgen : s.gens = #[]) (tb : ∀ p ∈ cs, s.heap.get? p.2 = some { cls := .none, data := .fields #[] }) (nt : ∀ p ∈ cs, K.lookup p.2 = none) (hd : ∀ p ∈ cs, PySem.W.CodeHd s.heap p.1 p.2)
    (hbm : ∃ (bm : Addr) (ob : Obj), mg "__builtins__" = some (.ref bm) ∧ bm ≠ builtinsNs ∧ s.heap.get? bm = some ob ∧ ob.cls = .type "module" ∧ ob.dict = some builtinsNs ∧ ob.data = .plain) (ha : s.heap.get? a = some { cls := .type "list", data := .seq vs.toArray }) (hi : IntsAre vs ns) (hl : ns.length ≤ n) (hn : n ≤ sizeLine) (hbits : ∀ z ∈ ns, Builtin.Int.intBits z ≤ 1048576)
    (F : ∀ base : Heap, K.In base → base.Ns mainGlobals mg → (∀ p ∈ cs, LamX.TabB base mg p.1 p.2) → LawF P w K mg base fa cs fd x n) (bnd : ∀ (s : Shared) (u : Value), BindsTo s fd ⟨[u], []⟩ [(x, u)]) :
    codeAny (model P w) callerA (.call (.ref fa) ⟨[.ref a], []⟩) (fun r s' => r = .ok (.ret (.bool true)) ∧ OldK s.heap s'.heap ∧ s'.os = s.os ∧ AllBare s'.gens) s := by
  have rv := vals_ints hi
  have ll := hi.length
  let ts := cs.map (·.2)
  have inT : ∀ p ∈ cs, p.2 ∈ ts := fun p hp => List.mem_map.mpr ⟨p, hp, rfl⟩
  have ofT : ∀ {b : Addr}, b ∈ ts → ∃ p ∈ cs, p.2 = b := fun hb => by obtain ⟨p, hp, e⟩ := List.mem_map.mp hb; exact ⟨p, hp, e⟩
  have getT : ∀ {b : Addr}, b ∈ ts → s.heap.get? b = some { cls := .none, data := .fields #[] } := fun hb => by
    obtain ⟨p, hp, rfl⟩ := ofT hb
    exact tb p hp
  have naT : a ∉ ts := fun z => by
    have q := getT z
    rw [ha] at q
    exact nomatch (congrArg Obj.data (Option.some.inj q) : Data.seq vs.toArray _ = Data.fields #[])
  obtain ⟨H, eH⟩ : ∃ H, H = hp0 K a vs ns ts := ⟨_, rfl⟩
  have atT : ∀ {b : Addr}, b ∈ ts → H b = some (.tbl #[]) := fun {b} hb => by
    rw [eH]
    unfold hp0
    have nb : ¬ (b = a ∧ K.lookup a = none) := fun z => naT (by rw [← z.1]; exact hb)
    rw [if_neg nb, if_pos hb]
  have only : ∀ {b : Addr} {u : HO}, H b = some u → (b = a ∧ K.lookup a = none ∧ u = .frz { cls := .type "list", data := .seq vs.toArray } (.lst (ns.map V.int))) ∨ (b ∈ ts ∧ u = .tbl #[]) := fun {b u} e => by
    rw [eH] at e
    unfold hp0 at e
    split at e
    · rename_i q; cases e; exact .inl ⟨q.1, q.2, rfl⟩
    · split at e
      · rename_i q; cases e; exact .inr ⟨q, rfl⟩
      · cases e
  have sq : SqF K H a (ns.map V.int) := by
    cases hk : K.lookup a with
    | none => exact .inl ⟨_, by rw [eH]; unfold hp0; rw [if_pos ⟨rfl, hk⟩]⟩
    | some o =>
      have e := kin a o hk
      rw [ha] at e
      cases e
      exact .inr ⟨_, vs.toArray, _, hk, rfl, rfl, rfl, by rw [List.size_toArray, ll]; exact Nat.le_trans hl hn, by simpa using rv⟩
  have hok : HOk P w H s.heap := fun b u e => by
    rcases only e with ⟨rfl, _, rfl⟩ | ⟨hb, rfl⟩
    · exact ⟨ha, by rw [List.length_map]; exact Nat.le_trans hl hn, vs, _, rv, ha⟩
    · exact getT hb
  -- what is neither a sequence nor a record without fields is not tracked
  have off : ∀ {b : Addr} {o : Obj}, s.heap.get? b = some o → (∀ us k, o.data ≠ .seq us k) → o.data ≠ .fields #[] → H b = none := fun {b o} e n1 n2 => by
    cases q : H b with
    | none => rfl
    | some u =>
      rcases only q with ⟨rfl, _, _⟩ | ⟨hb, _⟩
      · rw [ha] at e; cases e; exact (n1 _ _ rfl).elim
      · rw [getT hb] at e; cases e; exact (n2 rfl).elim
  have offD : ∀ {b : Addr} {o : Obj} {es : Array DictEntry} {k : Nat}, s.heap.get? b = some o → o.data = .dict es k → H b = none := fun e d => off e (fun us k z => by rw [d] at z; cases z) fun z => by rw [d] at z; cases z
  have nsB : ∀ {b : Addr} {m : Str → Option Value}, s.heap.Ns b m → (hidT s.heap H).Ns b m := fun ⟨o, es, k, e, d, r⟩ => ⟨o, es, k, hidT_get e (offD e d), d, r⟩
  have kB : K.In (hidT s.heap H) := fun b o e => hidT_get (kin b o e) (by
    cases q : H b with
    | none => rfl
    | some u =>
      rcases only q with ⟨rfl, z, _⟩ | ⟨hb, _⟩
      · rw [z] at e; cases e
      · obtain ⟨p, hp, rfl⟩ := ofT hb
        rw [nt p hp] at e; cases e)
  have gl : ∀ {b : Addr}, b = mainGlobals → ∃ (o : Obj) (es : Array DictEntry) (k : Nat), s.heap.get? b = some o ∧ o.data = .dict es k := fun {b} e => by
    subst e
    obtain ⟨o, es, k, h1, h2, _⟩ := hns
    exact ⟨o, es, k, h1, h2⟩
  have tB : ∀ p ∈ cs, LamX.TabB (hidT s.heap H) mg p.1 p.2 := fun p hp => by
    refine ⟨?_, ?_, fun z => ?_⟩
    · obtain ⟨o, us, file, tf, flags, tg, inF, text, tt, e1, r1, r2, r3, r4⟩ := hd p hp
      exact ⟨o, us, file, tf, flags, tg, inF, text, tt, hidT_get e1 (off e1 (fun us k z => by rw [r2] at z; cases z) fun z => by rw [r2] at z; cases z; simp at r3), r1, r2, r3, r4⟩
    · obtain ⟨bm, ob, b1, b2, b3, b4, b5, b6⟩ := hbm
      have nP : bm ≠ p.2 := fun q => by rw [q, tb p hp] at b3; cases b3; cases b6
      have nG : bm ≠ mainGlobals := fun q => by
        obtain ⟨o, es, k, e, dd⟩ := gl q
        rw [b3] at e; cases e; rw [b6] at dd; cases dd
      exact ⟨bm, ob, b1, b2, nG, nP, hidT_get b3 (off b3 (fun us k z => by rw [b6] at z; cases z) fun z => by rw [b6] at z; cases z), b4, b5, b6⟩
    · obtain ⟨o, es, k, e, dd⟩ := gl rfl
      rw [z, tb p hp] at e; cases e; cases dd
  have hM : L2.Mod K mg (hidT s.heap H) := ⟨kB, nsB hns, ⟨mb, nsB hbl, hbb⟩, let ⟨mc, h1, h2⟩ := hlim; ⟨mc, nsB h1, h2⟩⟩
  have e0 : Env0 P w K mg (hidT s.heap H) callerA [] s H := ⟨rfl, hM, fun b o e => of_hidT e, Nat.le_of_eq (hidT_size _ _), trivial, fun b hb => (nomatch (show b ∈ ([] : List Addr) from hb)), hok, .of_eq hgen⟩
  refine codeAny_mono (F _ kB (nsB hns) tB s H a ns [.ref a] e0 (bnd s (.ref a)) (.cons rfl .nil) sq (fun p hp => atT (inT p hp)) hl hbits) fun r s' h => ?_
  cases r with
  | error e =>
    obtain ⟨_, _, _, _, _, _, _, _, _, _, _, _, z⟩ := h
    exact z.elim
  | ok fl =>
    cases fl with
    | next => exact False.elim h
    | brk => exact False.elim h
    | cont => exact False.elim h
    | ret u =>
      obtain ⟨v, H', os, bare, un, hok', r', q⟩ := h
      obtain rfl : v = .bl true := q
      obtain rfl : u = Value.bool true := r'
      have nof : ∀ b : Addr, b ∉ frs ([] : List Env) := fun b z => nomatch (show b ∈ ([] : List Addr) from z)
      have stays : ∀ b o, b ∉ ts → s.heap.get? b = some o → s'.heap.get? b = some o := fun b o nb e => by
        cases q : H b with
        | none => exact un.keep b o e q (nof b) (by simp)
        | some u =>
          rcases only q with ⟨rfl, _, rfl⟩ | ⟨hb, _⟩
          · have z2 := un.frzs b _ _ q
            obtain ⟨e2, _⟩ := hok' b _ z2
            rw [ha] at e; cases e
            exact e2
          · exact absurd hb nb
      have grown : ∀ {b : Addr}, b ∈ ts → ∃ more : Array Value, s'.heap.get? b = some { cls := .none, data := .fields more } := fun {b} hb => by
        obtain ⟨more, z⟩ := un.tbls b #[] (atT hb)
        exact ⟨_, hok' b _ z⟩
      refine ⟨rfl, ⟨fun b o e => ?_, fun b o e => ?_⟩, os, bare⟩
      · by_cases hb : b ∈ ts
        · obtain ⟨p, hp, rfl⟩ := ofT hb
          obtain ⟨more, hm⟩ := grown hb
          rw [tb p hp] at e
          cases e
          exact .inr (.inl ⟨((hd p hp).tab (tb p hp)).isCodeTable, rfl, #[], more, rfl, by rw [Array.empty_append]; exact hm⟩)
        · exact .inl (stays b o hb e)
      · by_cases hb : b ∈ ts
        · obtain ⟨more, hm⟩ := grown hb
          exact ⟨_, hm⟩
        · exact ⟨o, stays b o hb e⟩
end
/-- what is known of the law at the head's heap -/
def LawQ (l : PySem.W.OpenLaw) (w : World) (K : PySem.W.Frag) (n : Nat) (x : Str) (mg : Str → Option Value) (fa : Addr) (h : Heap) : Prop :=
  ∃ (fd : FuncData) (cs : List (Addr × Addr)), (∀ p ∈ cs, h.get? p.2 = some { cls := .none, data := .fields #[] }) ∧ (∀ p ∈ cs, K.lookup p.2 = none) ∧ (∀ p ∈ cs, PySem.W.CodeHd h p.1 p.2) ∧ (∀ (s : Shared) (u : Value), BindsTo s fd ⟨[u], []⟩ [(x, u)]) ∧
    ∀ base : Heap, K.In base → base.Ns mainGlobals mg → (∀ p ∈ cs, LamX.TabB base mg p.1 p.2) → LawF l.prog w K mg base fa cs fd x n
theorem walk_ofQ {l : PySem.W.OpenLaw} {n : Nat} {q : Program} {loose : List Str} {XP : (Str → Option Value) → Heap → Prop} {YP : World → Heap → Prop} {d : DefRec} {K : Params → PySem.W.Frag} {x : Str} (hm : l.most = some n) (hm2 : n ≤ sizeLine) (hdf : d.params.defaults = []) (hY : ∀ (w : World) (h : Heap), YP w h → (K w.params).In h)
    (F : ∀ (w : World) (mg : Str → Option Value) (fa : Addr) (h : Heap), YP w h → (K w.params).In h → h.Ns mainGlobals mg → mg d.name = some (.ref fa) → LawQ l w (K w.params) n x mg fa h) : PySem.W.WalkO q loose XP YP l.row.toRowW d [] (fun f vs => PySem.call f vs) := by
  refine Att.attach_callB hm hdf fun w s0 s1 mg mb fa o pm cd doc a vs ns G Y ho hd hcd hmg hobj hints hlen hbits hg => ?_
  obtain ⟨fd, cs, t1, t2, t3, t4, t5⟩ := F w mg fa _ Y (hY w _ Y) G.T.g hmg
  exact law_callQ (hY w _ Y) G.T.g G.T.b G.T.builtins G.T.nolimit hg t1 t2 t3 G.T.bmain hobj hints hlen hm2 hbits t5 t4
end Q
end

section
set_option Elab.async false
set_option linter.all false
set_option maxRecDepth 100000
set_option maxHeartbeats 2000000
set_option autoImplicit false
/-! Tables of functions; the law's own. -/
namespace Q
open PySem PySem.Spec PyProof.Rows L2
/-- the name of a lambda made in a def -/
def lamQ (qual : Str) : Str := qual ++ ".<locals>." ++ "<lambda>"
structure Fd where
  N : List Str
  ps : List Str
  body : SL
  lam : Bool := false
structure PT where
  sg : SG
  fd : List Fd
  hd : List Fd
  sub : Nat → Nat → Bool
  fn : Nat → Str
def hoC (T : PT) (fu : Nat) (ft : Nat → List D → Sto → Res D) (th : Sto → Res D) : Ctx := ⟨ft, fun _ _ _ => .err, th, fu, T.sub, T.fn, none⟩
def hoF (T : PT) (fu : Nat) (ft : Nat → List D → Sto → Res D) (h : Nat) (th : Sto → Res D) (st : Sto) : Res D := match T.hd[h]? with
  | some F => ofSR (evSs (hoC T fu ft th) F.body (envL F.N.length) st)
  | none => .err
def mkC (T : PT) (fu : Nat) (ft : Nat → List D → Sto → Res D) : Ctx := ⟨ft, hoF T fu ft, fun _ => .err, fu, T.sub, T.fn, none⟩
def callF (T : PT) (fu : Nat) : Nat → Nat → List D → Sto → Res D
  | 0, _, _, _ => .err
  | n + 1, f, ds, st => match T.fd[f]? with
    | some F => ofSR (evSs (mkC T fu (callF T fu n)) F.body (env0 F.N.length ds) st)
    | none => .err
def defG (F : Fd) (scope : Scope) : Gam := ⟨F.N, scope, true, true, true, F.lam, 2, none, none⟩
def hoG (F : Fd) (scope : Scope) (a : Str) : Gam := ⟨F.N, scope, true, true, true, false, 1, some a, none⟩
section
variable (T : PT) (prog : Program) (w : World) (K : PySem.W.Frag) (mg : Str → Option Value) (base : Heap) (P0 : Par)
def FnW (f : Nat) (nm : Str) (F : Fd) : Prop := ∃ (ad : Addr) (name qual : Str) (params : Arguments) (text : List Stmt) (scope : Scope) (dV kV doc pm cdv ct oc : Value) (an od : Option Addr) (osl : Array (Option Value)),
  mg nm = some (.ref ad) ∧ PySem.W.keepIn K (.ref ad) = true ∧ (nm == ("__debug__" : Str)) = false ∧ K.lookup ad = some ⟨oc, od, .func (PySem.W.fnOf name qual params text scope dV kV doc pm an cdv ct), osl⟩ ∧ PySem.W.codeIn K cdv qual = true ∧ FnScope F.N F.ps scope ∧
  (∀ us : List Value, us.length = F.ps.length → bindArgs (PySem.W.fnOf name qual params text scope dV kV doc pm an cdv ct) ⟨us, []⟩ = pure (F.ps.zip us)) ∧ (∀ (n : Nat) (ks : List Str) (ix : List Nat), (f, n, ks, ix) ∈ T.sg.kw → KwB (PySem.W.fnOf name qual params text scope dV kV doc pm an cdv ct) F.ps ks n ix) ∧
  ckSs T.sg (defG F scope) F.body text = true ∧ (F.lam = true → ∃ c t, cdv = .ref c ∧ LamX.TabB base mg c t ∧ (t, lamQ qual) ∈ P0.T ∧ ∀ p ∈ P0.T, p.1 = t → p.2 = lamQ qual)
def HoW (nm : Str) (F : Fd) : Prop := ∃ (a : Str) (g : Addr) (qual : Str) (params : Arguments) (text : List Stmt) (scope : Scope) (dV kV doc pm cdv ct oc : Value) (an od : Option Addr) (osl : Array (Option Value)),
  F.ps = [a] ∧ mg nm = some (.ref g) ∧ PySem.W.keepIn K (.ref g) = true ∧ (nm == ("__debug__" : Str)) = false ∧ K.lookup g = some ⟨oc, od, .func (PySem.W.fnOf nm qual params text scope dV kV doc pm an cdv ct), osl⟩ ∧ PySem.W.codeIn K cdv qual = true ∧ FnScope F.N [a] scope ∧ F.N[0]? = some a ∧ Vis scope a ∧ okN a = true ∧
  (∀ us : List Value, us.length = 1 → bindArgs (PySem.W.fnOf nm qual params text scope dV kV doc pm an cdv ct) ⟨us, []⟩ = pure ([a].zip us)) ∧ ckSs T.sg (hoG F scope a) F.body text = true
def ClW (c : Nat) (nm f : Str) : Prop := P0.FN c = f ∧ mg nm = some (.ref (P0.CA c)) ∧ (nm == ("__debug__" : Str)) = false ∧ OwnE K (P0.CA c) ∧ ∃ (fI : Addr) (fd : FuncData) (ps : List Str), PySem.W.findIn K (.ref (P0.CA c)) "__init__" = some (some (.ref fI)) ∧ PySem.W.typeIn K (.ref fI) = some (.type "function") ∧
  FnOk prog w K mg base (L2.CX prog w) 1 fI fd ps (InitSp (P0.CA c) (P0.FN c)) ∧ ps.length = 2 ∧ ∀ us : List Value, us.length = 2 → bindArgs fd ⟨us, []⟩ = pure (ps.zip us)
/-- all that is known of the written part -/
structure Wld : Prop where
  fn : ∀ (f : Nat) (nm : Str) (ar : Nat), T.sg.fn[f]? = some (nm, ar) → ∃ F, T.fd[f]? = some F ∧ F.ps.length = ar ∧ FnW T K mg base P0 f nm F
  ho : ∀ (h : Nat) (nm : Str), T.sg.ho[h]? = some nm → ∃ F, T.hd[h]? = some F ∧ HoW T K mg nm F
  cl : ∀ (c : Nat) (nm f : Str), T.sg.cls[c]? = some (nm, f) → ClW prog w K mg base P0 c nm f
  sub : ∀ a b, PySem.W.exmOne K (.ref (P0.CA a)) (.ref (P0.CA b)) = some (T.sub a b)
  eg : ∀ c, ExG K (P0.CA c) (P0.FN c)
  fnm : T.fn = P0.FN
  bl : ∀ x ∈ T.sg.blt, x ≠ ("gcd" : Str) → mg x = none
  gc : ("gcd" : Str) ∈ T.sg.blt → mg "gcd" = some (.builtin "math.gcd")
end
section
variable {T : PT} {prog : Program} {w : World} {K : PySem.W.Frag} {mg : Str → Option Value} {base : Heap} {P0 : Par}
theorem q_eerr {X : Cx} {P : Par} {W : WX} {x : Expr} : PE X x (tE X.K P W fun _ _ => .err) := ⟨fun pins s σ H Q I h => by
  obtain ⟨M, env, st, sl, at_, p⟩ := h
  exact p.elim⟩
/-- what holds of the functions at one depth -/
def Lvl (T : PT) (prog : Program) (w : World) (K : PySem.W.Frag) (mg : Str → Option Value) (base : Heap) (P0 : Par) (lv : Nat) (ft : Nat → List D → Sto → Res D) : Prop :=
  ∀ (f : Nat) (nm : Str) (ar : Nat), T.sg.fn[f]? = some (nm, ar) → ∃ (ad : Addr) (fd : FuncData) (ps : List Str), mg nm = some (.ref ad) ∧ PySem.W.keepIn K (.ref ad) = true ∧ (nm == ("__debug__" : Str)) = false ∧ ps.length = ar ∧ (∀ us : List Value, us.length = ps.length → bindArgs fd ⟨us, []⟩ = pure (ps.zip us)) ∧
    (∀ P, PB P0 P → P.XV = [] → P.xa 0 = none → FnS prog w K mg base P lv ad fd ps (ft f)) ∧ ∀ (n : Nat) (ks : List Str) (ix : List Nat), (f, n, ks, ix) ∈ T.sg.kw → KwB fd ps ks n ix
theorem cokDef {lv : Nat} {P : Par} {C : Ctx} {Γ : Gam} {ps : List Str} {qual : Str} {scope : Scope} {f : Addr} {cd : Value} {A : Around} {outer : List Env} {s : Shared} {H : Hp} {E : XK} (G : SGok T.sg lv prog w K mg base P0 C) (hpb : PB P0 P) (hxv : P.XV = []) (hxa : P.xa 0 = none) (S : FnScope Γ.N ps scope) (hsc : Γ.sc = scope) (hfa : Γ.fnAll = true) (hex : Γ.ex = none)
    (hr : Room (lv + Γ.rm) (A.deeper (envOfC qual scope s.heap.objs.size f cd))) (hg : (A.deeper (envOfC qual scope s.heap.objs.size f cd)).guards = some []) (hl : Γ.lam = true → Γ.rm = 2 ∧ ∃ c t, cd = .ref c ∧ LamX.TabB base mg c t ∧ (t, lamQ qual) ∈ P.T ∧ ∀ p ∈ P.T, p.1 = t → p.2 = lamQ qual)
    (ht : ∀ a, Γ.th = some a → ThOk (cxOf (L2.CX prog w) prog w K mg base Γ.N qual scope f cd A outer s H E) P a C.th) : Cok T.sg lv P0 P C Γ (cxOf (L2.CX prog w) prog w K mg base Γ.N qual scope f cd A outer s H E) (fun c d _ H => E c d H) where
  pb := hpb
  G := G
  N := rfl
  sc := hsc.symm
  nd := S.nd
  fk := by rw [hsc]; exact S.kind
  fnA := fun _ _ => rfl
  calm := fun _ => ⟨rfl, hr, hxv, hxa, passes_of rfl⟩
  un := hr.units
  gd := hg
  tk := takes_of rfl rfl rfl rfl
  top := fun _ => ⟨rfl, rfl, hex⟩
  lam := fun q => by
    obtain ⟨h1, c, t, h2, h3, h4, h5⟩ := hl q
    have e1 : (cxOf (L2.CX prog w) prog w K mg base Γ.N qual scope f cd A outer s H E).env.qual = qual ++ ".<locals>." := rfl
    have e2 : (cxOf (L2.CX prog w) prog w K mg base Γ.N qual scope f cd A outer s H E).env.code = cd := rfl
    rw [e1, e2]
    exact ⟨h1, c, t, h2, h3, h4, h5⟩
  th := ht
  ex := fun i n q => by rw [hex] at q; cases q
theorem hoOk {lv fu : Nat} (Wd : Wld T prog w K mg base P0) (h2 : 2 ≤ lv) {ft : Nat → List D → Sto → Res D} (L : Lvl T prog w K mg base P0 lv ft) (th : Sto → Res D) : SGok T.sg lv prog w K mg base P0 (hoC T fu ft th) where
  lv2 := h2
  fn := L
  cl := fun c nm f e => (Wd.cl c nm f e).2
  sub := Wd.sub
  eg := Wd.eg
  fnm := Wd.fnm
  bl := Wd.bl
  gc := Wd.gc
  ho := fun h x e X P W Fl params body scope p lpos pos c t _ _ _ _ _ _ _ _ _ _ _ _ _ _ _ _ _ _ _ => q_eerr
theorem mkOk {lv fu : Nat} (Wd : Wld T prog w K mg base P0) (h2 : 2 ≤ lv) {ft : Nat → List D → Sto → Res D} (L : Lvl T prog w K mg base P0 lv ft) : SGok T.sg lv prog w K mg base P0 (mkC T fu ft) where
  lv2 := h2
  fn := L
  cl := fun c nm f e => (Wd.cl c nm f e).2
  sub := Wd.sub
  eg := Wd.eg
  fnm := Wd.fnm
  bl := Wd.bl
  gc := Wd.gc
  ho := fun h x e X P W Fl params body scope p lpos pos c t e1 e2 e3 e4 e5 hpb hxv hxa hgl TB hcode hmT hu hr hgd tk LS hna hbody => by
    subst e1 e2 e3 e4 e5
    obtain ⟨F, hF, a, g, qual, pars, text, sc, dV, kV, doc, pm, cdv, ct, oc, an, od, osl, f1, f2, f3, f4, f5, f6, f7, f8, f9, f10, f11, f12⟩ := Wd.ho h x e
    obtain ⟨d1, d2⟩ := okN_d f10
    cases no_args hna
    have z := q_lam (X := X) (P := P) (W := W) (Fl := Fl) (params := ⟨[], [], none, [], [], none, []⟩) (k := lv + 1) (Ng := F.N) (p := p) (lpos := lpos) (pos := pos) (Fb := fun th => evSs (hoC T fu ft th) F.body) hgl f2 f3 f5 f6 f11 f7 f8 f9
      (fun A outer s H E P' th h1 h2' h3 h4 h5 hr' hg' thok => sSs (cokDef (Γ := hoG F sc a) (f := g) (cd := cdv) (A := A) (outer := outer) (s := s) (H := H) (E := E) (hoOk Wd h2 L th) ⟨by rw [h5]; exact hpb.1, by rw [h1]; exact hpb.2.1, by rw [h2']; exact hpb.2.2⟩ h3 h4 f7 rfl rfl rfl hr' hg' (fun q => nomatch q) fun b q => by cases q; exact thok) F.body text f12)
      hxv TB hcode hmT hu hr hgd tk LS rfl (fun q cl pm cv ctv => rfl) (Nat.le_add_left 1 lv) hbody f4 d1 d2
    refine pe_same z fun env st => ?_
    simp only [mkC, hoF, hF]
theorem lvl_all (Wd : Wld T prog w K mg base P0) (fu : Nat) : ∀ n : Nat, Lvl T prog w K mg base P0 (3 * n + 2) (callF T fu n)
  | 0 => fun f nm ar e => by
    obtain ⟨F, hF, hps, ad, name, qual, params, text, scope, dV, kV, doc, pm, cdv, ct, oc, an, od, osl, f1, f2, f3, f4, f5, f6, f7, f8, f9, f10⟩ := Wd.fn f nm ar e
    exact ⟨ad, _, F.ps, f1, f2, f3, hps, f7, fun P _ _ _ A outer s H args us vs Q E M ds st _ _ _ _ _ _ _ _ p => p.elim, f8⟩
  | n + 1 => fun f nm ar e => by
    obtain ⟨F, hF, hps, ad, name, qual, params, text, scope, dV, kV, doc, pm, cdv, ct, oc, an, od, osl, f1, f2, f3, f4, f5, f6, f7, f8, f9, f10⟩ := Wd.fn f nm ar e
    have ih := lvl_all Wd fu n
    refine ⟨ad, _, F.ps, f1, f2, f3, hps, f7, fun P hpb hxv hxa => ?_, f8⟩
    have z := fns_of (prog := prog) (w := w) (mg := mg) (base := base) (Pr := P) (k := 3 * n + 2 + 2) (Fb := evSs (mkC T fu (callF T fu n)) F.body) f4 f5 f6 (fun A outer s H E hr hg => sSs (cokDef (Γ := defG F scope) (f := ad) (cd := cdv) (A := A) (outer := outer) (s := s) (H := H) (E := E) (mkOk Wd (Nat.le_add_left 2 _) ih) hpb hxv hxa f6 rfl rfl rfl hr hg (fun q => ⟨rfl, by
          obtain ⟨c, t, g1, g2, g3, g4⟩ := f10 q
          exact ⟨c, t, g1, g2, by rw [hpb.1]; exact g3, fun p hp => g4 p (by rw [← hpb.1]; exact hp)⟩⟩) fun b q => nomatch q) F.body text f9)
    have e2 : (fun ds st => ofSR (evSs (mkC T fu (callF T fu n)) F.body (env0 F.N.length ds) st)) = callF T fu (n + 1) f := by
      funext ds st
      simp only [callF, hF]
    rw [e2] at z
    exact z
/-- the law by data: its function at every script gives True -/
def Pure (T : PT) (f n : Nat) : Prop := ∀ ns : List Int, ns.length ≤ n → (∀ z ∈ ns, Builtin.Int.intBits z ≤ 1048576) → ∃ (d fu : Nat) (st : Sto), d ≤ 30 ∧ callF T fu d f [.fz (ns.map D.int)] [] = .ok (.bl true) st
theorem room_caller {k : Nat} (h : k ≤ 92) : Room k callerA := ⟨rfl, by
  have e : callerA.depth + 3 * 92 + 5 < recursionLimit := by decide +kernel
  omega, by
  have e : callerA.units + 16 * 92 + 200 < cLine := by decide +kernel
  omega⟩
theorem lawF_of {fa : Addr} {cs : List (Addr × Addr)} {nm : Str} {f n : Nat} (Wd : Wld T prog w K mg base P0) (hf : T.sg.fn[f]? = some (nm, 1)) (hfa : mg nm = some (.ref fa)) (hT : ∀ p ∈ P0.T, ∃ q ∈ cs, q.2 = p.1) (hxv : P0.XV = []) (hxa : P0.xa 0 = none) (hsb : P0.SB = []) (pu : Pure T f n) {fd : FuncData} {x : Str} : LawF prog w K mg base fa cs fd x n := by
  intro s H a ns us e0 hb rv sq ht hl hbits
  obtain ⟨d, fu, st, hd, hres⟩ := pu ns hl hbits
  obtain ⟨ad2, fd2, ps2, g1, g2, g3, g4, g5, g6, g7⟩ := lvl_all Wd fu d f nm 1 hf
  rw [hfa] at g1
  cases g1
  have hus : us.length = ps2.length := by rw [g4, ← rv.length]; rfl
  have at_ : At K P0 [] H [] := ⟨⟨rfl, List.nodup_nil, fun n o e => by simp at e⟩, fun p hp => by
    obtain ⟨q, hq, e⟩ := hT p hp
    rw [← e]
    exact LamX.TabS.nil (ht q hq), fun q hq => (by rw [hxv] at hq; cases hq), fun q hq => (by rw [hsb] at hq; cases hq)⟩
  refine g6 P0 ⟨rfl, rfl, rfl⟩ hxv hxa callerA [] s H ⟨us, []⟩ us [.ref a] (fun v _ => v = .bl true) (fun _ _ _ => False) [] [.fz (ns.map D.int)] [] (room_caller (by omega)) rfl e0 (.of_eq (g5 us hus)) rv g4.symm at_ (dvs_cons (dv_fz.mpr ⟨a, _, rfl, sq, dvs_ints ns⟩) dvs_nil) ?_
  rw [hres]
  exact fun b M' H' _ _ r => dv_bl.mp r
end
end Q
end

section
set_option Elab.async false
set_option linter.all false
set_option maxRecDepth 100000
set_option maxHeartbeats 1000000
set_option autoImplicit false
/-! The laws' deck: drawing from the script. -/
namespace Q
open PySem L2
/-- the deck's dict -/
def dkD (key : Str) (l a b : D) : List (Key × D) := [(.inr key, l), (.inr "mixed", a), (.inr "draws", b)]
def drawS (key : Str) (c1 c2 c3 c4 c5 c6 c7 c8 c9 c10 : Int) : SL := (.cons (.put (.var 0) (.str "draws") (.op .add (.ix (.var 0) (.str "draws")) (.int 1))) (.cons (.set 2 (.op .add (.ix (.var 0) (.str "mixed")) (.op .mul (.int c1) (.ix (.var 0) (.str "draws"))))) (.cons (.ite (.cmp .ne (.ix (.var 0) (.str key)) (.lst .nil)) (.cons (.set 3 (.mt .pop (.ix (.var 0) (.str key)) .nil)) (.cons (.ite (.cmp .ge (.var 3) (.op .pow (.int 10) (.int 18))) (.cons (.expr (.mt .append (.ix (.var 0) (.str key)) (.cons (.op .fdiv (.var 3) (.blt .max2 (.cons (.int 2) (.cons (.var 1) .nil)))) .nil))) (.cons (.ret (.op .mod (.blt .int (.cons (.var 3) .nil)) (.var 1))) .nil)) .nil) (.cons (.set 2 (.op .add (.var 2) (.op .mod (.blt .int (.cons (.var 3) .nil)) (.int c2)))) .nil))) .nil) (.cons (.set 2 (.op .mod (.blt .int (.cons (.op .add (.op .mul (.var 2) (.int c3)) (.int c4)) .nil)) (.int c5))) (.cons (.set 2 (.op .mod (.blt .int (.cons (.op .add (.op .add (.op .mul (.var 2) (.var 2)) (.op .mul (.int c6) (.ix (.var 0) (.str "draws")))) (.int c7)) .nil)) (.int c8))) (.cons (.set 2 (.op .mod (.blt .int (.cons (.op .mul (.var 2) (.int c9)) .nil)) (.int c10))) (.cons (.ret (.op .mod (.blt .int (.cons (.op .fdiv (.var 2) (.int 64)) .nil)) (.var 1))) .nil)))))))
theorem strNe {a b : String} (h : decide ((a : Str) = (b : Str)) = false) : ¬ ((Sum.inr (a : Str) : Key) = Sum.inr (b : Str)) := fun e => by
  have := Sum.inr.inj e
  rw [decide_eq_true this] at h
  cases h
theorem look_k {key : Str} {l a b : D} : lookD (dkD key l a b) (.inr key) = some l := by simp [dkD, lookD]
theorem look_m {key : Str} {l a b : D} (h : key ≠ "mixed") : lookD (dkD key l a b) (.inr "mixed") = some a := by simp [dkD, lookD, h]
theorem look_d {key : Str} {l a b : D} (h : key ≠ "draws") : lookD (dkD key l a b) (.inr "draws") = some b := by
  have h2 : ("mixed" : Str) ≠ "draws" := by decide +kernel
  simp [dkD, lookD, h, h2]
theorem put_d {key : Str} {l a b x : D} (h : key ≠ "draws") : putD (dkD key l a b) (.inr "draws") x = dkD key l a x := by
  have h2 : ("mixed" : Str) ≠ "draws" := by decide +kernel
  simp [dkD, putD, h, h2]
section
variable {st : Sto} {n : Nat} {kvs : List (Key × D)} {x : Str} {d v : D}
theorem ix_dk (h : st[n]? = some (.dK kvs)) (e : lookD kvs (.inr x) = some d) : ixD (.loc n) (.str x) st = some (d, st) := by
  simp [ixD, alt2, ixT, ixL, ixK, h, keyD, e]
theorem set_dk (h : st[n]? = some (.dK kvs)) (hl : kvs.length < 100000) : setD (.loc n) (.str x) v st = some (st.set n (.dK (putD kvs (.inr x) v))) := by
  simp [setD, h, keyD, hl]
theorem get_set {m : Nat} {o : Ob} : (st.set n o)[m]? = if n = m then (if m < st.length then some o else none) else st[m]? := by
  rw [List.getElem?_set]
  by_cases h : n = m
  · subst h; simp
  · simp [h]
end
/-- a deck at n, its list at m -/
structure Deck (key : Str) (st : Sto) (n m : Nat) (b : Int) : Prop where
  ne : n ≠ m
  dk : ∃ a : Int, st[n]? = some (.dK (dkD key (.loc m) (.int a) (.int b))) ∧ 0 ≤ a ∧ a < 4294967296
  ls : ∃ cs : List Int, st[m]? = some (.lst (cs.map D.int)) ∧ cs.length ≤ 1000
theorem toP_ints (st : Sto) (k : Nat) : ∀ cs : List Int, mapO (toP st (k + 1)) (cs.map D.int) = some (cs.map PyData.int)
  | [] => rfl
  | c :: cs => by
    rw [List.map_cons, mapO, toP_ints st k cs]
    rfl
theorem lay_all : ∀ cs : List Int, PyData.canLayAll0 (cs.map PyData.int) = true
  | [] => by simp [PyData.canLayAll0]
  | c :: cs => by simp [PyData.canLayAll0, PyData.canLay0, lay_all cs]
theorem dep_all : ∀ cs : List Int, PyData.depthAll (cs.map PyData.int) ≤ 1
  | [] => by simp [PyData.depthAll]
  | c :: cs => by
    have := dep_all cs
    simp only [List.map_cons, PyData.depthAll, PyData.depth]
    omega
theorem lay_ints (cs : List Int) : SeqAt.shaped (.list (cs.map PyData.int)) = true := by
  have h1 := lay_all cs
  have h2 := dep_all cs
  unfold SeqAt.shaped
  rw [Bool.and_eq_true, decide_eq_true_eq]
  refine ⟨by simp [PyData.canLay0, h1], ?_⟩
  simp only [PyData.depth]
  omega
theorem ne_nil {st : Sto} {m k : Nat} {cs : List Int} (h : st[m]? = some (.lst (cs.map D.int))) (h2 : st[k]? = some (.lst [])) : neD (.loc m) (.loc k) st = some (.bl (!cs.isEmpty), st) := by
  have e1 : toP st 30 (.loc m) = some (.list (cs.map PyData.int)) := by
    rw [toP, h]
    show (mapO (toP st 29) (cs.map D.int)).map PyData.list = _
    rw [toP_ints st 28 cs]; rfl
  have e2 : toP st 30 (.loc k) = some (.list []) := by
    rw [toP, h2]; rfl
  have e3 := lay_ints cs
  have e4 := lay_ints []
  have e5 : PyData.eqv (.list (cs.map PyData.int)) (.list []) = cs.isEmpty := by
    cases cs <;> simp [PyData.eqv, PyData.eqvAll]
  simp only [List.map_nil] at e4
  simp [neD, alt2, negB, eqS, eqP, e1, e2, e3, e4, e5]
end Q
end

section
set_option Elab.async false
set_option linter.all false
set_option maxRecDepth 100000
set_option maxHeartbeats 2000000
set_option autoImplicit false
/-! One draw. -/
namespace Q
open PySem L2
theorem evSs_cons {C : Ctx} {s : S} {r : SL} {env : Ev} {st : Sto} : evSs C (.cons s r) env st = (evS C s env st).bind (evSs C r) := by simp only [evSs]
theorem bits_lt {i : Int} {k : Nat} (h : i.natAbs < 2 ^ k) (hk : 0 < k) : bits i < k := by
  unfold bits
  by_cases h0 : i.natAbs = 0
  · rw [h0]; simp; exact hk
  · exact (Nat.log2_lt h0).mpr h
theorem mulI_ok {i j : Int} {k l : Nat} (h1 : i.natAbs < 2 ^ k) (h2 : j.natAbs < 2 ^ l) (h : k + l < 1000000) (hk : 0 < k) (hl : 0 < l) : mulI i j = some (i * j) := by
  unfold mulI
  have := bits_lt h1 hk
  have := bits_lt h2 hl
  rw [if_pos (by omega)]
theorem modI_ok {i j : Int} (h : j ≠ 0) : modI i j = some (i.fmod j) := if_pos h
theorem fmod_rng {i j : Int} (h : 0 < j) : 0 ≤ i.fmod j ∧ i.fmod j < j := ⟨Int.fmod_nonneg_of_pos i h, Int.fmod_lt_of_pos i h⟩
theorem abs_lt {i : Int} {k : Nat} (h0 : 0 ≤ i) (h : i < 2 ^ k) : i.natAbs < 2 ^ k := by
  have h1 : (i.natAbs : Int) = i := Int.natAbs_of_nonneg h0
  have h2 : ((2 ^ k : Nat) : Int) = (2 : Int) ^ k := by norm_cast
  omega
/-- elsewhere the store stays -/
def Fr (n m : Nat) (st st' : Sto) : Prop := st.length ≤ st'.length ∧ ∀ k, k < st.length → k ≠ n → k ≠ m → st'[k]? = st[k]?
theorem Fr.refl (n m : Nat) (st : Sto) : Fr n m st st := ⟨Nat.le_refl _, fun _ _ _ _ => rfl⟩
theorem Fr.trans {n m : Nat} {a b c : Sto} (h : Fr n m a b) (g : Fr n m b c) : Fr n m a c := ⟨Nat.le_trans h.1 g.1, fun k hk h1 h2 => by rw [g.2 k (Nat.lt_of_lt_of_le hk h.1) h1 h2, h.2 k hk h1 h2]⟩
/-- the last part of a draw -/
def drawT (c3 c4 c5 c6 c7 c8 c9 c10 : Int) : SL := (.cons (.set 2 (.op .mod (.blt .int (.cons (.op .add (.op .mul (.var 2) (.int c3)) (.int c4)) .nil)) (.int c5))) (.cons (.set 2 (.op .mod (.blt .int (.cons (.op .add (.op .add (.op .mul (.var 2) (.var 2)) (.op .mul (.int c6) (.ix (.var 0) (.str "draws")))) (.int c7)) .nil)) (.int c8))) (.cons (.set 2 (.op .mod (.blt .int (.cons (.op .mul (.var 2) (.int c9)) .nil)) (.int c10))) (.cons (.ret (.op .mod (.blt .int (.cons (.op .fdiv (.var 2) (.int 64)) .nil)) (.var 1))) .nil))))
/-- a constant of a deck -/
def Cn (c : Int) : Prop := 0 < c ∧ c < 4294967296
theorem drawT_ok {C : Ctx} {key : Str} {c3 c4 c5 c6 c7 c8 c9 c10 : Int} {st : Sto} {n : Nat} {l a : D} {b many f : Int} {x : Option D} (hk : key ≠ "draws") (h : st[n]? = some (.dK (dkD key l a (.int b)))) (h3 : Cn c3) (h4 : Cn c4) (h5 : Cn c5) (h6 : Cn c6) (h7 : Cn c7) (h8 : Cn c8) (h9 : Cn c9) (h10 : Cn c10)
    (hb : 0 ≤ b ∧ b < 2 ^ 40) (hf : f.natAbs < 2 ^ 200) (hm : 0 < many) : ∃ r, evSs C (drawT c3 c4 c5 c6 c7 c8 c9 c10) [some (.loc n), some (.int many), some (.int f), x] st = .rt (.int r) st ∧ 0 ≤ r ∧ r < many := by
  have e1 : mulI f c3 = some (f * c3) := mulI_ok hf (abs_lt (k := 32) (Int.le_of_lt h3.1) h3.2) (by omega) (by omega) (by omega)
  have n5 : c5 ≠ 0 := by have := h5.1; omega
  have n8 : c8 ≠ 0 := by have := h8.1; omega
  have n10 : c10 ≠ 0 := by have := h10.1; omega
  have nm : many ≠ 0 := by omega
  obtain ⟨g, hg⟩ : ∃ g, g = (f * c3 + c4).fmod c5 := ⟨_, rfl⟩
  have gr := fmod_rng (i := f * c3 + c4) h5.1
  rw [← hg] at gr
  have ga : g.natAbs < 2 ^ 32 := abs_lt gr.1 (by have := h5.2; omega)
  have e2 : mulI g g = some (g * g) := mulI_ok ga ga (by omega) (by omega) (by omega)
  have e3 : mulI c6 b = some (c6 * b) := mulI_ok (abs_lt (k := 32) (Int.le_of_lt h6.1) h6.2) (abs_lt (k := 40) hb.1 hb.2) (by omega) (by omega) (by omega)
  obtain ⟨u, hu⟩ : ∃ u, u = (g * g + c6 * b + c7).fmod c8 := ⟨_, rfl⟩
  have ur := fmod_rng (i := g * g + c6 * b + c7) h8.1
  rw [← hu] at ur
  have ua : u.natAbs < 2 ^ 32 := abs_lt ur.1 (by have := h8.2; omega)
  have e4 : mulI u c9 = some (u * c9) := mulI_ok ua (abs_lt (k := 32) (Int.le_of_lt h9.1) h9.2) (by omega) (by omega) (by omega)
  obtain ⟨w, hw⟩ : ∃ w, w = (u * c9).fmod c10 := ⟨_, rfl⟩
  have e5 : fdivI w 64 = some (w.fdiv 64) := by
    unfold fdivI
    rw [if_pos ⟨by decide, by decide⟩]
  have hx : ∀ (i : Int), ixD (.loc n) (.str "draws") st = some (.int b, st) := fun _ => ix_dk h (look_d hk)
  refine ⟨(w.fdiv 64).fmod many, ?_, (fmod_rng hm).1, (fmod_rng hm).2⟩
  unfold drawT
  simp only [evSs, evS, evE, evL, vGet, Res.bind, Res.then, SR.bind, ofO, opD, addD, mulD, alt2, int2, bfD, intD, List.getElem?_cons_zero, List.getElem?_cons_succ, List.set_cons_zero, List.set_cons_succ, Option.map_some, e1, modI_ok n5, ← hg, e2, hx 0, e3, modI_ok n8, ← hu, e4, modI_ok n10, ← hw, e5, modI_ok nm]

theorem lt_of_get {α : Type} {l : List α} {i : Nat} {x : α} (h : l[i]? = some x) : i < l.length := (List.getElem?_eq_some_iff.mp h).1
theorem popD_ok {st : Sto} {m : Nat} {cs : List Int} {c : Int} (h : st[m]? = some (.lst ((cs ++ [c]).map D.int))) : popD (.loc m) [] st = some (.int c, st.set m (.lst (cs.map D.int))) := by
  simp [popD, h]
theorem appD_ok {st : Sto} {m : Nat} {ds : List D} {d : D} (h : st[m]? = some (.lst ds)) (hl : ds.length ≤ 100000) : appD (.loc m) [d] st = some (.non, st.set m (.lst (ds ++ [d]))) := by
  simp [appD, h, hl]
theorem isL_ok {st : Sto} {m : Nat} {ds : List D} (h : st[m]? = some (.lst ds)) : isL (.loc m) st = true := by simp [isL, h]
theorem draw_ok {C : Ctx} {key : Str} {c1 c2 c3 c4 c5 c6 c7 c8 c9 c10 : Int} {st : Sto} {n m : Nat} {b many : Int} {x y : Option D} (k1 : key ≠ "mixed") (k2 : key ≠ "draws") (Dk : Deck key st n m b) (h1 : Cn c1) (h2 : Cn c2) (h3 : Cn c3) (h4 : Cn c4) (h5 : Cn c5) (h6 : Cn c6) (h7 : Cn c7) (h8 : Cn c8) (h9 : Cn c9) (h10 : Cn c10)
    (hb : 0 ≤ b ∧ b < 2 ^ 39) (hm : 0 < many ∧ many < 1073741824) : ∃ r st', evSs C (drawS key c1 c2 c3 c4 c5 c6 c7 c8 c9 c10) [some (.loc n), some (.int many), x, y] st = .rt (.int r) st' ∧ (0 ≤ r ∧ r < many) ∧ Deck key st' n m (b + 1) ∧ Fr n m st st' := by
  obtain ⟨ne, ⟨a, hd, ha0, ha1⟩, cs, hl, hcl⟩ := Dk
  have ln := lt_of_get hd
  have lm := lt_of_get hl
  -- draws is one more
  obtain ⟨st1, hst1⟩ : ∃ s, s = st.set n (.dK (dkD key (.loc m) (.int a) (.int (b + 1)))) := ⟨_, rfl⟩
  have d1 : st1[n]? = some (.dK (dkD key (.loc m) (.int a) (.int (b + 1)))) := by rw [hst1, get_set, if_pos rfl, if_pos ln]
  have l1 : st1[m]? = some (.lst (cs.map D.int)) := by rw [hst1, get_set, if_neg ne, hl]
  have len1 : st1.length = st.length := by rw [hst1, List.length_set]
  have F1 : Fr n m st st1 := ⟨by rw [len1]; exact Nat.le_refl _, fun k hk q1 q2 => by rw [hst1, get_set, if_neg (Ne.symm q1)]⟩
  have s1 : evS C (.put (.var 0) (.str "draws") (.op .add (.ix (.var 0) (.str "draws")) (.int 1))) [some (.loc n), some (.int many), x, y] st = .nx [some (.loc n), some (.int many), x, y] st1 := by
    simp only [evS, evE, vGet, Res.bind, Res.then, ofO, opD, addD, alt2, int2, List.getElem?_cons_zero, Option.map_some, ix_dk hd (look_d k2), set_dk hd (show (dkD key (.loc m) (.int a) (.int b)).length < 100000 by show 3 < 100000; omega), put_d k2, ofSt, ← hst1]
  -- the figure
  have e1 : mulI c1 (b + 1) = some (c1 * (b + 1)) := mulI_ok (abs_lt (k := 32) (Int.le_of_lt h1.1) h1.2) (abs_lt (k := 40) (by omega) (by omega)) (by omega) (by omega) (by omega)
  obtain ⟨f, hf⟩ : ∃ f, f = a + c1 * (b + 1) := ⟨_, rfl⟩
  have fb : 0 ≤ f ∧ f < 2 ^ 199 := by
    have p1 : 0 ≤ c1 * (b + 1) := Int.mul_nonneg (Int.le_of_lt h1.1) (by omega)
    have p2 : c1 * (b + 1) ≤ 4294967296 * 2 ^ 40 := Int.mul_le_mul (Int.le_of_lt h1.2) (by omega) (by omega) (by omega)
    rw [hf]
    constructor
    · omega
    · have : (4294967296 : Int) * 2 ^ 40 + 4294967296 < 2 ^ 199 := by decide
      omega
  have s2 : evS C (.set 2 (.op .add (.ix (.var 0) (.str "mixed")) (.op .mul (.int c1) (.ix (.var 0) (.str "draws"))))) [some (.loc n), some (.int many), x, y] st1 = .nx [some (.loc n), some (.int many), some (.int f), y] st1 := by
    simp only [evS, evE, vGet, Res.bind, Res.then, ofO, opD, addD, mulD, alt2, int2, List.getElem?_cons_zero, List.set_cons_zero, List.set_cons_succ, Option.map_some, ix_dk d1 (look_d k2), ix_dk d1 (look_m k1), e1, ← hf]
  -- the test
  obtain ⟨st2, hst2⟩ : ∃ s, s = st1 ++ [Ob.lst []] := ⟨_, rfl⟩
  have d2 : st2[n]? = some (.dK (dkD key (.loc m) (.int a) (.int (b + 1)))) := by rw [hst2, List.getElem?_append_left (by rw [len1]; exact ln), d1]
  have l2 : st2[m]? = some (.lst (cs.map D.int)) := by rw [hst2, List.getElem?_append_left (by rw [len1]; exact lm), l1]
  have lm2 := lt_of_get l2
  have F2 : Fr n m st st2 := F1.trans ⟨by rw [hst2]; simp, fun k hk _ _ => by rw [hst2, List.getElem?_append_left hk]⟩
  have z2 : st2[st1.length]? = some (.lst []) := by rw [hst2, List.getElem?_append_right (Nat.le_refl _), Nat.sub_self]; rfl
  have t3 : ∀ env : Ev, env[0]? = some (some (.loc n)) → evT C (.cmp .ne (.ix (.var 0) (.str key)) (.lst .nil)) env st1 = .ok (!cs.isEmpty) st2 := fun env he => by
    have c0 : evL C .nil env st1 = .ok [] st1 := by simp only [evL]
    have c1 : mkLst [] st1 = some (.loc st1.length, st2) := by rw [hst2]; rfl
    simp only [evT, fBl, evE, vGet, he, Res.bind, ofO, ix_dk d1 look_k, c0, c1, cmD, ne_nil l2 z2, blB]
  unfold drawS
  rw [evSs_cons, s1]
  simp only [SR.bind]
  rw [evSs_cons, s2]
  simp only [SR.bind]
  rw [evSs_cons]
  simp only [evS, t3 _ (show ([some (.loc n), some (.int many), some (.int f), y] : Ev)[0]? = some (some (.loc n)) from rfl), Res.then]
  by_cases hcs : cs = []
  · subst hcs
    simp only [List.isEmpty_nil, Bool.not_true, Bool.false_eq_true, if_false, evSs, SR.bind]
    obtain ⟨r, hr, r0, r1⟩ := drawT_ok (C := C) (key := key) (st := st2) (n := n) (many := many) (f := f) (x := y) k2 d2 h3 h4 h5 h6 h7 h8 h9 h10 ⟨by omega, by omega⟩ (abs_lt fb.1 (Int.lt_trans fb.2 (by decide))) hm.1
    unfold drawT at hr
    exact ⟨r, st2, hr, ⟨r0, r1⟩, ⟨ne, ⟨a, d2, ha0, ha1⟩, [], l2, by simp⟩, F2⟩
  · obtain ⟨cs', c, rfl⟩ : ∃ cs' c, cs = cs' ++ [c] := ⟨cs.dropLast, cs.getLast hcs, (List.dropLast_concat_getLast hcs).symm⟩
    have hne : (!(cs' ++ [c]).isEmpty) = true := by simp
    rw [hne, if_pos rfl]
    -- pop
    obtain ⟨st3, hst3⟩ : ∃ s, s = st2.set m (.lst (cs'.map D.int)) := ⟨_, rfl⟩
    have d3 : st3[n]? = some (.dK (dkD key (.loc m) (.int a) (.int (b + 1)))) := by rw [hst3, get_set, if_neg (Ne.symm ne), d2]
    have l3 : st3[m]? = some (.lst (cs'.map D.int)) := by rw [hst3, get_set, if_pos rfl, if_pos lm2]
    have F3 : Fr n m st st3 := F2.trans ⟨by rw [hst3, List.length_set]; exact Nat.le_refl _, fun k hk q1 q2 => by rw [hst3, get_set, if_neg (Ne.symm q2)]⟩
    have s3 : evS C (.set 3 (.mt .pop (.ix (.var 0) (.str key)) .nil)) [some (.loc n), some (.int many), some (.int f), y] st2 = .nx [some (.loc n), some (.int many), some (.int f), some (.int c)] st3 := by
      simp only [evS, evE, evL, vGet, Res.bind, Res.then, ofO, mtD, fMt, List.getElem?_cons_zero, List.set_cons_zero, List.set_cons_succ, ix_dk d2 look_k, isL_ok l2, if_true, popD_ok l2, ← hst3]
    rw [evSs_cons, s3]
    simp only [SR.bind]
    have hp : powI 10 18 = some (10 ^ 18) := by decide
    have t4 : evT C (.cmp .ge (.var 3) (.op .pow (.int 10) (.int 18))) [some (.loc n), some (.int many), some (.int f), some (.int c)] st3 = .ok (decide ((10 : Int) ^ 18 ≤ c)) st3 := by
      simp only [evT, fBl, evE, vGet, Res.bind, ofO, opD, cmD, geD, int2, int2b, hp, List.getElem?_cons_zero, List.getElem?_cons_succ, Option.map_some, blB]
    rw [evSs_cons]
    simp only [evS, t4, Res.then]
    by_cases hc : (10 : Int) ^ 18 ≤ c
    · rw [decide_eq_true hc, if_pos rfl]
      have hmx : fdivI c (if many > 2 then many else 2) = some (c.fdiv (if many > 2 then many else 2)) := by
        unfold fdivI
        rw [if_pos]
        split
        · exact ⟨by omega, by omega⟩
        · exact ⟨by decide, by decide⟩
      obtain ⟨q, hq⟩ : ∃ q, q = c.fdiv (if many > 2 then many else 2) := ⟨_, rfl⟩
      obtain ⟨st4, hst4⟩ : ∃ s, s = st3.set m (.lst ((cs' ++ [q]).map D.int)) := ⟨_, rfl⟩
      have lm3 := lt_of_get l3
      have d4 : st4[n]? = some (.dK (dkD key (.loc m) (.int a) (.int (b + 1)))) := by rw [hst4, get_set, if_neg (Ne.symm ne), d3]
      have l4 : st4[m]? = some (.lst ((cs' ++ [q]).map D.int)) := by rw [hst4, get_set, if_pos rfl, if_pos lm3]
      have F4 : Fr n m st st4 := F3.trans ⟨by rw [hst4, List.length_set]; exact Nat.le_refl _, fun k hk q1 q2 => by rw [hst4, get_set, if_neg (Ne.symm q2)]⟩
      have hap : appD (.loc m) [.int q] st3 = some (.non, st4) := by
        rw [appD_ok l3 (by rw [List.length_map]; rw [List.length_append] at hcl; omega), hst4, List.map_append]; rfl
      refine ⟨c.fmod many, st4, ?_, fmod_rng hm.1, ⟨ne, ⟨a, d4, ha0, ha1⟩, cs' ++ [q], l4, by rw [List.length_append] at hcl ⊢; exact hcl⟩, F4⟩
      simp only [evSs, evS, evE, evL, vGet, Res.bind, Res.then, SR.bind, ofO, opD, int2, bfD, intD, max2D, mtD, fMt, List.getElem?_cons_zero, List.getElem?_cons_succ, Option.map_some, ix_dk d3 look_k, isL_ok l3, if_true, hmx, ← hq, hap, modI_ok (show many ≠ 0 by omega)]
    · rw [decide_eq_false hc]
      simp only [Bool.false_eq_true, if_false, evSs, SR.bind]
      have n2 : c2 ≠ 0 := by have := h2.1; omega
      obtain ⟨g, hg⟩ : ∃ g, g = f + c.fmod c2 := ⟨_, rfl⟩
      have cr := fmod_rng (i := c) h2.1
      have s5 : evS C (.set 2 (.op .add (.var 2) (.op .mod (.blt .int (.cons (.var 3) .nil)) (.int c2)))) [some (.loc n), some (.int many), some (.int f), some (.int c)] st3 = .nx [some (.loc n), some (.int many), some (.int g), some (.int c)] st3 := by
        simp only [evS, evE, evL, vGet, Res.bind, Res.then, ofO, opD, addD, alt2, int2, bfD, intD, List.getElem?_cons_zero, List.getElem?_cons_succ, List.set_cons_zero, List.set_cons_succ, Option.map_some, modI_ok n2, ← hg]
      obtain ⟨r, hr, r0, r1⟩ := drawT_ok (C := C) (key := key) (st := st3) (n := n) (many := many) (f := g) (x := some (.int c)) k2 d3 h3 h4 h5 h6 h7 h8 h9 h10 ⟨by omega, by omega⟩ (abs_lt (by omega) (by
        have : (2 : Int) ^ 199 + 4294967296 < 2 ^ 200 := by decide
        have := h2.2
        omega)) hm.1
      unfold drawT at hr
      rw [s5]
      simp only [evSs, SR.bind] at hr ⊢
      exact ⟨r, st3, hr, ⟨r0, r1⟩, ⟨ne, ⟨a, d3, ha0, ha1⟩, cs', l3, by rw [List.length_append] at hcl; omega⟩, F3⟩
end Q
end

section
set_option Elab.async false
set_option linter.all false
set_option maxRecDepth 100000
set_option maxHeartbeats 2000000
set_option autoImplicit false
/-! Running: calls, loops, picks. -/
namespace Q
open PySem L2
section
variable {T : PT} {fu n f : Nat} {F : Fd} {ds : List D} {st : Sto}
theorem cf_succ (h : T.fd[f]? = some F) : callF T fu (n + 1) f ds st = ofSR (evSs (mkC T fu (callF T fu n)) F.body (env0 F.N.length ds) st) := by simp only [callF, h]
theorem mk_ft {ft : Nat → List D → Sto → Res D} : (mkC T fu ft).ft = ft := rfl
end
/-- not an exception in hand -/
def nx : D → Bool
  | .exo _ => false
  | _ => true
theorem vGet_ok {i : Nat} {env : Ev} {st : Sto} {d : D} (h : env[i]? = some (some d)) (n : nx d = true) : vGet i env st = .ok d st := by
  unfold vGet
  rw [h]
  cases d <;> first
    | rfl
    | cases n
theorem loop_from {it : ItD} {g : D → Ev → Option Ev} {body : Ev → Sto → SR} (I : Nat → Ev → Sto → Prop) (step : ∀ i env st, i < it.n → I i env st → ∃ d env1 env2 st2, it.item i st = some d ∧ g d env = some env1 ∧ (body env1 st = .nx env2 st2 ∨ body env1 st = .ct env2 st2) ∧ I (i + 1) env2 st2) (fin : ∀ env st, I it.n env st → it.fin st = true) :
    ∀ k i env st, i + k = it.n → I i env st → ∃ env' st', loopS it g body k i env st = .nx env' st' ∧ I it.n env' st'
  | 0, i, env, st, hk, h => by
    have e : i = it.n := by omega
    rw [e] at h
    exact ⟨env, st, by rw [loopS, if_pos (fin env st h)], h⟩
  | k + 1, i, env, st, hk, h => by
    obtain ⟨d, env1, env2, st2, e1, e2, e3, h2⟩ := step i env st (by omega) h
    obtain ⟨env', st', e4, h3⟩ := loop_from I step fin k (i + 1) env2 st2 (by omega) h2
    refine ⟨env', st', ?_, h3⟩
    rw [loopS, e1]
    simp only [e2]
    rcases e3 with e3 | e3 <;> simp only [e3, e4]
theorem loop_inv {it : ItD} {g : D → Ev → Option Ev} {body : Ev → Sto → SR} {env : Ev} {st : Sto} (I : Nat → Ev → Sto → Prop) (h0 : I 0 env st) (step : ∀ i env st, i < it.n → I i env st → ∃ d env1 env2 st2, it.item i st = some d ∧ g d env = some env1 ∧ (body env1 st = .nx env2 st2 ∨ body env1 st = .ct env2 st2) ∧ I (i + 1) env2 st2) (fin : ∀ env st, I it.n env st → it.fin st = true) :
    ∃ env' st', loopS it g body it.n 0 env st = .nx env' st' ∧ I it.n env' st' := loop_from I step fin it.n 0 env st (by omega) h0
/-- what a draw does -/
def DrawOk (C : Ctx) (dr : Nat) (key : Str) : Prop := ∀ (st : Sto) (n m : Nat) (b many : Int), Deck key st n m b → (0 ≤ b ∧ b < 2 ^ 39) → (0 < many ∧ many < 1073741824) → ∃ r st', C.ft dr [.loc n, .int many] st = .ok (.int r) st' ∧ (0 ≤ r ∧ r < many) ∧ Deck key st' n m (b + 1) ∧ Fr n m st st'
def pickS (dr : Nat) : SL := (.cons (.ret (.ix (.var 1) (.call dr (.cons (.var 0) (.cons (.blt .len (.cons (.var 1) .nil)) .nil))))) .nil)
theorem atI_int {ds : List D} {r : Int} (h0 : 0 ≤ r) (h : r < ds.length) : ∃ d, d ∈ ds ∧ atI ds r = some d := by
  have hl : r.toNat < ds.length := by omega
  refine ⟨ds[r.toNat], List.getElem_mem hl, ?_⟩
  unfold atI ixN
  rw [if_pos h0, if_pos h]
  show ds[r.toNat]? = _
  rw [List.getElem?_eq_getElem hl]
theorem lenD_loc {st : Sto} {l : Nat} {ds : List D} (h : st[l]? = some (.lst ds)) : lenD [.loc l] st = some (.int ds.length, st) := by simp [lenD, h]
theorem ixD_loc {st : Sto} {l : Nat} {ds : List D} {r : Int} {d : D} (h : st[l]? = some (.lst ds)) (e : atI ds r = some d) : ixD (.loc l) (.int r) st = some (d, st) := by simp [ixD, alt2, ixT, ixL, h, e]
theorem ixD_tup {st : Sto} {ds : List D} {r : Int} {d : D} (e : atI ds r = some d) : ixD (.tup ds) (.int r) st = some (d, st) := by simp [ixD, alt2, ixT, e]
/-- a pick out of a list at l -/
theorem pick_ok {C : Ctx} {dr : Nat} {key : Str} {st : Sto} {n m l : Nat} {b : Int} {ds : List D} (Dr : DrawOk C dr key) (Dk : Deck key st n m b) (hb : 0 ≤ b ∧ b < 2 ^ 39) (hl : st[l]? = some (.lst ds)) (h0 : ds ≠ []) (hz : ds.length < 1000000) (n1 : l ≠ n) (n2 : l ≠ m) :
    ∃ d st', d ∈ ds ∧ evSs C (pickS dr) [some (.loc n), some (.loc l)] st = .rt d st' ∧ Deck key st' n m (b + 1) ∧ Fr n m st st' := by
  have hp : 0 < ds.length := List.length_pos_iff.mpr h0
  obtain ⟨r, st', e1, ⟨r0, r1⟩, Dk', F⟩ := Dr st n m b ds.length Dk hb ⟨by omega, by omega⟩
  have hl' : st'[l]? = some (.lst ds) := by rw [F.2 l (lt_of_get hl) n1 n2, hl]
  obtain ⟨d, hd, e2⟩ := atI_int r0 r1
  refine ⟨d, st', hd, ?_, Dk', F⟩
  simp only [pickS, evSs, evS, evE, evL, vGet, Res.bind, Res.then, SR.bind, ofO, bfD, List.getElem?_cons_zero, List.getElem?_cons_succ, lenD_loc hl, e1, ixD_loc hl' e2]
theorem pick_tup {C : Ctx} {dr : Nat} {key : Str} {st : Sto} {n m : Nat} {b : Int} {ds : List D} (Dr : DrawOk C dr key) (Dk : Deck key st n m b) (hb : 0 ≤ b ∧ b < 2 ^ 39) (h0 : ds ≠ []) (hz : ds.length < 1000000) :
    ∃ d st', d ∈ ds ∧ evSs C (pickS dr) [some (.loc n), some (.tup ds)] st = .rt d st' ∧ Deck key st' n m (b + 1) ∧ Fr n m st st' := by
  have hp : 0 < ds.length := List.length_pos_iff.mpr h0
  obtain ⟨r, st', e1, ⟨r0, r1⟩, Dk', F⟩ := Dr st n m b ds.length Dk hb ⟨by omega, by omega⟩
  obtain ⟨d, hd, e2⟩ := atI_int r0 r1
  refine ⟨d, st', hd, ?_, Dk', F⟩
  have e3 : lenD [.tup ds] st = some (.int ds.length, st) := by simp [lenD]
  simp only [pickS, evSs, evS, evE, evL, vGet, Res.bind, Res.then, SR.bind, ofO, bfD, List.getElem?_cons_zero, List.getElem?_cons_succ, e3, e1, ixD_tup e2]
/-- what pick does -/
def PickOk (C : Ctx) (pk : Nat) (key : Str) : Prop := ∀ (st : Sto) (n m l : Nat) (b : Int) (ds : List D), Deck key st n m b → (0 ≤ b ∧ b < 2 ^ 39) → st[l]? = some (.lst ds) → ds ≠ [] → ds.length < 1000000 → l ≠ n → l ≠ m → ∃ d st', d ∈ ds ∧ C.ft pk [.loc n, .loc l] st = .ok d st' ∧ Deck key st' n m (b + 1) ∧ Fr n m st st'
/-- a new list, then a pick out of it -/
theorem pick_new {C : Ctx} {pk : Nat} {key : Str} (Pk : PickOk C pk key) {st : Sto} {n m : Nat} {b : Int} {ds : List D} (Dk : Deck key st n m b) (hb : 0 ≤ b ∧ b < 2 ^ 39) (h0 : ds ≠ []) (hz : ds.length < 1000000) :
    ∃ d st', d ∈ ds ∧ C.ft pk [.loc n, .loc st.length] (st ++ [.lst ds]) = .ok d st' ∧ Deck key st' n m (b + 1) ∧ Fr n m st st' := by
  obtain ⟨ne, ⟨a, hd, ha⟩, cs, hl, hcl⟩ := Dk
  have ln := lt_of_get hd
  have lm := lt_of_get hl
  have Dk2 : Deck key (st ++ [Ob.lst ds]) n m b := ⟨ne, ⟨a, by rw [List.getElem?_append_left ln]; exact hd, ha⟩, cs, by rw [List.getElem?_append_left lm]; exact hl, hcl⟩
  obtain ⟨d, st', h1, h2, h3, h4⟩ := Pk (st ++ [Ob.lst ds]) n m st.length b ds Dk2 hb (by rw [List.getElem?_append_right (Nat.le_refl _), Nat.sub_self]; rfl) h0 hz (by omega) (by omega)
  refine ⟨d, st', h1, h2, h3, Fr.trans ⟨by simp, fun k hk _ _ => by rw [List.getElem?_append_left hk]⟩ h4⟩
theorem Deck.app {key : Str} {st more : Sto} {n m : Nat} {b : Int} (D : Deck key st n m b) : Deck key (st ++ more) n m b := by
  obtain ⟨ne, ⟨a, hd, ha⟩, cs, hl, hcl⟩ := D
  exact ⟨ne, ⟨a, by rw [List.getElem?_append_left (lt_of_get hd)]; exact hd, ha⟩, cs, by rw [List.getElem?_append_left (lt_of_get hl)]; exact hl, hcl⟩
theorem Fr.app {n m : Nat} {st more : Sto} : Fr n m st (st ++ more) := ⟨by simp, fun k hk _ _ => by rw [List.getElem?_append_left hk]⟩
end Q
end

section
set_option Elab.async false
set_option linter.all false
set_option maxRecDepth 100000
set_option maxHeartbeats 4000000
set_option autoImplicit false
namespace Q
open PySem L2
theorem absPow (b : Int) (i : Nat) : (b ^ i).natAbs = b.natAbs ^ i := by rw [Int.natAbs_pow]
theorem pow_lt {b : Int} {i : Nat} (hb : b.natAbs < 2 ^ 32) (hi : i ≤ 1000) : (b ^ i).natAbs < 2 ^ 32001 := by
  rw [absPow]
  calc b.natAbs ^ i ≤ (2 ^ 32) ^ i := Nat.pow_le_pow_left (Nat.le_of_lt hb) i
    _ = 2 ^ (32 * i) := by rw [← Nat.pow_mul]
    _ ≤ 2 ^ 32000 := Nat.pow_le_pow_right (by omega) (by omega)
    _ < 2 ^ 32001 := Nat.pow_lt_pow_right (by omega) (by omega)
/-- base times itself -/
def powerS : SL := (.cons (.set 2 (.int 1)) (.cons (.for (.nm 3) (.r1 (.var 1)) (.cons (.set 2 (.op .mul (.var 2) (.var 0))) .nil)) (.cons (.ret (.var 2)) .nil)))
theorem power_ok {C : Ctx} {b k : Int} {st : Sto} {x y : Option D} (hb : b.natAbs < 2 ^ 32) (h0 : 0 ≤ k) (h1 : k ≤ 1000) : evSs C powerS [some (.int b), some (.int k), x, y] st = .rt (.int (b ^ k.toNat)) st := by
  unfold powerS
  rw [evSs_cons]
  simp only [evS, evE, Res.then, SR.bind, List.set_cons_zero, List.set_cons_succ]
  rw [evSs_cons]
  have hs : smI k = true := by
    unfold smI
    simp
    omega
  simp only [evS, evI, evE, vGet, List.getElem?_cons_zero, List.getElem?_cons_succ, Res.bind, rng1, hs, if_true, Res.then]
  obtain ⟨env', st', h2, h3⟩ := loop_inv (it := itRng 0 1 k.toNat) (g := gT (.nm 3)) (body := evSs C (.cons (.set 2 (.op .mul (.var 2) (.var 0))) .nil)) (env := [some (.int b), some (.int k), some (.int 1), y]) (st := st)
    (fun i env s => s = st ∧ ∃ z, env = [some (.int b), some (.int k), some (.int (b ^ i)), z]) ⟨rfl, y, by rw [Int.pow_zero]⟩
    (fun i env s hi h => by
      obtain ⟨rfl, z, rfl⟩ := h
      have hi' : i < k.toNat := hi
      have e1 : mulI (b ^ i) b = some (b ^ i * b) := mulI_ok (pow_lt hb (by omega)) hb (by omega) (by omega) (by omega)
      refine ⟨.int (0 + (i : Int) * 1), _, _, _, rfl, rfl, .inl ?_, rfl, some (.int (0 + (i : Int) * 1)), rfl⟩
      simp only [evSs, evS, evE, vGet, List.getElem?_cons_zero, List.getElem?_cons_succ, List.set_cons_zero, List.set_cons_succ, Res.bind, Res.then, SR.bind, ofO, opD, mulD, alt2, int2, e1, Option.map_some, Int.pow_succ])
    (fun _ _ _ => rfl)
  obtain ⟨rfl, z, rfl⟩ := h3
  rw [h2]
  simp only [SR.bind, evSs, evS, evE, vGet, List.getElem?_cons_zero, List.getElem?_cons_succ, Res.then]
  rfl
def deckS (key : Str) (c0 c1 c2 c3 c4 cap : Int) : SL := (.cons (.set 1 (.int c0)) (.cons (.for (.nm 2) (.val (.sl (.var 0) .none (.some (.int cap)))) (.cons (.set 1 (.op .mod (.blt .int (.cons (.op .add (.op .add (.op .mul (.var 1) (.int c1)) (.op .mod (.blt .int (.cons (.var 2) .nil)) (.int c2))) (.int c3)) .nil)) (.int c4))) .nil)) (.cons (.ret (.dict (.cons (.str key) (.rev (.blt .list (.cons (.sl (.var 0) .none (.some (.int cap))) .nil))) (.cons (.str "mixed") (.var 1) (.cons (.str "draws") (.int 0) .nil))))) .nil)))
theorem cut_map {α β : Type} (f : α → β) (xs : List α) (lo hi : Option Int) : cutD (xs.map f) lo hi = (cutD xs lo hi).map f := by
  unfold cutD
  rw [List.length_map, List.map_take, List.map_drop]
theorem merge3 {key : Str} (k1 : key ≠ "mixed") (k2 : key ≠ "draws") {l a b : D} : mergeD [] [(.inr key, l), (.inr "mixed", a), (.inr "draws", b)] = dkD key l a b := by
  have h2 : ("mixed" : Str) ≠ "draws" := by decide +kernel
  have h1 : ¬ (key = "mixed") := k1
  have h3 : ¬ (key = "draws") := k2
  simp [mergeD, putD, dkD, h1, h2, h3]
theorem get_last {α : Type} {l : List α} {x : α} {k : Nat} (h : k = l.length) : (l ++ [x])[k]? = some x := by rw [h, List.getElem?_append_right (Nat.le_refl _), Nat.sub_self]; rfl
theorem deck_ok {C : Ctx} {key : Str} {c0 c1 c2 c3 c4 cap : Int} {ns : List Int} {st : Sto} {x y : Option D} (k1 : key ≠ "mixed") (k2 : key ≠ "draws") (h0 : Cn c0) (h1 : Cn c1) (h2 : Cn c2) (h3 : Cn c3) (h4 : Cn c4) (hl : ns.length ≤ 1000) :
    ∃ n m st', evSs C (deckS key c0 c1 c2 c3 c4 cap) [some (.fz (ns.map D.int)), x, y] st = .rt (.loc n) st' ∧ Deck key st' n m 0 := by
  obtain ⟨xs, hxs⟩ : ∃ xs, xs = cutD ns none (some cap) := ⟨_, rfl⟩
  have hxl : xs.length ≤ 1000 := by rw [hxs]; exact Nat.le_trans (cutD_len _ _ _) hl
  have ec : ∀ s : Sto, slD (.fz (ns.map D.int)) none (some cap) s = some (.loc s.length, s ++ [.lst (xs.map D.int)]) := fun s => by
    simp only [slD, cut_map, ← hxs]
  have vf : ∀ e s, vGet 0 (some (.fz (ns.map D.int)) :: e) s = .ok (.fz (ns.map D.int)) s := fun _ _ => vGet_ok rfl rfl
  obtain ⟨s1, hs1⟩ : ∃ s, s = st ++ [Ob.lst (xs.map D.int)] := ⟨_, rfl⟩
  have g1 : s1[st.length]? = some (.lst (xs.map D.int)) := by rw [hs1]; exact get_last rfl
  have ei : itD (.loc st.length) s1 = .ok (itLoc st.length xs.length) s1 := by
    simp [itD, lenAt, g1]
  unfold deckS
  rw [evSs_cons]
  simp only [evS, evE, Res.then, SR.bind, List.set_cons_zero, List.set_cons_succ]
  rw [evSs_cons]
  simp only [evS, evI, evE, evO, vf, Res.bind, partD, ec, ofO, ← hs1, ei, Res.then]
  have n2 : c2 ≠ 0 := by have := h2.1; omega
  have n4 : c4 ≠ 0 := by have := h4.1; omega
  obtain ⟨env', st', e2, e3⟩ := loop_inv (it := itLoc st.length xs.length) (g := gT (.nm 2)) (body := evSs C (.cons (.set 1 (.op .mod (.blt .int (.cons (.op .add (.op .add (.op .mul (.var 1) (.int c1)) (.op .mod (.blt .int (.cons (.var 2) .nil)) (.int c2))) (.int c3)) .nil)) (.int c4))) .nil)) (env := [some (.fz (ns.map D.int)), some (.int c0), y]) (st := s1)
    (fun i env s => s = s1 ∧ ∃ (a : Int) (z : Option D), env = [some (.fz (ns.map D.int)), some (.int a), z] ∧ 0 ≤ a ∧ a < 4294967296) ⟨rfl, c0, y, rfl, Int.le_of_lt h0.1, h0.2⟩
    (fun i env s hi h => by
      obtain ⟨rfl, a, z, rfl, a0, a1⟩ := h
      have hi' : i < xs.length := hi
      have e1 : mulI a c1 = some (a * c1) := mulI_ok (abs_lt (k := 32) a0 a1) (abs_lt (k := 32) (Int.le_of_lt h1.1) h1.2) (by omega) (by omega) (by omega)
      obtain ⟨g, hg⟩ : ∃ g, g = (a * c1 + xs[i].fmod c2 + c3).fmod c4 := ⟨_, rfl⟩
      have gr := fmod_rng (i := a * c1 + xs[i].fmod c2 + c3) h4.1
      rw [← hg] at gr
      refine ⟨.int xs[i], _, _, _, ?_, rfl, .inl ?_, rfl, g, some (.int xs[i]), rfl, gr.1, Int.lt_trans gr.2 h4.2⟩
      · simp [itLoc, lenAt, g1, List.getElem?_eq_getElem hi']
      · simp only [evSs, evS, evE, evL, vGet, List.getElem?_cons_zero, List.getElem?_cons_succ, List.set_cons_zero, List.set_cons_succ, Res.bind, Res.then, SR.bind, ofO, opD, addD, mulD, alt2, int2, bfD, intD, e1, modI_ok n2, modI_ok n4, Option.map_some, ← hg])
    (fun env s h => by
      obtain ⟨rfl, _⟩ := h
      simp [itLoc, lenAt, g1])
  obtain ⟨rfl, a, z, rfl, a0, a1⟩ := e3
  rw [e2]
  simp only [SR.bind]
  obtain ⟨n, hn⟩ : ∃ n, n = st'.length := ⟨_, rfl⟩
  -- the dict
  have lx : (xs.map D.int).length ≤ 100000 := by rw [List.length_map]; omega
  obtain ⟨t1, ht1⟩ : ∃ s, s = st' ++ [Ob.dK []] := ⟨_, rfl⟩
  obtain ⟨t2, ht2⟩ : ∃ s, s = t1 ++ [Ob.lst (xs.map D.int)] := ⟨_, rfl⟩
  obtain ⟨t3, ht3⟩ : ∃ s, s = t2 ++ [Ob.lst (xs.map D.int)] := ⟨_, rfl⟩
  obtain ⟨t4, ht4⟩ : ∃ s, s = t3 ++ [Ob.lst (xs.map D.int).reverse] := ⟨_, rfl⟩
  have l1 : t1.length = n + 1 := by rw [ht1, hn]; simp
  have l2 : t2.length = n + 2 := by rw [ht2, List.length_append, l1]; rfl
  have l3 : t3.length = n + 3 := by rw [ht3, List.length_append, l2]; rfl
  have l4 : t4.length = n + 4 := by rw [ht4, List.length_append, l3]; rfl
  have q2 : t2[t1.length]? = some (.lst (xs.map D.int)) := by rw [ht2]; exact get_last rfl
  have q3 : t3[t2.length]? = some (.lst (xs.map D.int)) := by rw [ht3]; exact get_last rfl
  have q4 : t4[n]? = some (.dK []) := by
    rw [ht4, List.getElem?_append_left (by omega), ht3, List.getElem?_append_left (by omega), ht2, List.getElem?_append_left (by omega), ht1]
    exact get_last hn
  have eli : listD [.loc t1.length] t2 = some (.loc t2.length, t3) := by simp [listD, seqD, q2, ht3]
  have erv : revD (.loc t2.length) t3 = some (.loc t3.length, t4) := by simp [revD, q3, ht4]
  refine ⟨n, t3.length, t4.set n (.dK (dkD key (.loc t3.length) (.int a) (.int 0))), ?_, by omega, ⟨a, by rw [get_set, if_pos rfl, if_pos (by omega)], a0, a1⟩, xs.reverse, ?_, by rw [List.length_reverse]; exact hxl⟩
  · simp only [evSs, evS, evE, evL, evP, evO, dispF, pairsF, vGet, List.getElem?_cons_zero, List.getElem?_cons_succ, Res.bind, Res.then, SR.bind, ofO, partD, ec, bfD, ← ht1, ← ht2, eli, erv, ← hn, dispEnd, q4, keysD, mapO, keyD, Option.map_some, merge3 k1 k2, List.length_cons, List.length_nil]
    simp
  · rw [get_set, if_neg (by omega), List.map_reverse, ht4]
    exact get_last rfl
end Q
end

section
set_option linter.all false
set_option autoImplicit false
set_option maxRecDepth 100000
namespace Q.K00
open PySem Q
def b_f_is_integer : SL := (.cons (.ret (.and (.isi (.var 0) .int) (.not (.isi (.var 0) .bool)))) .nil)
def f_is_integer : Fd := ⟨["thing"], ["thing"], b_f_is_integer, false⟩
def b_f_is_pair : SL := (.cons (.ret (.and (.isi (.var 0) .tup) (.cmp .eq (.blt .len (.cons (.var 0) .nil)) (.int 2)))) .nil)
def f_is_pair : Fd := ⟨["thing"], ["thing"], b_f_is_pair, false⟩
def b_f_is_scheme : SL := (.cons (.ite (.not (.call 1 (.cons (.var 0) .nil))) (.cons (.ret (.bl false)) .nil) .nil) (.cons (.asg (.tp (.cons (.nm 1) (.cons (.nm 2) .nil))) (.var 0)) (.cons (.ite (.or (.not (.call 0 (.cons (.var 1) .nil))) (.or (.not (.call 0 (.cons (.var 2) .nil))) (.not (.chain .le .le (.int 1) (.var 1) (.int 3))))) (.cons (.ret (.bl false)) .nil) .nil) (.cons (.ret (.chain .le .le (.op .fdiv (.call 4 (.cons (.var 0) .nil)) (.int 2)) (.var 2) (.op .sub (.call 4 (.cons (.var 0) .nil)) (.int 1)))) .nil))))
def f_is_scheme : Fd := ⟨["thing", "k", "a"], ["thing"], b_f_is_scheme, false⟩
def b_f_need_scheme : SL := (.cons (.ite (.not (.call 2 (.cons (.var 0) .nil))) (.cons (.raise 0 (.var 0)) .nil) .nil) .nil)
def f_need_scheme : Fd := ⟨["scheme"], ["scheme"], b_f_need_scheme, false⟩
def b_f_radix : SL := (.cons (.ret (.op .shl (.int 1) (.ix (.var 0) (.int 0)))) .nil)
def f_radix : Fd := ⟨["scheme"], ["scheme"], b_f_radix, false⟩
def b_f_bound : SL := (.cons (.expr (.call 3 (.cons (.var 0) .nil))) (.cons (.ret (.call 17 (.cons (.ix (.var 0) (.int 1)) (.cons (.op .sub (.call 4 (.cons (.var 0) .nil)) (.int 1)) .nil)))) .nil))
def f_bound : Fd := ⟨["scheme"], ["scheme"], b_f_bound, false⟩
def b_f_law_deck : SL := (.cons (.set 1 (.int 144040)) (.cons (.for (.nm 2) (.val (.sl (.var 0) .none (.some (.int 63)))) (.cons (.set 1 (.op .mod (.blt .int (.cons (.op .add (.op .add (.op .mul (.var 1) (.int 40692)) (.op .mod (.blt .int (.cons (.var 2) .nil)) (.int 2147483563))) (.int 11)) .nil)) (.int 2147483629))) .nil)) (.cons (.ret (.dict (.cons (.str "left") (.rev (.blt .list (.cons (.sl (.var 0) .none (.some (.int 63))) .nil))) (.cons (.str "mixed") (.var 1) (.cons (.str "draws") (.int 0) .nil))))) .nil)))
def f_law_deck : Fd := ⟨["script", "mixed", "cell"], ["script"], b_f_law_deck, false⟩
def b_f_law_draw : SL := (.cons (.put (.var 0) (.str "draws") (.op .add (.ix (.var 0) (.str "draws")) (.int 1))) (.cons (.set 2 (.op .add (.ix (.var 0) (.str "mixed")) (.op .mul (.int 45491) (.ix (.var 0) (.str "draws"))))) (.cons (.ite (.cmp .ne (.ix (.var 0) (.str "left")) (.lst .nil)) (.cons (.set 3 (.mt .pop (.ix (.var 0) (.str "left")) .nil)) (.cons (.ite (.cmp .ge (.var 3) (.op .pow (.int 10) (.int 18))) (.cons (.expr (.mt .append (.ix (.var 0) (.str "left")) (.cons (.op .fdiv (.var 3) (.blt .max2 (.cons (.int 2) (.cons (.var 1) .nil)))) .nil))) (.cons (.ret (.op .mod (.blt .int (.cons (.var 3) .nil)) (.var 1))) .nil)) .nil) (.cons (.set 2 (.op .add (.var 2) (.op .mod (.blt .int (.cons (.var 3) .nil)) (.int 2147483563)))) .nil))) .nil) (.cons (.set 2 (.op .mod (.blt .int (.cons (.op .add (.op .mul (.var 2) (.int 48271)) (.int 11)) .nil)) (.int 2147483587))) (.cons (.set 2 (.op .mod (.blt .int (.cons (.op .add (.op .add (.op .mul (.var 2) (.var 2)) (.op .mul (.int 52361) (.ix (.var 0) (.str "draws")))) (.int 11)) .nil)) (.int 2147483629))) (.cons (.set 2 (.op .mod (.blt .int (.cons (.op .mul (.var 2) (.int 40014)) .nil)) (.int 2147483647))) (.cons (.ret (.op .mod (.blt .int (.cons (.op .fdiv (.var 2) (.int 64)) .nil)) (.var 1))) .nil)))))))
def f_law_draw : Fd := ⟨["deck", "many", "figure", "cell"], ["deck", "many"], b_f_law_draw, false⟩
def b_f_law_pick : SL := (.cons (.ret (.ix (.var 1) (.call 7 (.cons (.var 0) (.cons (.blt .len (.cons (.var 1) .nil)) .nil))))) .nil)
def f_law_pick : Fd := ⟨["deck", "some"], ["deck", "some"], b_f_law_pick, false⟩
def b_f_law_power : SL := (.cons (.set 2 (.int 1)) (.cons (.for (.nm 3) (.r1 (.var 1)) (.cons (.set 2 (.op .mul (.var 2) (.var 0))) .nil)) (.cons (.ret (.var 2)) .nil)))
def f_law_power : Fd := ⟨["base", "many", "found", "turn"], ["base", "many"], b_f_law_power, false⟩
def b_f_law_two : SL := (.cons (.ret (.call 9 (.cons (.int 2) (.cons (.var 0) .nil)))) .nil)
def f_law_two : Fd := ⟨["many"], ["many"], b_f_law_two, false⟩
def b_f_law_is_int : SL := (.cons (.ret (.and (.isi (.var 0) .int) (.not (.isi (.var 0) .bool)))) .nil)
def f_law_is_int : Fd := ⟨["thing"], ["thing"], b_f_law_is_int, false⟩
def b_f_law_is_tuple : SL := (.cons (.ret (.and (.isi (.var 0) .tup) (.cmp .eq (.blt .len (.cons (.var 0) .nil)) (.var 1)))) .nil)
def f_law_is_tuple : Fd := ⟨["thing", "many"], ["thing", "many"], b_f_law_is_tuple, false⟩
def b_f_law_is_scheme : SL := (.cons (.ite (.or (.not (.call 12 (.cons (.var 0) (.cons (.int 2) .nil)))) (.or (.not (.call 11 (.cons (.ix (.var 0) (.int 0)) .nil))) (.or (.not (.call 11 (.cons (.ix (.var 0) (.int 1)) .nil))) (.not (.chain .le .le (.int 1) (.ix (.var 0) (.int 0)) (.int 3)))))) (.cons (.ret (.bl false)) .nil) .nil) (.cons (.ret (.and (.cmp .le (.call 10 (.cons (.ix (.var 0) (.int 0)) .nil)) (.op .mul (.int 2) (.ix (.var 0) (.int 1)))) (.cmp .le (.ix (.var 0) (.int 1)) (.op .sub (.call 10 (.cons (.ix (.var 0) (.int 0)) .nil)) (.int 1))))) .nil))
def f_law_is_scheme : Fd := ⟨["thing"], ["thing"], b_f_law_is_scheme, false⟩
def b_f_law_bound : SL := (.cons (.par2 1 2 (.ix (.var 0) (.int 1)) (.op .sub (.call 10 (.cons (.ix (.var 0) (.int 0)) .nil)) (.int 1))) (.cons (.for (.nm 3) (.val (.tup (.cons (.int 7) (.cons (.int 5) (.cons (.int 3) (.cons (.int 2) .nil)))))) (.cons (.ite (.and (.cmp .eq (.op .mod (.blt .int (.cons (.var 1) .nil)) (.var 3)) (.int 0)) (.cmp .eq (.op .mod (.blt .int (.cons (.var 2) .nil)) (.var 3)) (.int 0))) (.cons (.par2 1 2 (.op .fdiv (.var 1) (.var 3)) (.op .fdiv (.var 2) (.var 3))) .nil) .nil) .nil)) (.cons (.ret (.tup (.cons (.var 1) (.cons (.var 2) .nil)))) .nil)))
def f_law_bound : Fd := ⟨["scheme", "top", "bottom", "common"], ["scheme"], b_f_law_bound, false⟩
def b_f_law_any : SL := (.cons (.set 1 (.call 8 (.cons (.var 0) (.cons (.lst (.cons (.int 2) (.cons (.int 1) (.cons (.int 3) (.cons (.int 0) (.cons (.int 4) (.cons (.neg (.int 1)) (.cons (.op .pow (.int 10) (.int 6)) (.cons (.bl true) (.cons (.int 5) .nil)))))))))) .nil)))) (.cons (.set 2 (.call 8 (.cons (.var 0) (.cons (.lst (.cons (.int 2) (.cons (.int 1) (.cons (.int 3) (.cons (.int 4) (.cons (.int 5) (.cons (.int 6) (.cons (.int 7) (.cons (.int 8) (.cons (.int 0) (.cons (.neg (.int 2)) (.cons (.op .pow (.int 10) (.int 39)) (.cons (.bl true) (.cons .non (.cons (.int 16) (.cons (.int 31) .nil)))))))))))))))) .nil)))) (.cons (.set 3 (.call 7 (.cons (.var 0) (.cons (.int 6) .nil)))) (.cons (.ite (.cmp .gt (.var 3) (.int 2)) (.cons (.ret (.tup (.cons (.var 1) (.cons (.var 2) .nil)))) .nil) .nil) (.cons (.ite (.cmp .eq (.var 3) (.int 2)) (.cons (.ret (.call 8 (.cons (.var 0) (.cons (.lst (.cons (.tup (.cons (.var 1) (.cons (.var 2) (.cons (.int 0) .nil)))) (.cons (.tup (.cons (.var 1) .nil)) (.cons (.lst (.cons (.var 1) (.cons (.var 2) .nil))) (.cons (.tup (.cons (.tup (.cons (.var 1) (.cons (.var 2) .nil))) .nil)) (.cons (.tup (.cons (.blt .str (.cons (.var 1) .nil)) (.cons (.var 2) .nil))) (.cons (.tup (.cons (.var 1) (.cons (.blt .str (.cons (.var 2) .nil)) .nil))) (.cons (.tup (.cons (.var 2) (.cons (.var 1) .nil))) (.cons (.tup (.cons (.tup (.cons (.var 1) .nil)) (.cons (.var 2) .nil))) (.cons (.tup (.cons (.var 1) (.cons .non .nil))) .nil)))))))))) .nil)))) .nil) .nil) (.cons (.ret (.call 8 (.cons (.var 0) (.cons (.lst (.cons .non (.cons (.bl true) (.cons (.bl false) (.cons (.int 0) (.cons (.int 2) (.cons (.str "") (.cons (.str "(2, 2)") (.cons (.tup .nil) (.cons (.lst .nil) (.cons (.dict .nil) (.cons (.dict (.cons (.int 2) (.int 2) .nil)) (.cons (.tup (.cons (.tup .nil) (.cons (.tup .nil) .nil))) (.cons (.op .pow (.int 10) (.int 39)) (.cons (.neg (.int 1)) (.cons (.str "22") (.cons (.tup (.cons (.int 2) (.cons (.int 2) (.cons (.int 2) .nil)))) .nil))))))))))))))))) .nil)))) .nil))))))
def f_law_any : Fd := ⟨["deck", "k", "a", "way"], ["deck"], b_f_law_any, false⟩
def b_f_law : SL := (.cons (.set 1 (.call 6 (.cons (.var 0) .nil))) (.cons (.for (.nm 2) (.r1 (.int 14)) (.cons (.set 3 (.call 15 (.cons (.var 1) .nil))) (.cons (.set 4 (.call 13 (.cons (.var 3) .nil))) (.cons (.set 5 (.ite (.cmp .eq (.var 2) (.int 0)) (.callK 2 0 [0] .nil (.cons (.var 3) .nil)) (.call 2 (.cons (.var 3) .nil)))) (.cons (.ite (.cmp .ne (.blt .repr (.cons (.var 5) .nil)) (.blt .repr (.cons (.var 4) .nil))) (.cons (.ret (.bl false)) .nil) .nil) (.cons (.set 6 (.lam 0 (.call 5 (.cons (.var 3) .nil)))) (.cons (.ite (.and (.cmp .lt (.var 2) (.int 2)) (.cmp .ne (.blt .repr (.cons (.lam 0 (.callK 5 0 [0] .nil (.cons (.var 3) .nil))) .nil)) (.blt .repr (.cons (.var 6) .nil)))) (.cons (.ret (.bl false)) .nil) .nil) (.cons (.ite (.cmp .ne (.blt .repr (.cons (.var 6) .nil)) (.blt .repr (.cons (.ite (.var 4) (.tup (.cons (.str "returned") (.cons (.call 14 (.cons (.var 3) .nil)) .nil))) (.tup (.cons (.str "BadScheme") (.cons (.var 3) .nil)))) .nil))) (.cons (.ret (.bl false)) .nil) .nil) .nil)))))))) (.cons (.for (.nm 7) (.val (.lst (.cons (.tup (.cons (.int 1) (.cons (.int 1) .nil))) (.cons (.tup (.cons (.int 2) (.cons (.int 2) .nil))) (.cons (.tup (.cons (.int 2) (.cons (.int 3) .nil))) (.cons (.tup (.cons (.int 3) (.cons (.int 4) .nil))) (.cons (.tup (.cons (.int 3) (.cons (.int 5) .nil))) (.cons (.tup (.cons (.int 3) (.cons (.int 6) .nil))) (.cons (.tup (.cons (.int 3) (.cons (.int 7) .nil))) .nil))))))))) (.cons (.ite (.cmp .ne (.blt .repr (.cons (.tup (.cons (.call 2 (.cons (.var 7) .nil)) (.cons (.call 5 (.cons (.var 7) .nil)) .nil))) .nil)) (.blt .repr (.cons (.tup (.cons (.bl true) (.cons (.call 14 (.cons (.var 7) .nil)) .nil))) .nil))) (.cons (.ret (.bl false)) .nil) .nil) .nil)) (.cons (.ret (.bl true)) .nil))))
def f_law : Fd := ⟨["script", "deck", "turn", "thing", "due", "told", "asked", "scheme"], ["script"], b_f_law, true⟩
def b_f_as_fraction : SL := (.cons (.set 2 (.blt .gcd (.cons (.var 0) (.cons (.var 1) .nil)))) (.cons (.ret (.tup (.cons (.op .fdiv (.var 0) (.var 2)) (.cons (.op .fdiv (.var 1) (.var 2)) .nil)))) .nil))
def f_as_fraction : Fd := ⟨["top", "bottom", "common"], ["top", "bottom"], b_f_as_fraction, false⟩
def b_h_law_tried : SL := (.cons (.set 1 .non) (.cons (.tr (.cons (.set 1 (.tup (.cons (.str "returned") (.cons .thunk .nil)))) .nil) (.cons [0] (some 2) (.cons (.set 1 (.tup (.cons (.str "BadScheme") (.cons (.thing 2 "thing") .nil)))) .nil) .nil)) (.cons (.ret (.var 1)) .nil)))
def h_law_tried : Fd := ⟨["call", "found", "e"], ["call"], b_h_law_tried, false⟩
def sg : SG := ⟨[("is_integer", 1), ("is_pair", 1), ("is_scheme", 1), ("need_scheme", 1), ("radix", 1), ("bound", 1), ("_law_deck", 1), ("_law_draw", 2), ("_law_pick", 2), ("_law_power", 2), ("_law_two", 1), ("_law_is_int", 1), ("_law_is_tuple", 2), ("_law_is_scheme", 1), ("_law_bound", 1), ("_law_any", 1), ("law", 1), ("as_fraction", 2)], [(5, 0, ["scheme"], [0]), (2, 0, ["thing"], [0])], [("BadScheme", "thing")], ["_law_tried"], ["bool", "gcd", "int", "isinstance", "len", "list", "max", "range", "repr", "str", "tuple"]⟩
def fd : List Fd := [f_is_integer, f_is_pair, f_is_scheme, f_need_scheme, f_radix, f_bound, f_law_deck, f_law_draw, f_law_pick, f_law_power, f_law_two, f_law_is_int, f_law_is_tuple, f_law_is_scheme, f_law_bound, f_law_any, f_law, f_as_fraction]
def hd : List Fd := [h_law_tried]
def nc (c : Nat) : Nat := if c < 1 then c else 0
def sub (a b : Nat) : Bool := nc a == nc b
def fn (c : Nat) : Str := ["thing"].getD c "thing"
def T : PT := ⟨sg, fd, hd, sub, fn⟩
end Q.K00
end

section
set_option Elab.async false
set_option linter.all false
set_option maxRecDepth 100000
set_option maxHeartbeats 4000000
set_option autoImplicit false
namespace Q.K00
open PySem L2 Q
section
variable {fu n : Nat} {st : Sto} {d : D}
abbrev cf (fu n : Nat) := callF T fu n
theorem kd_nx {k : Kd} (h : kdD d st = some k) : nx d = true := by
  cases d <;> first
    | rfl
    | cases h
def isI : D → Bool
  | .int _ => true
  | _ => false
theorem is_int_ok {k : Kd} (h : kdD d st = some k) : cf fu (n + 1) 0 [d] st = .ok (.bl (isI d)) st ∧ cf fu (n + 1) 11 [d] st = .ok (.bl (isI d)) st := by
  have hv : vGet 0 [some d] st = .ok d st := vGet_ok rfl (kd_nx h)
  have hb : (kdIs k .int && !kdIs k .bool) = isI d := by
    cases d <;> simp only [kdD, Option.some.injEq, reduceCtorEq] at h <;> first
      | (subst h; rfl)
      | skip
    split at h <;> first
      | (cases h; rfl)
      | cases h
  have key : evSs (mkC T fu (callF T fu n)) b_f_is_integer [some d] st = .rt (.bl (isI d)) st := by
    simp only [b_f_is_integer, evSs, evS, evE, fAnd, fNot, hv, Res.bind, Res.then, SR.bind, ofO, isiD, h, Option.map_some, List.any_cons, List.any_nil, Bool.or_false, ofB, truD]
    cases h1 : kdIs k .int <;> simp [h1, ← hb]
  constructor
  · rw [cf, cf_succ (F := f_is_integer) rfl]
    show ofSR (evSs _ b_f_is_integer [some d] st) = _
    rw [key]; rfl
  · rw [cf, cf_succ (F := f_law_is_int) rfl]
    show ofSR (evSs _ b_f_is_integer [some d] st) = _
    rw [key]; rfl
theorem len2 (ds : List D) : decide ((ds.length : Int) = 2) = decide (ds.length = 2) := by
  by_cases h : ds.length = 2
  · simp [h]
  · have : ¬ ((ds.length : Int) = 2) := by omega
    simp [h, this]
theorem eq_int {i j : Int} : eqD (.int i) (.int j) st = some (.bl (decide (i = j)), st) := by simp [eqD, alt2, eqS]
def isP : D → Bool
  | .tup ds => decide (ds.length = 2)
  | _ => false
theorem is_pair_ok {k : Kd} (h : kdD d st = some k) : cf fu (n + 1) 1 [d] st = .ok (.bl (isP d)) st ∧ cf fu (n + 1) 12 [d, .int 2] st = .ok (.bl (isP d)) st := by
  have hv : ∀ x, vGet 0 (some d :: x) st = .ok d st := fun x => vGet_ok rfl (kd_nx h)
  constructor
  · rw [cf, cf_succ (F := f_is_pair) rfl]
    show ofSR (evSs _ b_f_is_pair [some d] st) = _
    simp only [b_f_is_pair, evSs, evS, evE, evL, fAnd, hv, Res.bind, Res.then, SR.bind, ofO, isiD, h, Option.map_some, List.any_cons, List.any_nil, Bool.or_false, ofB, truD]
    cases d <;> simp only [kdD, Option.some.injEq, reduceCtorEq] at h <;> first
      | (subst h; simp [kdIs, isP, ofSR]; done)
      | (subst h; simp only [kdIs, isP, bfD, lenD, cmD, eq_int, if_true, len2, ofSR]; done)
      | (split at h <;> first | (cases h; simp [kdIs, isP, ofSR]; done) | cases h)
  · rw [cf, cf_succ (F := f_law_is_tuple) rfl]
    show ofSR (evSs _ b_f_law_is_tuple [some d, some (.int 2)] st) = _
    simp only [b_f_law_is_tuple, evSs, evS, evE, evL, fAnd, hv, Res.bind, Res.then, SR.bind, ofO, isiD, h, Option.map_some, List.any_cons, List.any_nil, Bool.or_false, ofB, truD]
    cases d <;> simp only [kdD, Option.some.injEq, reduceCtorEq] at h <;> first
      | (subst h; simp [kdIs, isP, ofSR]; done)
      | (subst h; simp only [kdIs, isP, bfD, lenD, cmD, eq_int, if_true, len2, vGet, List.getElem?_cons_zero, List.getElem?_cons_succ, ofSR]; done)
      | (split at h <;> first | (cases h; simp [kdIs, isP, ofSR]; done) | cases h)
def isSchB : D → Bool
  | .tup [.int k, .int a] => (decide (1 ≤ k) && decide (k ≤ 3)) && (decide (((2 : Int) ^ k.toNat) / 2 ≤ a) && decide (a ≤ (2 : Int) ^ k.toNat - 1))
  | _ => false
/-- a value whose kinds are known -/
def Kn (d : D) (st : Sto) : Prop := (∃ k, kdD d st = some k) ∧ ∀ ds, d = .tup ds → ∀ x ∈ ds, ∃ k, kdD x st = some k
theorem shl_small {k : Int} (h1 : 1 ≤ k) (h2 : k ≤ 3) : shlI 1 k = some ((2 : Int) ^ k.toNat) := by
  unfold shlI
  rw [if_pos ⟨by omega, by omega, by decide⟩, Int.one_mul]
theorem radix_ok {k : Int} {r : List D} (h1 : 1 ≤ k) (h2 : k ≤ 3) : cf fu (n + 1) 4 [.tup (.int k :: r)] st = .ok (.int ((2 : Int) ^ k.toNat)) st := by
  rw [cf, cf_succ (F := f_radix) rfl]
  show ofSR (evSs _ b_f_radix [some _] st) = _
  have e : ixD (.tup (.int k :: r)) (.int 0) st = some (.int k, st) := ixD_tup (by
    unfold atI ixN
    rw [if_pos (by decide), if_pos (by rw [List.length_cons]; omega)]; rfl)
  simp only [b_f_radix, evSs, evS, evE, vGet, List.getElem?_cons_zero, Res.bind, Res.then, SR.bind, ofO, opD, int2, e, shl_small h1 h2, Option.map_some, ofSR]
theorem p2_fdiv {k : Nat} : fdivI ((2 : Int) ^ k) 2 = some ((2 : Int) ^ k / 2) := by
  unfold fdivI
  rw [if_pos ⟨by decide, by decide⟩, Int.fdiv_eq_ediv_of_nonneg _ (by decide)]
theorem pairAt {x y : D} {i : Int} : (i = 0 → ixD (.tup [x, y]) (.int i) st = some (x, st)) ∧ (i = 1 → ixD (.tup [x, y]) (.int i) st = some (y, st)) := by
  refine ⟨fun h => ?_, fun h => ?_⟩ <;> subst h <;> exact ixD_tup rfl
theorem is_scheme_ok (h : Kn d st) : cf fu (n + 2) 2 [d] st = .ok (.bl (isSchB d)) st := by
  obtain ⟨⟨k, hk⟩, hx⟩ := h
  rw [cf, cf_succ (F := f_is_scheme) rfl]
  show ofSR (evSs _ b_f_is_scheme [some d, none, none] st) = _
  have hv : ∀ x, vGet 0 (some d :: x) st = .ok d st := fun x => vGet_ok rfl (kd_nx hk)
  have e1 : (mkC T fu (callF T fu (n + 1))).ft 1 [d] st = .ok (.bl (isP d)) st := (is_pair_ok hk).1
  by_cases hp : isP d = true
  · obtain ⟨x, y, rfl⟩ : ∃ x y, d = .tup [x, y] := by
      cases d with
      | tup ds =>
        simp only [isP, decide_eq_true_eq] at hp
        match ds, hp with
        | [x, y], _ => exact ⟨x, y, rfl⟩
      | _ => simp [isP] at hp
    obtain ⟨kx, hkx⟩ := hx _ rfl x (by simp)
    obtain ⟨ky, hky⟩ := hx _ rfl y (by simp)
    have ex : (mkC T fu (callF T fu (n + 1))).ft 0 [x] st = .ok (.bl (isI x)) st := (is_int_ok hkx).1
    have ey : (mkC T fu (callF T fu (n + 1))).ft 0 [y] st = .ok (.bl (isI y)) st := (is_int_ok hky).1
    have vx : ∀ a b, vGet 1 (a :: some x :: b) st = .ok x st := fun _ _ => vGet_ok rfl (kd_nx hkx)
    have vy : ∀ a b c, vGet 2 (a :: b :: some y :: c) st = .ok y st := fun _ _ _ => vGet_ok rfl (kd_nx hky)
    simp only [b_f_is_scheme, evSs_cons]
    simp only [evS, evE, evT, evL, hv, Res.bind, Res.then, SR.bind, e1, hp, fTru, gNot, ofB, truD, Bool.not_true, Bool.false_eq_true, if_false, evSs, gT, gTs, lT, gTp, gsCons, gsNil, gNm, List.length_cons, List.length_nil, Option.bind_some, if_true, ofEv, List.set_cons_zero, List.set_cons_succ, vx, vy, ex, ey, gOr]
    by_cases hi : isI x = true
    · by_cases hj : isI y = true
      · obtain ⟨i, rfl⟩ : ∃ i, x = .int i := by cases x <;> simp [isI] at hi; exact ⟨_, rfl⟩
        obtain ⟨j, rfl⟩ : ∃ i, y = .int i := by cases y <;> simp [isI] at hj; exact ⟨_, rfl⟩
        simp only [isI, Bool.not_true, Bool.false_eq_true, if_false, fChain, fBl, evE, vx, vy, Res.bind, ofO, cmD, leD, int2b, blB, ofB, truD]
        by_cases h1 : 1 ≤ i
        · by_cases h3 : i ≤ 3
          · have er : (mkC T fu (callF T fu (n + 1))).ft 4 [.tup [.int i, .int j]] st = .ok (.int ((2 : Int) ^ i.toNat)) st := radix_ok h1 h3
            simp only [h1, h3, decide_true, if_true, Bool.not_true, Bool.false_eq_true, if_false, hv, er, opD, int2, subD, p2_fdiv, Option.map_some, Res.bind, ofO, isSchB, Bool.true_and, blB, vx, vy]
            by_cases h5 : (2 : Int) ^ i.toNat / 2 ≤ j <;> simp [h5, ofSR, blB, Res.bind, SR.bind, Res.then]
          · simp [h1, h3, isSchB, ofSR, blB]
        · simp [h1, isSchB, ofSR, blB]
      · have : isSchB (.tup [x, y]) = false := by
          cases y <;> first
            | (exact absurd rfl hj)
            | (cases x <;> rfl)
        simp [hi, hj, this, ofSR]
    · have : isSchB (.tup [x, y]) = false := by
        cases x <;> first
          | (exact absurd rfl hi)
          | rfl
      simp [hi, this, ofSR]
  · have hs : isSchB d = false := by
      cases d with
      | tup ds =>
        match ds, hp with
        | [], _ => rfl
        | [x], _ => cases x <;> rfl
        | [x, y], h => exact absurd rfl h
        | x :: y :: z :: r, _ => cases x <;> cases y <;> rfl
      | _ => rfl
    have hp' : isP d = false := by simpa using hp
    simp only [b_f_is_scheme, evSs_cons]
    simp only [evS, evE, evT, evL, hv, Res.bind, Res.then, SR.bind, e1, hp', fTru, gNot, ofB, truD, Bool.not_false, if_true, evSs, hs, ofSR]
theorem two_ok {k : Int} (h0 : 0 ≤ k) (h1 : k ≤ 1000) : cf fu (n + 2) 10 [.int k] st = .ok (.int (2 ^ k.toNat)) st := by
  have e : (mkC T fu (callF T fu (n + 1))).ft 9 [.int 2, .int k] st = .ok (.int (2 ^ k.toNat)) st := by
    show callF T fu (n + 1) 9 _ _ = _
    rw [cf_succ (F := f_law_power) rfl]
    show ofSR (evSs _ powerS [some _, some _, none, none] st) = _
    rw [power_ok (by decide) h0 h1]; rfl
  rw [cf, cf_succ (F := f_law_two) rfl]
  show ofSR (evSs _ b_f_law_two [some _] st) = _
  simp only [b_f_law_two, evSs, evS, evE, evL, vGet, List.getElem?_cons_zero, Res.bind, Res.then, SR.bind, e, ofSR]
theorem half_le {k a : Int} (h1 : 1 ≤ k) (h3 : k ≤ 3) : decide ((2 : Int) ^ k.toNat ≤ 2 * a) = decide ((2 : Int) ^ k.toNat / 2 ≤ a) := by
  have : k = 1 ∨ k = 2 ∨ k = 3 := by omega
  rcases this with rfl | rfl | rfl <;> simp <;> omega
theorem law_is_scheme_ok (h : Kn d st) (hb : ∀ a b : Int, d = .tup [.int a, .int b] → bits b < 900000) : cf fu (n + 3) 13 [d] st = .ok (.bl (isSchB d)) st := by
  obtain ⟨⟨k, hk⟩, hx⟩ := h
  rw [cf, cf_succ (F := f_law_is_scheme) rfl]
  show ofSR (evSs _ b_f_law_is_scheme [some d] st) = _
  have hv : ∀ x, vGet 0 (some d :: x) st = .ok d st := fun x => vGet_ok rfl (kd_nx hk)
  have e1 : (mkC T fu (callF T fu (n + 2))).ft 12 [d, .int 2] st = .ok (.bl (isP d)) st := (is_pair_ok hk).2
  by_cases hp : isP d = true
  · obtain ⟨x, y, rfl⟩ : ∃ x y, d = .tup [x, y] := by
      cases d with
      | tup ds =>
        simp only [isP, decide_eq_true_eq] at hp
        match ds, hp with
        | [x, y], _ => exact ⟨x, y, rfl⟩
      | _ => simp [isP] at hp
    obtain ⟨kx, hkx⟩ := hx _ rfl x (by simp)
    obtain ⟨ky, hky⟩ := hx _ rfl y (by simp)
    have ex : (mkC T fu (callF T fu (n + 2))).ft 11 [x] st = .ok (.bl (isI x)) st := (is_int_ok hkx).2
    have ey : (mkC T fu (callF T fu (n + 2))).ft 11 [y] st = .ok (.bl (isI y)) st := (is_int_ok hky).2
    have a0 : ixD (.tup [x, y]) (.int 0) st = some (x, st) := ixD_tup rfl
    have a1 : ixD (.tup [x, y]) (.int 1) st = some (y, st) := ixD_tup rfl
    simp only [b_f_law_is_scheme, evSs_cons]
    simp only [evS, evE, evT, evL, hv, Res.bind, Res.then, SR.bind, e1, hp, fTru, gNot, ofB, truD, Bool.not_true, Bool.false_eq_true, if_false, ofO, a0, a1, ex, ey, gOr]
    by_cases hi : isI x = true
    · by_cases hj : isI y = true
      · obtain ⟨i, rfl⟩ : ∃ i, x = .int i := by cases x <;> simp [isI] at hi; exact ⟨_, rfl⟩
        obtain ⟨j, rfl⟩ : ∃ i, y = .int i := by cases y <;> simp [isI] at hj; exact ⟨_, rfl⟩
        simp only [isI, Bool.not_true, Bool.false_eq_true, if_false, fChain, fBl, evE, hv, Res.bind, ofO, a0, a1, cmD, leD, int2b, blB, ofB, truD]
        by_cases h1 : 1 ≤ i
        · by_cases h3 : i ≤ 3
          · have er : (mkC T fu (callF T fu (n + 2))).ft 10 [.int i] st = .ok (.int ((2 : Int) ^ i.toNat)) st := two_ok (by omega) (by omega)
            have em : mulI 2 j = some (2 * j) := by
              unfold mulI
              rw [if_pos]
              have := hb i j rfl
              have e2 : bits 2 = 1 := by decide
              omega
            simp only [h1, h3, decide_true, if_true, Bool.not_true, Bool.false_eq_true, if_false, evS, evE, evL, fAnd, cmD, leD, int2b, hv, er, a0, a1, opD, int2, mulD, alt2, em, subD, Option.map_some, Res.bind, Res.then, SR.bind, evSs, ofO, isSchB, Bool.true_and, blB, ofB, truD, half_le h1 h3]
            by_cases h5 : (2 : Int) ^ i.toNat / 2 ≤ j <;> simp [h5, ofSR, Res.bind, SR.bind, Res.then]
          · simp [h1, h3, isSchB, ofSR, evSs, SR.bind, blB, evS, evE, Res.then, Res.bind]
        · simp [h1, isSchB, ofSR, evSs, SR.bind, blB, evS, evE, Res.then, Res.bind]
      · have : isSchB (.tup [x, y]) = false := by
          cases y <;> first
            | (exact absurd rfl hj)
            | (cases x <;> rfl)
        simp [hi, hj, this, ofSR, evSs, SR.bind, evS, evE, Res.then]
    · have : isSchB (.tup [x, y]) = false := by
        cases x <;> first
          | (exact absurd rfl hi)
          | rfl
      simp [hi, this, ofSR, evSs, SR.bind, evS, evE, Res.then]
  · have hs : isSchB d = false := by
      cases d with
      | tup ds =>
        match ds, hp with
        | [], _ => rfl
        | [x], _ => cases x <;> rfl
        | [x, y], h => exact absurd rfl h
        | x :: y :: z :: r, _ => cases x <;> cases y <;> rfl
      | _ => rfl
    have hp' : isP d = false := by simpa using hp
    simp only [b_f_law_is_scheme, evSs_cons]
    simp only [evS, evE, evT, evL, hv, Res.bind, Res.then, SR.bind, e1, hp', fTru, gNot, gOr, ofB, truD, Bool.not_false, if_true, evSs, hs, ofSR]
def schL : List (Int × Int) := [(1, 1), (2, 2), (2, 3), (3, 4), (3, 5), (3, 6), (3, 7)]
theorem sch_of (h : isSchB d = true) : ∃ p ∈ schL, d = .tup [.int p.1, .int p.2] := by
  unfold isSchB at h
  split at h
  · rename_i k a
    simp only [Bool.and_eq_true, decide_eq_true_eq] at h
    obtain ⟨⟨h1, h2⟩, h3, h4⟩ := h
    have hk : k = 1 ∨ k = 2 ∨ k = 3 := by omega
    rcases hk with rfl | rfl | rfl <;> simp at h3 h4
    · exact ⟨(1, 1), by simp [schL], by rw [show a = 1 by omega]⟩
    · have : a = 2 ∨ a = 3 := by omega
      rcases this with rfl | rfl
      · exact ⟨(2, 2), by simp [schL], rfl⟩
      · exact ⟨(2, 3), by simp [schL], rfl⟩
    · have : a = 4 ∨ a = 5 ∨ a = 6 ∨ a = 7 := by omega
      rcases this with rfl | rfl | rfl | rfl
      · exact ⟨(3, 4), by simp [schL], rfl⟩
      · exact ⟨(3, 5), by simp [schL], rfl⟩
      · exact ⟨(3, 6), by simp [schL], rfl⟩
      · exact ⟨(3, 7), by simp [schL], rfl⟩
  · cases h
def bndD : D → D
  | .tup [.int k, .int a] => .tup [.int (a / Int.gcd a (2 ^ k.toNat - 1)), .int ((2 ^ k.toNat - 1) / Int.gcd a (2 ^ k.toNat - 1))]
  | d => d
theorem bound_sch (h : isSchB d = true) : cf fu (n + 5) 5 [d] st = .ok (bndD d) st ∧ cf fu (n + 5) 14 [d] st = .ok (bndD d) st := by
  obtain ⟨p, hp, rfl⟩ := sch_of h
  simp only [schL, List.mem_cons, List.mem_nil_iff, or_false] at hp
  rcases hp with rfl | rfl | rfl | rfl | rfl | rfl | rfl <;> exact ⟨rfl, rfl⟩
theorem need_exc (hk : Kn d st) (h : isSchB d = false) : cf fu (n + 3) 3 [d] st = .exc 0 d st := by
  rw [cf, cf_succ (F := f_need_scheme) rfl]
  show ofSR (evSs _ b_f_need_scheme [some d] st) = _
  have hv : ∀ x, vGet 0 (some d :: x) st = .ok d st := fun x => vGet_ok rfl (by obtain ⟨⟨k, e⟩, _⟩ := hk; exact kd_nx e)
  have e1 : (mkC T fu (callF T fu (n + 2))).ft 2 [d] st = .ok (.bl (isSchB d)) st := is_scheme_ok hk
  simp only [b_f_need_scheme, evSs, evS, evT, evE, evL, fTru, gNot, hv, Res.bind, Res.then, SR.bind, e1, h, ofB, truD, Bool.not_false, if_true, ofSR]
theorem bound_exc (hk : Kn d st) (h : isSchB d = false) : cf fu (n + 4) 5 [d] st = .exc 0 d st := by
  rw [cf, cf_succ (F := f_bound) rfl]
  show ofSR (evSs _ b_f_bound [some d] st) = _
  have hv : ∀ x, vGet 0 (some d :: x) st = .ok d st := fun x => vGet_ok rfl (by obtain ⟨⟨k, e⟩, _⟩ := hk; exact kd_nx e)
  have e1 : (mkC T fu (callF T fu (n + 3))).ft 3 [d] st = .exc 0 d st := need_exc hk h
  simp only [b_f_bound, evSs_cons]
  simp only [evS, evE, evL, hv, Res.bind, Res.then, SR.bind, e1, ofSR]
end
end Q.K00
namespace Q
open PySem L2
mutual
theorem toP_flat {st : Sto} : ∀ (k : Nat) (d : D) (p : PyData) (j : Nat), toP [] k d = some p → toP st (k + j) d = some p
  | 0, d, p, j, h => by simp [toP] at h
  | k + 1, d, p, j, h => by
    rw [Nat.add_right_comm]
    cases d with
    | tup ds =>
      simp only [toP] at h ⊢
      cases e : mapO (toP [] k) ds with
      | none => rw [e] at h; cases h
      | some ps => rw [e] at h; rw [toPs_flat k ds ps j e]; exact h
    | fz ds =>
      simp only [toP] at h ⊢
      cases e : mapO (toP [] k) ds with
      | none => rw [e] at h; cases h
      | some ps => rw [e] at h; rw [toPs_flat k ds ps j e]; exact h
    | loc l => simp [toP] at h
    | exo l => simp [toP] at h
    | _ => simpa only [toP] using h
  termination_by k d => (k, sizeOf d, 1)
theorem toPs_flat {st : Sto} : ∀ (k : Nat) (ds : List D) (ps : List PyData) (j : Nat), mapO (toP [] k) ds = some ps → mapO (toP st (k + j)) ds = some ps
  | k, [], ps, j, h => by simpa [mapO] using h
  | k, d :: ds, ps, j, h => by
    simp only [mapO] at h ⊢
    cases e : toP [] k d with
    | none => rw [e] at h; cases h
    | some p =>
      cases e2 : mapO (toP [] k) ds with
      | none => rw [e, e2] at h; cases h
      | some qs =>
        rw [e, e2] at h
        rw [toP_flat k d p j e, toPs_flat k ds qs j e2]
        exact h
  termination_by k ds => (k, sizeOf ds, 0)
end
theorem kd_flat {st : Sto} {d : D} {k : Kd} (h : kdD d [] = some k) : kdD d st = some k := by
  cases d <;> first
    | exact h
    | (simp [kdD] at h)
/-- what may be shown -/
def shOk (p : PyData) : Bool := p.showable && decide (p.shown.length ≤ 16000000) && decide (p.depth ≤ 50) && (!p.hasDict || noList p)
theorem shown_of {d : D} {st : Sto} {p : PyData} (h : toP st 30 d = some p) (o : shOk p = true) : shownD d st = some p.shown := by
  unfold shownD
  rw [h]
  simp only [shOk, Bool.and_eq_true, decide_eq_true_eq, Bool.or_eq_true, Bool.not_eq_true'] at o
  obtain ⟨⟨⟨h1, h2⟩, h3⟩, h4⟩ := o
  show (if _ then _ else _) = _
  rw [if_pos ⟨h1, h2, h3, fun z => by rcases h4 with h4 | h4 <;> simp_all⟩]
end Q
namespace Q.K00
open PySem L2 Q
section
variable {fu n m : Nat} {st : Sto} {d : D}
/-- what is needed of a thing -/
structure Gd (st : Sto) (d : D) : Prop where
  kn : Kn d st
  bt : ∀ a b : Int, d = .tup [.int a, .int b] → bits b < 900000
  sh : ∃ x, shownD (.tup [.str "BadScheme", d]) st = some x
def badP (p : PyData) : PyData := .tuple [.str "BadScheme", p]
def flatB (d : D) : Bool := (kdD d []).isSome && (match d with
    | .tup ds => ds.all fun x => (kdD x []).isSome
    | _ => true) && (match d with
    | .tup [.int _, .int b] => decide (bits b < 900000)
    | _ => true) && (match toP [] 6 d with
    | some p => shOk (badP p)
    | none => false)
theorem gd_flat (h : flatB d = true) : Gd st d := by
  simp only [flatB, Bool.and_eq_true] at h
  obtain ⟨⟨⟨h1, h2⟩, h3⟩, h4⟩ := h
  refine ⟨⟨?_, fun ds e x hx => ?_⟩, fun a b e => ?_, ?_⟩
  · obtain ⟨k, hk⟩ := Option.isSome_iff_exists.mp h1
    exact ⟨k, kd_flat hk⟩
  · subst e
    simp only [List.all_eq_true] at h2
    obtain ⟨k, hk⟩ := Option.isSome_iff_exists.mp (h2 x hx)
    exact ⟨k, kd_flat hk⟩
  · subst e
    simpa using h3
  · cases e : toP [] 6 d with
    | none => rw [e] at h4; cases h4
    | some p =>
      rw [e] at h4
      refine ⟨_, shown_of (p := badP p) ?_ h4⟩
      show (mapO (toP st 29) [.str "BadScheme", d]).map PyData.tuple = _
      simp only [mapO, toP_flat (st := st) 6 d p 23 e]
      rfl
/-- a thing that lies in the store -/
theorem gd_loc {l : Nat} {k : Kd} {p : PyData} (hk : kdD (.loc l) st = some k) (ht : toP st 29 (.loc l) = some p) (hs : shOk (badP p) = true) : Gd st (.loc l) := by
  refine ⟨⟨⟨k, hk⟩, fun ds e => (by cases e)⟩, fun a b e => (by cases e), _, shown_of (p := badP p) ?_ hs⟩
  show (mapO (toP st 29) [.str "BadScheme", .loc l]).map PyData.tuple = _
  simp only [mapO, ht]
  rfl
def KS : List D := [.int 2, .int 1, .int 3, .int 0, .int 4, .int (-1), .int (10 ^ 6), .bl true, .int 5]
def AS : List D := [.int 2, .int 1, .int 3, .int 4, .int 5, .int 6, .int 7, .int 8, .int 0, .int (-2), .int (10 ^ 39), .bl true, .non, .int 16, .int 31]
def sOf (d : D) : D := match strD [d] [] with
  | some (x, _) => x
  | none => .non
def shp (k a : D) : List D := [.tup [k, a], .tup [k, a, .int 0], .tup [k], .tup [.tup [k, a]], .tup [sOf k, a], .tup [k, sOf a], .tup [a, k], .tup [.tup [k], a], .tup [k, .non]]
theorem str_ks (h : d ∈ KS ∨ d ∈ AS) : strD [d] st = some (sOf d, st) := by
  simp only [KS, AS, List.mem_cons, List.mem_nil_iff, or_false] at h
  rcases h with (rfl | rfl | rfl | rfl | rfl | rfl | rfl | rfl | rfl) | (rfl | rfl | rfl | rfl | rfl | rfl | rfl | rfl | rfl | rfl | rfl | rfl | rfl | rfl | rfl) <;> rfl
end
end Q.K00
namespace Q.K00
open PySem L2 Q
def okK (k : D) : Bool := AS.all fun a => (shp k a).all flatB
theorem okk0 : okK (.int 2) = true := by decide +kernel
theorem okk1 : okK (.int 1) = true := by decide +kernel
theorem okk2 : okK (.int 3) = true := by decide +kernel
theorem okk3 : okK (.int 0) = true := by decide +kernel
theorem okk4 : okK (.int 4) = true := by decide +kernel
theorem okk5 : okK (.int (-1)) = true := by decide +kernel
theorem okk6 : okK (.int (10 ^ 6)) = true := by decide +kernel
theorem okk7 : okK (.bl true) = true := by decide +kernel
theorem okk8 : okK (.int 5) = true := by decide +kernel
theorem all_flat : (KS.all fun k => AS.all fun a => (shp k a).all flatB) = true := by
  show (KS.all okK) = true
  simp only [KS, List.all_cons, List.all_nil, okk0, okk1, okk2, okk3, okk4, okk5, okk6, okk7, okk8, Bool.and_true]

end Q.K00
namespace Q.K00
open PySem L2 Q
def pOf (d : D) : PyData := (toP [] 1 d).getD .none
theorem all_lists : (KS.all fun k => AS.all fun a => shOk (badP (.list [pOf k, pOf a])) && (toP [] 1 k).isSome && (toP [] 1 a).isSome) = true := by decide +kernel
end Q.K00
namespace Q
instance {c : Int} : Decidable (Cn c) := inferInstanceAs (Decidable (_ ∧ _))
end Q
namespace Q.K00
open PySem L2 Q
section
variable {fu n m : Nat} {st : Sto} {d : D}
theorem drawOk {k : Nat} : DrawOk (mkC T fu (callF T fu (k + 1))) 7 "left" := fun st n m b many Dk hb hm => by
  have k1 : ("left" : Str) ≠ "mixed" := by decide +kernel
  have k2 : ("left" : Str) ≠ "draws" := by decide +kernel
  obtain ⟨r, st', h1, h2, h3, h4⟩ := draw_ok (C := mkC T fu (callF T fu k)) (key := "left") (c1 := 45491) (c2 := 2147483563) (c3 := 48271) (c4 := 11) (c5 := 2147483587) (c6 := 52361) (c7 := 11) (c8 := 2147483629) (c9 := 40014) (c10 := 2147483647) (x := none) (y := none) k1 k2 Dk (by decide) (by decide) (by decide) (by decide) (by decide) (by decide) (by decide) (by decide) (by decide) (by decide) hb hm
  refine ⟨r, st', ?_, h2, h3, h4⟩
  show callF T fu (k + 1) 7 _ _ = _
  rw [cf_succ (F := f_law_draw) rfl]
  have e : evSs (mkC T fu (callF T fu k)) f_law_draw.body (env0 f_law_draw.N.length [.loc n, .int many]) st = .rt (.int r) st' := h1
  rw [e]; rfl
theorem pickOk {k : Nat} : PickOk (mkC T fu (callF T fu (k + 2))) 8 "left" := fun st n m l b ds Dk hb hl h0 hz n1 n2 => by
  obtain ⟨d, st', h1, h2, h3, h4⟩ := pick_ok (C := mkC T fu (callF T fu (k + 1))) (dr := 7) drawOk Dk hb hl h0 hz n1 n2
  refine ⟨d, st', h1, ?_, h3, h4⟩
  show callF T fu (k + 2) 8 _ _ = _
  rw [cf_succ (F := f_law_pick) rfl]
  have e : evSs (mkC T fu (callF T fu (k + 1))) f_law_pick.body (env0 f_law_pick.N.length [.loc n, .loc l]) st = .rt d st' := h2
  rw [e]; rfl
theorem flat_ka {k a x : D} (hk : k ∈ KS) (ha : a ∈ AS) (h : x ∈ shp k a) : Gd st x := by
  have h1 := all_flat
  simp only [List.all_eq_true] at h1
  exact gd_flat (h1 k hk a ha x h)
theorem list_ka {k a : D} {l : Nat} (hk : k ∈ KS) (ha : a ∈ AS) (h : st[l]? = some (.lst [k, a])) : Gd st (.loc l) := by
  have h1 := all_lists
  simp only [List.all_eq_true, Bool.and_eq_true] at h1
  obtain ⟨⟨h2, h3⟩, h4⟩ := h1 k hk a ha
  have e1 : toP [] 1 k = some (pOf k) := by
    obtain ⟨p, hp⟩ := Option.isSome_iff_exists.mp h3
    simp [pOf, hp]
  have e2 : toP [] 1 a = some (pOf a) := by
    obtain ⟨p, hp⟩ := Option.isSome_iff_exists.mp h4
    simp [pOf, hp]
  refine gd_loc (k := .lst) (p := .list [pOf k, pOf a]) (by simp [kdD, h]) ?_ h2
  simp only [toP, h, mapO, toP_flat (st := st) 1 k _ 27 e1, toP_flat (st := st) 1 a _ 27 e2, Option.map_some]
def oddL (l : Nat) : List D := [.non, .bl true, .bl false, .int 0, .int 2, .str "", .str "(2, 2)", .tup [], .loc l, .loc (l + 1), .loc (l + 2), .tup [.tup [], .tup []], .int (10 ^ 39), .int (-1), .str "22", .tup [.int 2, .int 2, .int 2]]
theorem odd_flat : ([.non, .bl true, .bl false, .int 0, .int 2, .str "", .str "(2, 2)", .tup [], .tup [.tup [], .tup []], .int (10 ^ 39), .int (-1), .str "22", .tup [.int 2, .int 2, .int 2]] : List D).all flatB = true := by decide +kernel
theorem odd_gd {l : Nat} {x : D} (h1 : st[l]? = some (.lst [])) (h2 : st[l + 1]? = some (.dK [])) (h3 : st[l + 2]? = some (.dK [(.inl 2, .int 2)])) (h : x ∈ oddL l) : Gd st x := by
  have hf := odd_flat
  simp only [List.all_eq_true] at hf
  have c1 : shOk (badP (.list [])) = true := by decide +kernel
  have c2 : shOk (badP (.dict [])) = true := by decide +kernel
  have c3 : shOk (badP (.dict [(.int 2, .int 2)])) = true := by decide +kernel
  simp only [oddL, List.mem_cons, List.mem_nil_iff, or_false] at h
  rcases h with rfl | rfl | rfl | rfl | rfl | rfl | rfl | rfl | rfl | rfl | rfl | rfl | rfl | rfl | rfl | rfl
  case inr.inr.inr.inr.inr.inr.inr.inr.inl => exact gd_loc (k := .lst) (by simp [kdD, h1]) (by simp only [toP, h1, mapO]; rfl) c1
  case inr.inr.inr.inr.inr.inr.inr.inr.inr.inl => exact gd_loc (k := .dct) (by simp [kdD, h2]) (by simp only [toP, h2, mapO]; rfl) c2
  case inr.inr.inr.inr.inr.inr.inr.inr.inr.inr.inl => exact gd_loc (k := .dct) (by simp [kdD, h3]) (by simp only [toP, h3, mapO]; rfl) c3
  all_goals exact gd_flat (hf _ (by simp))
end
end Q.K00
namespace Q
open PySem L2
def dropS : Nat → SL → SL
  | 0, b => b
  | _ + 1, .nil => .nil
  | n + 1, .cons _ r => dropS n r
theorem evSs_step {C : Ctx} {b r : SL} {s : S} {env env' : Ev} {st st' : Sto} (h : b = .cons s r) (e : evS C s env st = .nx env' st') : evSs C b env st = evSs C r env' st' := by
  rw [h, evSs_cons, e]; rfl
theorem evSs_rt {C : Ctx} {b r : SL} {s : S} {env : Ev} {st st' : Sto} {d : D} (h : b = .cons s r) (e : evS C s env st = .rt d st') : evSs C b env st = .rt d st' := by
  rw [h, evSs_cons, e]; rfl
section
variable {st : Sto} {a b c : D}
theorem disp22 {env : Ev} {s : Sto} : dispF [((fun _ s => .ok (.int 2) s), (fun _ s => .ok (.int 2) s))] env s = .ok (.loc s.length) (s ++ [.dK [(.inl 2, .int 2)]]) := by
  have h : (s ++ [Ob.dK []])[s.length]? = some (.dK []) := by rw [List.getElem?_append_right (Nat.le_refl _), Nat.sub_self]; rfl
  have h2 : (s ++ [Ob.dK []]).set s.length (.dK [(.inl 2, .int 2)]) = s ++ [.dK [(.inl 2, .int 2)]] := by
    rw [List.set_append_right _ _ (Nat.le_refl _), Nat.sub_self]; rfl
  have e : mergeD [] [(.inl 2, .int 2)] = [(.inl 2, .int 2)] := rfl
  simp only [dispF, pairsF, evE, Res.bind, dispEnd, h, keysD, mapO, keyD, Option.map_some, e, h2, List.length_cons, List.length_nil, ofO]
  rfl
theorem mkT0 : mkTup [] st = some (.tup [], st) := rfl
theorem mkT1 : mkTup [a] st = some (.tup [a], st) := rfl
theorem mkT2 : mkTup [a, b] st = some (.tup [a, b], st) := rfl
theorem mkT3 : mkTup [a, b, c] st = some (.tup [a, b, c], st) := rfl
theorem mkL_ok {ds : List D} (h : ds.length ≤ 100000) : mkLst ds st = some (.loc st.length, st ++ [.lst ds]) := by unfold mkLst; rw [if_pos h]
end
end Q
namespace Q.K00
open PySem L2 Q
section
variable {fu n m : Nat} {st : Sto} {d : D}
theorem nx_ks (h : d ∈ KS) : nx d = true := by
  have : KS.all nx = true := rfl
  exact List.all_eq_true.mp this d h
theorem nx_as (h : d ∈ AS) : nx d = true := by
  have : AS.all nx = true := rfl
  exact List.all_eq_true.mp this d h
theorem any_ok {k : Nat} {b : Int} (Dk : Deck "left" st n m b) (hb : 0 ≤ b ∧ b < 2 ^ 38) : ∃ x st' b', cf fu (k + 4) 15 [.loc n] st = .ok x st' ∧ Deck "left" st' n m b' ∧ b ≤ b' ∧ b' ≤ b + 4 ∧ Fr n m st st' ∧ Gd st' x ∧ nx x = true := by
  rw [cf, cf_succ (F := f_law_any) rfl]
  obtain ⟨C, hC⟩ : ∃ C, C = mkC T fu (callF T fu (k + 3)) := ⟨_, rfl⟩
  have Dr : DrawOk C 7 "left" := by rw [hC]; exact drawOk
  have Pk : PickOk C 8 "left" := by rw [hC]; exact pickOk
  rw [← hC]
  show ∃ x st' b', ofSR (evSs C b_f_law_any [some (.loc n), none, none, none] st) = _ ∧ _
  obtain ⟨kk, s1, hk, e1, D1, F1⟩ := pick_new Pk (ds := KS) Dk ⟨by omega, by omega⟩ (by simp [KS]) (by simp [KS])
  have r1 : evSs C b_f_law_any [some (.loc n), none, none, none] st = evSs C (dropS 1 b_f_law_any) [some (.loc n), some kk, none, none] s1 := evSs_step rfl (by
    show (C.ft 8 [.loc n, .loc st.length] (st ++ [.lst KS])).then _ _ = _
    rw [e1]; rfl)
  obtain ⟨aa, s2, ha, e2, D2, F2⟩ := pick_new Pk (ds := AS) D1 ⟨by omega, by omega⟩ (by simp [AS]) (by simp [AS])
  have r2 : evSs C (dropS 1 b_f_law_any) [some (.loc n), some kk, none, none] s1 = evSs C (dropS 2 b_f_law_any) [some (.loc n), some kk, some aa, none] s2 := evSs_step rfl (by
    show (C.ft 8 [.loc n, .loc s1.length] (s1 ++ [.lst AS])).then _ _ = _
    rw [e2]; rfl)
  obtain ⟨r, s3, e3, hr, D3, F3⟩ := Dr s2 n m (b + 1 + 1) 6 D2 ⟨by omega, by omega⟩ ⟨by omega, by omega⟩
  have r3 : evSs C (dropS 2 b_f_law_any) [some (.loc n), some kk, some aa, none] s2 = evSs C (dropS 3 b_f_law_any) [some (.loc n), some kk, some aa, some (.int r)] s3 := evSs_step rfl (by
    show (C.ft 7 [.loc n, .int 6] s2).then _ _ = _
    rw [e3]; rfl)
  have F : Fr n m st s3 := (F1.trans F2).trans F3
  have vk : ∀ (s : Sto) (x : Option D) (y : List (Option D)), vGet 1 (x :: some kk :: y) s = .ok kk s := fun _ _ _ => vGet_ok rfl (nx_ks hk)
  have va : ∀ (s : Sto) (x z : Option D) (y : List (Option D)), vGet 2 (x :: z :: some aa :: y) s = .ok aa s := fun _ _ _ _ => vGet_ok rfl (nx_as ha)
  have v0 : ∀ (s : Sto) (y : List (Option D)), vGet 0 (some (.loc n) :: y) s = .ok (.loc n) s := fun _ _ => rfl
  rw [r1, r2, r3]
  have t4 : evT C (.cmp .gt (.var 3) (.int 2)) [some (.loc n), some kk, some aa, some (.int r)] s3 = .ok (decide (2 < r)) s3 := by
    simp only [evT, fBl, evE, vGet, Res.bind, ofO, cmD, gtD, int2b, List.getElem?_cons_zero, List.getElem?_cons_succ, blB]
  by_cases c1 : 2 < r
  · refine ⟨.tup [kk, aa], s3, b + 1 + 1 + 1, ?_, D3, by omega, by omega, F, flat_ka hk ha (by simp [shp]), rfl⟩
    rw [evSs_rt (b := dropS 3 b_f_law_any) (d := .tup [kk, aa]) (st' := s3) rfl]
    · rfl
    · simp only [evS, t4, Res.then, decide_eq_true c1, if_true, evSs, evE, evL, vk, va, Res.bind, ofO, mkT2, SR.bind]
  · have r4 : evSs C (dropS 3 b_f_law_any) [some (.loc n), some kk, some aa, some (.int r)] s3 = evSs C (dropS 4 b_f_law_any) [some (.loc n), some kk, some aa, some (.int r)] s3 := evSs_step rfl (by
      simp only [evS, t4, Res.then, decide_eq_false c1, Bool.false_eq_true, if_false, evSs])
    have t5 : evT C (.cmp .eq (.var 3) (.int 2)) [some (.loc n), some kk, some aa, some (.int r)] s3 = .ok (decide (r = 2)) s3 := by
      simp only [evT, fBl, evE, vGet, Res.bind, ofO, cmD, eq_int, List.getElem?_cons_zero, List.getElem?_cons_succ, blB]
    rw [r4]
    by_cases c2 : r = 2
    · obtain ⟨s4, hs4⟩ : ∃ s, s = s3 ++ [Ob.lst [kk, aa]] := ⟨_, rfl⟩
      obtain ⟨ds, hds⟩ : ∃ ds : List D, ds = [.tup [kk, aa, .int 0], .tup [kk], .loc s3.length, .tup [.tup [kk, aa]], .tup [sOf kk, aa], .tup [kk, sOf aa], .tup [aa, kk], .tup [.tup [kk], aa], .tup [kk, .non]] := ⟨_, rfl⟩
      have D4 : Deck "left" s4 n m (b + 1 + 1 + 1) := by rw [hs4]; exact D3.app
      have F4 : Fr n m s3 s4 := by rw [hs4]; exact Fr.app
      obtain ⟨x, s5, hx, e5, D5, F5⟩ := pick_new Pk (ds := ds) D4 ⟨by omega, by omega⟩ (by simp [hds]) (by simp [hds])
      have g4 : s4[s3.length]? = some (.lst [kk, aa]) := by rw [hs4, List.getElem?_append_right (Nat.le_refl _), Nat.sub_self]; rfl
      have nn : s3.length ≠ n := by
        obtain ⟨_, ⟨_, q, _⟩, _⟩ := D3
        have := lt_of_get q
        omega
      have nm : s3.length ≠ m := by
        obtain ⟨_, _, _, q, _⟩ := D3
        have := lt_of_get q
        omega
      have g5 : s5[s3.length]? = some (.lst [kk, aa]) := by rw [F5.2 _ (lt_of_get g4) nn nm, g4]
      have eL : mkLst ds s4 = some (.loc s4.length, s4 ++ [.lst ds]) := mkL_ok (by simp [hds])
      have hsk : ∀ s, strD [kk] s = some (sOf kk, s) := fun s => str_ks (.inl hk)
      have hsa : ∀ s, strD [aa] s = some (sOf aa, s) := fun s => str_ks (.inr ha)
      refine ⟨x, s5, b + 1 + 1 + 1 + 1, ?_, D5, by omega, by omega, (F.trans F4).trans F5, ?_, ?_⟩
      · rw [evSs_rt (b := dropS 4 b_f_law_any) (d := x) (st' := s5) rfl]
        · rfl
        · simp only [evS, t5, Res.then, decide_eq_true c2, if_true, evSs, SR.bind, evE, evL, vk, va, Res.bind, ofO, mkT1, mkT2, mkT3, bfD, hsk, hsa, mkL_ok (show ([kk, aa] : List D).length ≤ 100000 by simp), ← hs4, ← hds, eL, v0, e5]
      · rw [hds] at hx
        simp only [List.mem_cons, List.mem_nil_iff, or_false] at hx
        rcases hx with rfl | rfl | rfl | rfl | rfl | rfl | rfl | rfl | rfl
        case inr.inr.inl => exact list_ka hk ha g5
        all_goals exact flat_ka hk ha (by simp [shp])
      · rw [hds] at hx
        simp only [List.mem_cons, List.mem_nil_iff, or_false] at hx
        rcases hx with rfl | rfl | rfl | rfl | rfl | rfl | rfl | rfl | rfl <;> rfl
    · have r5 : evSs C (dropS 4 b_f_law_any) [some (.loc n), some kk, some aa, some (.int r)] s3 = evSs C (dropS 5 b_f_law_any) [some (.loc n), some kk, some aa, some (.int r)] s3 := evSs_step rfl (by
        simp only [evS, t5, Res.then, decide_eq_false c2, Bool.false_eq_true, if_false, evSs])
      rw [r5]
      obtain ⟨s4, hs4⟩ : ∃ s, s = s3 ++ [Ob.lst []] ++ [Ob.dK []] ++ [Ob.dK [(.inl 2, .int 2)]] := ⟨_, rfl⟩
      have D4 : Deck "left" s4 n m (b + 1 + 1 + 1) := by rw [hs4]; exact D3.app.app.app
      have F4 : Fr n m s3 s4 := by rw [hs4]; exact (Fr.app.trans Fr.app).trans Fr.app
      obtain ⟨x, s5, hx, e5, D5, F5⟩ := pick_new Pk (ds := oddL s3.length) D4 ⟨by omega, by omega⟩ (by simp [oddL]) (by simp [oddL])
      have ln : n < s3.length := by
        obtain ⟨_, ⟨_, q, _⟩, _⟩ := D3
        exact lt_of_get q
      have lm : m < s3.length := by
        obtain ⟨_, _, _, q, _⟩ := D3
        exact lt_of_get q
      have hl4 : s4.length = s3.length + 3 := by rw [hs4]; simp
      have h1 : s4[s3.length]? = some (.lst []) := by rw [hs4]; simp
      have h2 : s4[s3.length + 1]? = some (.dK []) := by rw [hs4]; simp
      have h3 : s4[s3.length + 2]? = some (.dK [(.inl 2, .int 2)]) := by rw [hs4]; simp
      refine ⟨x, s5, b + 1 + 1 + 1 + 1, ?_, D5, by omega, by omega, (F.trans F4).trans F5, odd_gd (l := s3.length) (by rw [F5.2 _ (by omega) (by omega) (by omega), h1]) (by rw [F5.2 _ (by omega) (by omega) (by omega), h2]) (by rw [F5.2 _ (by omega) (by omega) (by omega), h3]) hx, ?_⟩
      · rw [evSs_rt (b := dropS 5 b_f_law_any) (d := x) (st' := s5) rfl]
        · rfl
        · have eL : evL C (.cons (.var 0) (.cons (.lst (.cons .non (.cons (.bl true) (.cons (.bl false) (.cons (.int 0) (.cons (.int 2) (.cons (.str "") (.cons (.str "(2, 2)") (.cons (.tup .nil) (.cons (.lst .nil) (.cons (.dict .nil) (.cons (.dict (.cons (.int 2) (.int 2) .nil)) (.cons (.tup (.cons (.tup .nil) (.cons (.tup .nil) .nil))) (.cons (.op .pow (.int 10) (.int 39)) (.cons (.neg (.int 1)) (.cons (.str "22") (.cons (.tup (.cons (.int 2) (.cons (.int 2) (.cons (.int 2) .nil)))) .nil))))))))))))))))) .nil)) [some (.loc n), some kk, some aa, some (.int r)] s3 = .ok [.loc n, .loc s4.length] (s4 ++ [.lst (oddL s3.length)]) := by
            have eL : ∀ s, mkLst (oddL s3.length) s = some (.loc s.length, s ++ [.lst (oddL s3.length)]) := fun s => mkL_ok (by simp [oddL])
            have l2 : (s3 ++ [Ob.lst []]).length = s3.length + 1 := by simp
            have l3 : (s3 ++ [Ob.lst []] ++ [Ob.dK []]).length = s3.length + 2 := by simp
            have e39 : powI 10 39 = some (10 ^ 39) := rfl
            simp only [oddL] at eL
            simp only [evE, evL, evP, Res.bind, ofO, mkT0, mkT2, mkT3, mkL_ok (show ([] : List D).length ≤ 100000 by simp), disp22, opD, int2, e39, negD, Option.map_some, vGet, List.getElem?_cons_zero, l2, l3, ← hs4, eL, oddL]
          show ((evL C _ _ s3).bind (C.ft 8)).then _ _ = _
          rw [eL]
          simp only [Res.bind, e5, Res.then]
      · simp only [oddL, List.mem_cons, List.mem_nil_iff, or_false] at hx
        rcases hx with rfl | rfl | rfl | rfl | rfl | rfl | rfl | rfl | rfl | rfl | rfl | rfl | rfl | rfl | rfl | rfl <;> rfl
end
end Q.K00
namespace Q
open PySem L2
theorem ne_str {x : Str} {st : Sto} : neD (.str x) (.str x) st = some (.bl false, st) := by simp [neD, alt2, negB, eqS]
theorem repr_of {d : D} {st : Sto} {x : Str} (h : shownD d st = some x) : reprD [d] st = some (.str x, st) := by simp [reprD, h]
theorem thingR_ok {C : Ctx} {i c : Nat} {f : Str} {d : D} {env : Ev} {st : Sto} (h : C.ex = some (c, d)) (hf : f = C.fn c) (he : env[i]? = some (some (.exo 0))) : thingR C i f env st = .ok d st := by
  unfold thingR
  rw [h]
  simp [thingF, he, hf]
end Q
namespace Q.K00
open PySem L2 Q
section
variable {fu n m : Nat} {st : Sto} {d v : D}
theorem tried_rt {ft : Nat → List D → Sto → Res D} {th : Sto → Res D} (h : th st = .ok v st) : (mkC T fu ft).hf 0 th st = .ok (.tup [.str "returned", v]) st := by
  show ofSR (evSs (hoC T fu ft th) b_h_law_tried [some (.exo 1), none, none] st) = _
  have e : thF th [some (.exo 1), some .non, none] st = .ok v st := h
  have e2 : evE (hoC T fu ft th) .thunk [some (.exo 1), some .non, none] st = .ok v st := e
  simp only [b_h_law_tried, evSs_cons]
  simp only [evS, evE, Res.then, SR.bind, List.set_cons_zero, List.set_cons_succ, tryF, evSs_cons, evL, Res.bind]
  simp only [hoC, e, Res.bind, mkT2, ofO, Res.then, evSs, SR.bind, vGet, List.getElem?_cons_zero, List.getElem?_cons_succ, ofSR]
theorem tried_exc {ft : Nat → List D → Sto → Res D} {th : Sto → Res D} (h : th st = .exc 0 v st) : (mkC T fu ft).hf 0 th st = .ok (.tup [.str "BadScheme", v]) st := by
  show ofSR (evSs (hoC T fu ft th) b_h_law_tried [some (.exo 1), none, none] st) = _
  have e : thF th [some (.exo 1), some .non, none] st = .exc 0 v st := h
  simp only [b_h_law_tried, evSs_cons]
  simp only [evS, evE, Res.then, SR.bind, List.set_cons_zero, List.set_cons_succ, tryF, evSs_cons, evL, Res.bind]
  have hs : [0].any (T.sub 0) = true := rfl
  have ht : ∀ a b e, thingR ⟨ft, fun _ _ _ => .err, fun _ => .err, fu, T.sub, T.fn, some (0, v)⟩ 2 "thing" (a :: b :: some (.exo 0) :: e) st = .ok v st := fun _ _ _ => thingR_ok rfl rfl rfl
  simp only [hoC, e, Res.bind, Res.then, evSs, SR.bind, evH, handle, hs, if_true, evSs_cons, evS, evE, evL, setO, List.set_cons_zero, List.set_cons_succ, ht, List.getElem?_cons_zero, List.getElem?_cons_succ, mkT2, ofO]
  simp [leaveS, setO, clean, isX, SR.bind, ofSR, vGet]
theorem sch_shown (h : isSchB d = true) : (∃ z, shownD (.tup [.str "returned", bndD d]) st = some z) ∧ ∃ z, shownD (.tup [.bl true, bndD d]) st = some z := by
  obtain ⟨p, hp, rfl⟩ := sch_of h
  simp only [schL, List.mem_cons, List.mem_nil_iff, or_false] at hp
  rcases hp with rfl | rfl | rfl | rfl | rfl | rfl | rfl
  · exact ⟨⟨_, shown_of (p := .tuple [.str "returned", .tuple [.int 1, .int 1]]) rfl (by decide +kernel)⟩, _, shown_of (p := .tuple [.bool true, .tuple [.int 1, .int 1]]) rfl (by decide +kernel)⟩
  · exact ⟨⟨_, shown_of (p := .tuple [.str "returned", .tuple [.int 2, .int 3]]) rfl (by decide +kernel)⟩, _, shown_of (p := .tuple [.bool true, .tuple [.int 2, .int 3]]) rfl (by decide +kernel)⟩
  · exact ⟨⟨_, shown_of (p := .tuple [.str "returned", .tuple [.int 1, .int 1]]) rfl (by decide +kernel)⟩, _, shown_of (p := .tuple [.bool true, .tuple [.int 1, .int 1]]) rfl (by decide +kernel)⟩
  · exact ⟨⟨_, shown_of (p := .tuple [.str "returned", .tuple [.int 4, .int 7]]) rfl (by decide +kernel)⟩, _, shown_of (p := .tuple [.bool true, .tuple [.int 4, .int 7]]) rfl (by decide +kernel)⟩
  · exact ⟨⟨_, shown_of (p := .tuple [.str "returned", .tuple [.int 5, .int 7]]) rfl (by decide +kernel)⟩, _, shown_of (p := .tuple [.bool true, .tuple [.int 5, .int 7]]) rfl (by decide +kernel)⟩
  · exact ⟨⟨_, shown_of (p := .tuple [.str "returned", .tuple [.int 6, .int 7]]) rfl (by decide +kernel)⟩, _, shown_of (p := .tuple [.bool true, .tuple [.int 6, .int 7]]) rfl (by decide +kernel)⟩
  · exact ⟨⟨_, shown_of (p := .tuple [.str "returned", .tuple [.int 1, .int 1]]) rfl (by decide +kernel)⟩, _, shown_of (p := .tuple [.bool true, .tuple [.int 1, .int 1]]) rfl (by decide +kernel)⟩
theorem bl_shown {b : Bool} : ∃ z, shownD (.bl b) st = some z := by
  cases b
  · exact ⟨_, shown_of (p := .bool false) rfl (by decide +kernel)⟩
  · exact ⟨_, shown_of (p := .bool true) rfl (by decide +kernel)⟩
theorem kn_sch (h : isSchB d = true) : Kn d st := by
  obtain ⟨p, hp, rfl⟩ := sch_of h
  refine ⟨⟨.tup, rfl⟩, fun ds e x hx => ?_⟩
  cases e
  simp only [List.mem_cons, List.mem_nil_iff, or_false] at hx
  rcases hx with rfl | rfl <;> exact ⟨.int, rfl⟩
end
end Q.K00
namespace Q.K00
open PySem L2 Q
def forB : SL → SL
  | .cons (.for _ _ b) _ => b
  | _ => .nil
def body1 : SL := forB (dropS 1 b_f_law)
def body2 : SL := forB (dropS 2 b_f_law)
section
variable {fu n m : Nat} {st : Sto} {d v : D}
theorem turn_ok {k : Nat} {b : Int} {i : Int} {f o3 o4 o5 o6 o7 : Option D} (Dk : Deck "left" st n m b) (hb : 0 ≤ b ∧ b < 2 ^ 38) : ∃ st' b' p3 p4 p5 p6, evSs (mkC T fu (callF T fu (k + 6))) body1 [f, some (.loc n), some (.int i), o3, o4, o5, o6, o7] st = .nx [f, some (.loc n), some (.int i), p3, p4, p5, p6, o7] st' ∧ Deck "left" st' n m b' ∧ b ≤ b' ∧ b' ≤ b + 4 := by
  obtain ⟨x, s, b', e1, D1, hb1, hb2, F1, G, hnx⟩ := any_ok (fu := fu) (k := k + 2) Dk hb
  obtain ⟨S, hS⟩ : ∃ S, S = isSchB x := ⟨_, rfl⟩
  obtain ⟨A, hA⟩ : ∃ A, A = (if S = true then D.tup [.str "returned", bndD x] else .tup [.str "BadScheme", x]) := ⟨_, rfl⟩
  have e13 : (mkC T fu (callF T fu (k + 6))).ft 13 [x] s = .ok (.bl S) s := by rw [hS]; exact law_is_scheme_ok (n := k + 3) G.kn G.bt
  have e2 : (mkC T fu (callF T fu (k + 6))).ft 2 [x] s = .ok (.bl S) s := by rw [hS]; exact is_scheme_ok (n := k + 4) G.kn
  have hlam : ∀ th : Sto → Res D, th s = (mkC T fu (callF T fu (k + 6))).ft 5 [x] s → (mkC T fu (callF T fu (k + 6))).hf 0 th s = .ok A s := fun th hth => by
    cases hS2 : S with
    | true =>
      have h5 : th s = .ok (bndD x) s := hth.trans (bound_sch (n := k + 1) (by rw [← hS, hS2])).1
      rw [tried_rt h5, hA, hS2, if_pos rfl]
    | false =>
      have h5 : th s = .exc 0 x s := hth.trans (bound_exc (n := k + 2) G.kn (by rw [← hS, hS2]))
      rw [tried_exc h5, hA, hS2, if_neg (by decide)]
  have hz : ∃ z, shownD A s = some z := by
    cases hS2 : S with
    | true => rw [hA, hS2, if_pos rfl]; exact (sch_shown (by rw [← hS, hS2])).1
    | false => rw [hA, hS2, if_neg (by decide)]; exact G.sh
  obtain ⟨z, hz⟩ := hz
  obtain ⟨y, hy⟩ := bl_shown (b := S) (st := s)
  obtain ⟨C, hC⟩ : ∃ C, C = mkC T fu (callF T fu (k + 6)) := ⟨_, rfl⟩
  have e15 : C.ft 15 [.loc n] st = .ok x s := by rw [hC]; exact e1
  have e14 : S = true → C.ft 14 [x] s = .ok (bndD x) s := fun h => by rw [hC]; exact (bound_sch (n := k + 1) (by rw [← hS, h])).2
  rw [← hC] at e13 e2 hlam ⊢
  have vx : ∀ (s : Sto) (a b c : Option D) (r : List (Option D)), vGet 3 (a :: b :: c :: some x :: r) s = .ok x s := fun _ _ _ _ _ => vGet_ok rfl hnx
  have v2 : ∀ (s : Sto) (a b : Option D) (r : List (Option D)), vGet 2 (a :: b :: some (.int i) :: r) s = .ok (.int i) s := fun _ _ _ _ => rfl
  have v4 : ∀ (s : Sto) (a b c d : Option D) (r : List (Option D)), vGet 4 (a :: b :: c :: d :: some (.bl S) :: r) s = .ok (.bl S) s := fun _ _ _ _ _ _ => rfl
  have v5 : ∀ (s : Sto) (a b c d e : Option D) (r : List (Option D)), vGet 5 (a :: b :: c :: d :: e :: some (.bl S) :: r) s = .ok (.bl S) s := fun _ _ _ _ _ _ _ => rfl
  have hAn : nx A = true := by rw [hA]; cases S <;> rfl
  have v6 : ∀ (s : Sto) (a b c d e g : Option D) (r : List (Option D)), vGet 6 (a :: b :: c :: d :: e :: g :: some A :: r) s = .ok A s := fun _ _ _ _ _ _ _ _ => vGet_ok rfl hAn
  have ep : ∀ q : D, pick [0] ([] ++ [q]) = [q] := fun _ => rfl
  have l0 : ([] : List D).length = 0 := rfl
  refine ⟨s, b', some x, some (.bl S), some (.bl S), some A, ?_, D1, hb1, hb2⟩
  have r1 : evSs C body1 [f, some (.loc n), some (.int i), o3, o4, o5, o6, o7] st = evSs C (dropS 1 body1) [f, some (.loc n), some (.int i), some x, o4, o5, o6, o7] s := evSs_step rfl (by
    show (C.ft 15 [.loc n] st).then _ _ = _
    rw [e15]; rfl)
  have r2 : evSs C (dropS 1 body1) [f, some (.loc n), some (.int i), some x, o4, o5, o6, o7] s = evSs C (dropS 2 body1) [f, some (.loc n), some (.int i), some x, some (.bl S), o5, o6, o7] s := evSs_step rfl (by
    simp only [evS, evE, evL, vx, Res.bind, e13, Res.then, List.set_cons_zero, List.set_cons_succ])
  have r3 : evSs C (dropS 2 body1) [f, some (.loc n), some (.int i), some x, some (.bl S), o5, o6, o7] s = evSs C (dropS 3 body1) [f, some (.loc n), some (.int i), some x, some (.bl S), some (.bl S), o6, o7] s := evSs_step rfl (by
    simp only [evS, evE, evT, fBl, fIf, evL, vx, v2, Res.bind, ofO, cmD, eq_int, blB, ep, l0, if_true, e2]
    split <;> simp only [Res.then, List.set_cons_zero, List.set_cons_succ])
  have r4 : evSs C (dropS 3 body1) [f, some (.loc n), some (.int i), some x, some (.bl S), some (.bl S), o6, o7] s = evSs C (dropS 4 body1) [f, some (.loc n), some (.int i), some x, some (.bl S), some (.bl S), o6, o7] s := evSs_step rfl (by
    simp only [evS, evE, evT, fBl, evL, v4, v5, Res.bind, ofO, bfD, repr_of hy, cmD, ne_str, blB, Res.then, Bool.false_eq_true, if_false, evSs])
  have r5 : evSs C (dropS 4 body1) [f, some (.loc n), some (.int i), some x, some (.bl S), some (.bl S), o6, o7] s = evSs C (dropS 5 body1) [f, some (.loc n), some (.int i), some x, some (.bl S), some (.bl S), some A, o7] s := evSs_step rfl (by
    show (C.hf 0 (fun s => evE C (.call 5 (.cons (.var 3) .nil)) [f, some (.loc n), some (.int i), some x, some (.bl S), some (.bl S), o6, o7] s) s).then _ _ = _
    rw [hlam _ (by simp only [evE, evL, vx, Res.bind])]
    rfl)
  have r6 : evSs C (dropS 5 body1) [f, some (.loc n), some (.int i), some x, some (.bl S), some (.bl S), some A, o7] s = evSs C (dropS 6 body1) [f, some (.loc n), some (.int i), some x, some (.bl S), some (.bl S), some A, o7] s := evSs_step rfl (by
    have e0 : evE C (.lam 0 (.callK 5 0 [0] .nil (.cons (.var 3) .nil))) [f, some (.loc n), some (.int i), some x, some (.bl S), some (.bl S), some A, o7] s = .ok A s := by
      show C.hf 0 (fun s => evE C (.callK 5 0 [0] .nil (.cons (.var 3) .nil)) _ s) s = _
      rw [hlam _ (by simp only [evE, evL, vx, Res.bind, ep, l0, if_true])]
    have t1 : evT C (.cmp .ne (.blt .repr (.cons (.lam 0 (.callK 5 0 [0] .nil (.cons (.var 3) .nil))) .nil)) (.blt .repr (.cons (.var 6) .nil))) [f, some (.loc n), some (.int i), some x, some (.bl S), some (.bl S), some A, o7] s = .ok false s := by
      rw [evT]
      simp only [fBl]
      rw [evE, evE]
      simp only [evL, e0, Res.bind]
      simp only [evE, evL, v6, Res.bind, ofO, bfD, repr_of hz, cmD, ne_str, blB]
    have t2 : evT C (.cmp .lt (.var 2) (.int 2)) [f, some (.loc n), some (.int i), some x, some (.bl S), some (.bl S), some A, o7] s = .ok (decide (i < 2)) s := by
      simp only [evT, fBl, evE, v2, Res.bind, ofO, cmD, ltD, int2b, blB]
    have t3 : evT C (.and (.cmp .lt (.var 2) (.int 2)) (.cmp .ne (.blt .repr (.cons (.lam 0 (.callK 5 0 [0] .nil (.cons (.var 3) .nil))) .nil)) (.blt .repr (.cons (.var 6) .nil)))) [f, some (.loc n), some (.int i), some x, some (.bl S), some (.bl S), some A, o7] s = .ok false s := by
      rw [evT]
      simp only [gAnd, t1, t2, Res.bind]
      split <;> rfl
    rw [evS]
    simp only [t3, Res.then, Bool.false_eq_true, if_false, evSs])
  have r7 : evSs C (dropS 6 body1) [f, some (.loc n), some (.int i), some x, some (.bl S), some (.bl S), some A, o7] s = evSs C (dropS 7 body1) [f, some (.loc n), some (.int i), some x, some (.bl S), some (.bl S), some A, o7] s := evSs_step rfl (by
    have e0 : evE C (.ite (.var 4) (.tup (.cons (.str "returned") (.cons (.call 14 (.cons (.var 3) .nil)) .nil))) (.tup (.cons (.str "BadScheme") (.cons (.var 3) .nil)))) [f, some (.loc n), some (.int i), some x, some (.bl S), some (.bl S), some A, o7] s = .ok A s := by
      cases hS2 : S with
      | true =>
        have h14 := e14 hS2
        rw [hS2] at v4
        simp only [evE, evT, fIf, fTru, evL, v4, vx, Res.bind, ofB, truD, if_true, h14, mkT2, ofO, hA, hS2]
      | false =>
        rw [hS2] at v4
        simp only [evE, evT, fIf, fTru, evL, v4, vx, Res.bind, ofB, truD, Bool.false_eq_true, if_false, mkT2, ofO, hA, hS2]
    have t1 : evT C (.cmp .ne (.blt .repr (.cons (.var 6) .nil)) (.blt .repr (.cons (.ite (.var 4) (.tup (.cons (.str "returned") (.cons (.call 14 (.cons (.var 3) .nil)) .nil))) (.tup (.cons (.str "BadScheme") (.cons (.var 3) .nil)))) .nil))) [f, some (.loc n), some (.int i), some x, some (.bl S), some (.bl S), some A, o7] s = .ok false s := by
      have e6 : evE C (.blt .repr (.cons (.var 6) .nil)) [f, some (.loc n), some (.int i), some x, some (.bl S), some (.bl S), some A, o7] s = .ok (.str z) s := by
        simp only [evE, evL, v6, Res.bind, ofO, bfD, repr_of hz]
      rw [evT]
      simp only [fBl, e6, Res.bind]
      rw [evE]
      simp only [evL, e0, Res.bind, ofO, bfD, repr_of hz, cmD, ne_str, blB]
    rw [evS]
    simp only [t1, Res.then, Bool.false_eq_true, if_false, evSs])
  rw [r1, r2, r3, r4, r5, r6, r7]
  rfl
end
end Q.K00
namespace Q.K00
open PySem L2 Q
section
variable {fu n m : Nat} {st : Sto} {d v : D}
def schD : List D := schL.map fun p => .tup [.int p.1, .int p.2]
theorem last_ok {k : Nat} {f o1 o2 o3 o4 o5 o6 : Option D} (h : isSchB d = true) : evSs (mkC T fu (callF T fu (k + 6))) body2 [f, o1, o2, o3, o4, o5, o6, some d] st = .nx [f, o1, o2, o3, o4, o5, o6, some d] st := by
  have e2 : (mkC T fu (callF T fu (k + 6))).ft 2 [d] st = .ok (.bl true) st := by rw [← h]; exact is_scheme_ok (n := k + 4) (kn_sch h)
  have e5 : (mkC T fu (callF T fu (k + 6))).ft 5 [d] st = .ok (bndD d) st := (bound_sch (n := k + 1) h).1
  have e14 : (mkC T fu (callF T fu (k + 6))).ft 14 [d] st = .ok (bndD d) st := (bound_sch (n := k + 1) h).2
  obtain ⟨z, hz⟩ := (sch_shown (st := st) h).2
  have hn : nx d = true := by
    obtain ⟨p, _, rfl⟩ := sch_of h
    rfl
  have v7 : ∀ (s : Sto) (a b c e g i j : Option D), vGet 7 [a, b, c, e, g, i, j, some d] s = .ok d s := fun _ _ _ _ _ _ _ _ => vGet_ok rfl hn
  have hb : body2 = .cons (.ite (.cmp .ne (.blt .repr (.cons (.tup (.cons (.call 2 (.cons (.var 7) .nil)) (.cons (.call 5 (.cons (.var 7) .nil)) .nil))) .nil)) (.blt .repr (.cons (.tup (.cons (.bl true) (.cons (.call 14 (.cons (.var 7) .nil)) .nil))) .nil))) (.cons (.ret (.bl false)) .nil) .nil) .nil := rfl
  rw [hb]
  simp only [evSs, evS, evT, fBl, evE, evL, v7, Res.bind, e2, e5, e14, mkT2, ofO, bfD, repr_of hz, cmD, ne_str, blB, Res.then, Bool.false_eq_true, if_false, SR.bind]
theorem pure : Pure T 16 63 := fun ns hl _ => by
  obtain ⟨C, hC⟩ : ∃ C, C = mkC T 0 (callF T 0 (0 + 6)) := ⟨_, rfl⟩
  have k1 : ("left" : Str) ≠ "mixed" := by decide +kernel
  have k2 : ("left" : Str) ≠ "draws" := by decide +kernel
  obtain ⟨n, m, s0, e6, D0⟩ := deck_ok (C := mkC T 0 (callF T 0 5)) (key := "left") (c0 := 144040) (c1 := 40692) (c2 := 2147483563) (c3 := 11) (c4 := 2147483629) (cap := 63) (ns := ns) (st := []) (x := none) (y := none) k1 k2 (by decide) (by decide) (by decide) (by decide) (by decide) (by omega)
  have h6 : C.ft 6 [.fz (ns.map D.int)] [] = .ok (.loc n) s0 := by
    rw [hC]
    show callF T 0 6 6 _ _ = _
    rw [cf_succ (F := f_law_deck) rfl]
    have e : evSs (mkC T 0 (callF T 0 5)) f_law_deck.body (env0 f_law_deck.N.length [.fz (ns.map D.int)]) [] = .rt (.loc n) s0 := e6
    rw [e]; rfl
  obtain ⟨F, hF⟩ : ∃ F, F = D.fz (ns.map D.int) := ⟨_, rfl⟩
  have r1 : evSs C b_f_law [some F, none, none, none, none, none, none, none] [] = evSs C (dropS 1 b_f_law) [some F, some (.loc n), none, none, none, none, none, none] s0 := evSs_step rfl (by
    have vf : vGet 0 [some F, none, none, none, none, none, none, none] [] = .ok F [] := vGet_ok rfl (by rw [hF]; rfl)
    simp only [evS, evE, evL, vf, Res.bind]
    rw [hF, h6]; rfl)
  obtain ⟨env1, s1, l1, I1⟩ := loop_inv (it := itRng 0 1 14) (g := gT (.nm 2)) (body := evSs C body1) (env := [some F, some (.loc n), none, none, none, none, none, none]) (st := s0)
    (fun i env s => ∃ (b : Int) (p2 p3 p4 p5 p6 : Option D), env = [some F, some (.loc n), p2, p3, p4, p5, p6, none] ∧ Deck "left" s n m b ∧ 0 ≤ b ∧ b ≤ 4 * i) ⟨0, none, none, none, none, none, rfl, D0, by omega, by omega⟩
    (fun i env s hi h => by
      obtain ⟨b, p2, p3, p4, p5, p6, rfl, Dk, b0, b1⟩ := h
      have hi' : i < 14 := hi
      obtain ⟨s', b', q3, q4, q5, q6, e, D', h1, h2⟩ := turn_ok (fu := 0) (k := 0) (i := 0 + (i : Int) * 1) (f := some F) (o3 := p3) (o4 := p4) (o5 := p5) (o6 := p6) (o7 := none) Dk ⟨b0, by omega⟩
      rw [← hC] at e
      exact ⟨.int (0 + (i : Int) * 1), _, _, s', rfl, rfl, .inl e, b', some (.int (0 + (i : Int) * 1)), q3, q4, q5, q6, rfl, D', by omega, by omega⟩)
    (fun _ _ _ => rfl)
  obtain ⟨b, p2, p3, p4, p5, p6, rfl, D1, _, _⟩ := I1
  have r2 : evSs C (dropS 1 b_f_law) [some F, some (.loc n), none, none, none, none, none, none] s0 = evSs C (dropS 2 b_f_law) [some F, some (.loc n), p2, p3, p4, p5, p6, none] s1 := evSs_step rfl l1
  obtain ⟨s2, hs2⟩ : ∃ s, s = s1 ++ [Ob.lst schD] := ⟨_, rfl⟩
  have g2 : s2[s1.length]? = some (.lst schD) := by rw [hs2, List.getElem?_append_right (Nat.le_refl _), Nat.sub_self]; rfl
  obtain ⟨env2, s3, l2, I2⟩ := loop_inv (it := itLoc s1.length 7) (g := gT (.nm 7)) (body := evSs C body2) (env := [some F, some (.loc n), p2, p3, p4, p5, p6, none]) (st := s2)
    (fun i env s => s = s2 ∧ ∃ p7, env = [some F, some (.loc n), p2, p3, p4, p5, p6, p7]) ⟨rfl, none, rfl⟩
    (fun i env s hi h => by
      obtain ⟨rfl, p7, rfl⟩ := h
      have hi' : i < schD.length := hi
      have hm : schD[i] ∈ schD := List.getElem_mem hi'
      have hsch : isSchB schD[i] = true := by
        have : schD.all isSchB = true := by decide +kernel
        exact List.all_eq_true.mp this _ hm
      refine ⟨schD[i], [some F, some (.loc n), p2, p3, p4, p5, p6, some schD[i]], [some F, some (.loc n), p2, p3, p4, p5, p6, some schD[i]], s, ?_, rfl, .inl ?_, rfl, some schD[i], rfl⟩
      · simp [itLoc, lenAt, g2, List.getElem?_eq_getElem hi']
      · rw [hC]; exact last_ok (k := 0) hsch)
    (fun env s h => by
      obtain ⟨rfl, _⟩ := h
      have : schD.length = 7 := rfl
      simp [itLoc, lenAt, g2, this])
  obtain ⟨rfl, p7, rfl⟩ := I2
  have r3 : evSs C (dropS 2 b_f_law) [some F, some (.loc n), p2, p3, p4, p5, p6, none] s1 = evSs C (dropS 3 b_f_law) [some F, some (.loc n), p2, p3, p4, p5, p6, p7] s3 := evSs_step rfl (by
    show ((evI C _ _ s1).then _ fun it s1 => loopS it (gT (.nm 7)) (evSs C body2) it.n 0 _ s1) = _
    have ei : evI C (.val (.lst (.cons (.tup (.cons (.int 1) (.cons (.int 1) .nil))) (.cons (.tup (.cons (.int 2) (.cons (.int 2) .nil))) (.cons (.tup (.cons (.int 2) (.cons (.int 3) .nil))) (.cons (.tup (.cons (.int 3) (.cons (.int 4) .nil))) (.cons (.tup (.cons (.int 3) (.cons (.int 5) .nil))) (.cons (.tup (.cons (.int 3) (.cons (.int 6) .nil))) (.cons (.tup (.cons (.int 3) (.cons (.int 7) .nil))) .nil))))))))) [some F, some (.loc n), p2, p3, p4, p5, p6, none] s1 = .ok (itLoc s1.length 7) s3 := by
      have e1 : mkLst [.tup [.int 1, .int 1], .tup [.int 2, .int 2], .tup [.int 2, .int 3], .tup [.int 3, .int 4], .tup [.int 3, .int 5], .tup [.int 3, .int 6], .tup [.int 3, .int 7]] s1 = some (.loc s1.length, s3) := by
        rw [hs2]; rfl
      have e3 : itD (.loc s1.length) s3 = .ok (itLoc s1.length 7) s3 := by
        simp only [itD, lenAt, g2]
        rfl
      simp only [evI, evE, evL, Res.bind, ofO, mkT2, e1, e3]
    rw [ei]
    exact l2)
  refine ⟨7, 0, s3, by omega, ?_⟩
  rw [cf_succ (F := f_law) rfl]
  show ofSR (evSs (mkC T 0 (callF T 0 (0 + 6))) b_f_law [some (.fz (ns.map D.int)), none, none, none, none, none, none, none] []) = _
  rw [← hC, ← hF, r1, r2, r3]
  rfl
end
end Q.K00
end

section
set_option Elab.async false
set_option linter.all false
set_option maxRecDepth 100000
set_option maxHeartbeats 4000000
namespace Q
open PySem PySem.Spec PyProof.Rows L2
theorem exm_pair {K : PySem.W.Frag} {cls : Value} {S : Addr} {b : Bool} (h1 : PySem.W.subIn K (.ref S) (.type "BaseException") = some true) (h2 : PySem.W.isClsIn K S = true) (h3 : PySem.W.typeIn K (.ref S) = some (.type "type")) (h4 : PySem.W.subIn K cls (.ref S) = some b) : PySem.W.exmOne K cls (.ref S) = some b := by
  have a1 : (PySem.W.subIn K (.ref S) (.type "BaseException") == some true) = true := by rw [h1]; rfl
  have a2 : ((PySem.W.clsIn K S).isSome && PySem.W.typeIn K (.ref S) == some (.type "type")) = true := by
    have h2' : (PySem.W.clsIn K S).isSome = true := h2
    rw [h2', h3]; rfl
  unfold PySem.W.exmOne
  rw [if_pos a1]
  unfold PySem.W.kitCls
  show (if ((PySem.W.clsIn K S).isSome && PySem.W.typeIn K (.ref S) == some (.type "type")) = true then PySem.W.subIn K cls (.ref S) else none) = some b
  rw [if_pos a2]
  exact h4
end Q
namespace Q.K00
open PySem PySem.Spec PyProof.Rows L2 Q
def top (i : Nat) : Stmt := PySem.Challenge.pw_quotientcells_k00_schemes_of_any_value.main.body.getD i (.Pass ⟨0, 0, 0, 0⟩)
theorem ck_f_is_integer : ckSs T.sg (defG f_is_integer (defScope (top 5))) f_is_integer.body (defBody (top 5)) = true := by decide +kernel
theorem ck_f_is_pair : ckSs T.sg (defG f_is_pair (defScope (top 6))) f_is_pair.body (defBody (top 6)) = true := by decide +kernel
theorem ck_f_is_scheme : ckSs T.sg (defG f_is_scheme (defScope (top 9))) f_is_scheme.body (defBody (top 9)) = true := by decide +kernel
theorem ck_f_need_scheme : ckSs T.sg (defG f_need_scheme (defScope (top 10))) f_need_scheme.body (defBody (top 10)) = true := by decide +kernel
theorem ck_f_radix : ckSs T.sg (defG f_radix (defScope (top 11))) f_radix.body (defBody (top 11)) = true := by decide +kernel
theorem ck_f_bound : ckSs T.sg (defG f_bound (defScope (top 12))) f_bound.body (defBody (top 12)) = true := by decide +kernel
theorem ck_f_law_deck : ckSs T.sg (defG f_law_deck (defScope (top 14))) f_law_deck.body (defBody (top 14)) = true := by decide +kernel
theorem ck_f_law_draw : ckSs T.sg (defG f_law_draw (defScope (top 15))) f_law_draw.body (defBody (top 15)) = true := by decide +kernel
theorem ck_f_law_pick : ckSs T.sg (defG f_law_pick (defScope (top 16))) f_law_pick.body (defBody (top 16)) = true := by decide +kernel
theorem ck_f_law_power : ckSs T.sg (defG f_law_power (defScope (top 17))) f_law_power.body (defBody (top 17)) = true := by decide +kernel
theorem ck_f_law_two : ckSs T.sg (defG f_law_two (defScope (top 18))) f_law_two.body (defBody (top 18)) = true := by decide +kernel
theorem ck_f_law_is_int : ckSs T.sg (defG f_law_is_int (defScope (top 19))) f_law_is_int.body (defBody (top 19)) = true := by decide +kernel
theorem ck_f_law_is_tuple : ckSs T.sg (defG f_law_is_tuple (defScope (top 20))) f_law_is_tuple.body (defBody (top 20)) = true := by decide +kernel
theorem ck_f_law_is_scheme : ckSs T.sg (defG f_law_is_scheme (defScope (top 21))) f_law_is_scheme.body (defBody (top 21)) = true := by decide +kernel
theorem ck_f_law_bound : ckSs T.sg (defG f_law_bound (defScope (top 22))) f_law_bound.body (defBody (top 22)) = true := by decide +kernel
theorem ck_f_law_any : ckSs T.sg (defG f_law_any (defScope (top 24))) f_law_any.body (defBody (top 24)) = true := by decide +kernel
theorem ck_f_law : ckSs T.sg (defG f_law (defScope (top 25))) f_law.body (defBody (top 25)) = true := by decide +kernel
theorem ck_f_as_fraction : ckSs T.sg (defG f_as_fraction (defScope (top 7))) f_as_fraction.body (defBody (top 7)) = true := by decide +kernel
theorem ck_h_law_tried : ckSs T.sg (hoG h_law_tried (defScope (top 23)) "call") h_law_tried.body (defBody (top 23)) = true := by decide +kernel
theorem sc_f_is_integer : FnScope f_is_integer.N f_is_integer.ps (defScope (top 5)) := ⟨rfl, rfl, rfl, by decide +kernel, rfl, by decide +kernel, by decide +kernel⟩
theorem sc_f_is_pair : FnScope f_is_pair.N f_is_pair.ps (defScope (top 6)) := ⟨rfl, rfl, rfl, by decide +kernel, rfl, by decide +kernel, by decide +kernel⟩
theorem sc_f_is_scheme : FnScope f_is_scheme.N f_is_scheme.ps (defScope (top 9)) := ⟨rfl, rfl, rfl, by decide +kernel, rfl, by decide +kernel, by decide +kernel⟩
theorem sc_f_need_scheme : FnScope f_need_scheme.N f_need_scheme.ps (defScope (top 10)) := ⟨rfl, rfl, rfl, by decide +kernel, rfl, by decide +kernel, by decide +kernel⟩
theorem sc_f_radix : FnScope f_radix.N f_radix.ps (defScope (top 11)) := ⟨rfl, rfl, rfl, by decide +kernel, rfl, by decide +kernel, by decide +kernel⟩
theorem sc_f_bound : FnScope f_bound.N f_bound.ps (defScope (top 12)) := ⟨rfl, rfl, rfl, by decide +kernel, rfl, by decide +kernel, by decide +kernel⟩
theorem sc_f_law_deck : FnScope f_law_deck.N f_law_deck.ps (defScope (top 14)) := ⟨rfl, rfl, rfl, by decide +kernel, rfl, by decide +kernel, by decide +kernel⟩
theorem sc_f_law_draw : FnScope f_law_draw.N f_law_draw.ps (defScope (top 15)) := ⟨rfl, rfl, rfl, by decide +kernel, rfl, by decide +kernel, by decide +kernel⟩
theorem sc_f_law_pick : FnScope f_law_pick.N f_law_pick.ps (defScope (top 16)) := ⟨rfl, rfl, rfl, by decide +kernel, rfl, by decide +kernel, by decide +kernel⟩
theorem sc_f_law_power : FnScope f_law_power.N f_law_power.ps (defScope (top 17)) := ⟨rfl, rfl, rfl, by decide +kernel, rfl, by decide +kernel, by decide +kernel⟩
theorem sc_f_law_two : FnScope f_law_two.N f_law_two.ps (defScope (top 18)) := ⟨rfl, rfl, rfl, by decide +kernel, rfl, by decide +kernel, by decide +kernel⟩
theorem sc_f_law_is_int : FnScope f_law_is_int.N f_law_is_int.ps (defScope (top 19)) := ⟨rfl, rfl, rfl, by decide +kernel, rfl, by decide +kernel, by decide +kernel⟩
theorem sc_f_law_is_tuple : FnScope f_law_is_tuple.N f_law_is_tuple.ps (defScope (top 20)) := ⟨rfl, rfl, rfl, by decide +kernel, rfl, by decide +kernel, by decide +kernel⟩
theorem sc_f_law_is_scheme : FnScope f_law_is_scheme.N f_law_is_scheme.ps (defScope (top 21)) := ⟨rfl, rfl, rfl, by decide +kernel, rfl, by decide +kernel, by decide +kernel⟩
theorem sc_f_law_bound : FnScope f_law_bound.N f_law_bound.ps (defScope (top 22)) := ⟨rfl, rfl, rfl, by decide +kernel, rfl, by decide +kernel, by decide +kernel⟩
theorem sc_f_law_any : FnScope f_law_any.N f_law_any.ps (defScope (top 24)) := ⟨rfl, rfl, rfl, by decide +kernel, rfl, by decide +kernel, by decide +kernel⟩
theorem sc_f_law : FnScope f_law.N f_law.ps (defScope (top 25)) := ⟨rfl, rfl, rfl, by decide +kernel, rfl, by decide +kernel, by decide +kernel⟩
theorem sc_f_as_fraction : FnScope f_as_fraction.N f_as_fraction.ps (defScope (top 7)) := ⟨rfl, rfl, rfl, by decide +kernel, rfl, by decide +kernel, by decide +kernel⟩
theorem sc_h_law_tried : FnScope h_law_tried.N ["call"] (defScope (top 23)) := ⟨rfl, rfl, rfl, by decide +kernel, rfl, by decide +kernel, by decide +kernel⟩
theorem all_mk {l : PySem.W.OpenLaw} {w : World} {K : PySem.W.Frag} {h : Heap} {mg : Str → Option Value} {fa : Addr} {ts : List Addr} (X : K.In h) (G : h.Ns mainGlobals mg) (hfa : mg "law" = some (.ref fa)) (hts : ∀ P ∈ ts, h.get? P = some (PySem.W.tabObj #[])) (pu : Pure T 16 63)
    {fa0 fa1 fa2 fa3 fa4 fa5 fa6 fa7 fa8 fa9 fa10 fa11 fa12 fa13 fa14 fa15 fa16 fa17 fa18 C0 g0 : Addr}
    {od0 an0 : Option Addr} {sl0 : Array (Option Value)} {oc0 kV0 dc0 pm0 cd0 ct0 : Value}
    {od1 an1 : Option Addr} {sl1 : Array (Option Value)} {oc1 kV1 dc1 pm1 cd1 ct1 : Value}
    {od2 an2 : Option Addr} {sl2 : Array (Option Value)} {oc2 kV2 dc2 pm2 cd2 ct2 : Value}
    {od3 an3 : Option Addr} {sl3 : Array (Option Value)} {oc3 kV3 dc3 pm3 cd3 ct3 : Value}
    {od4 an4 : Option Addr} {sl4 : Array (Option Value)} {oc4 kV4 dc4 pm4 cd4 ct4 : Value}
    {od5 an5 : Option Addr} {sl5 : Array (Option Value)} {oc5 kV5 dc5 pm5 cd5 ct5 : Value}
    {od6 an6 : Option Addr} {sl6 : Array (Option Value)} {oc6 kV6 dc6 pm6 cd6 ct6 : Value}
    {od7 an7 : Option Addr} {sl7 : Array (Option Value)} {oc7 kV7 dc7 pm7 cd7 ct7 : Value}
    {od8 an8 : Option Addr} {sl8 : Array (Option Value)} {oc8 kV8 dc8 pm8 cd8 ct8 : Value}
    {od9 an9 : Option Addr} {sl9 : Array (Option Value)} {oc9 kV9 dc9 pm9 cd9 ct9 : Value}
    {od10 an10 : Option Addr} {sl10 : Array (Option Value)} {oc10 kV10 dc10 pm10 cd10 ct10 : Value}
    {od11 an11 : Option Addr} {sl11 : Array (Option Value)} {oc11 kV11 dc11 pm11 cd11 ct11 : Value}
    {od12 an12 : Option Addr} {sl12 : Array (Option Value)} {oc12 kV12 dc12 pm12 cd12 ct12 : Value}
    {od13 an13 : Option Addr} {sl13 : Array (Option Value)} {oc13 kV13 dc13 pm13 cd13 ct13 : Value}
    {od14 an14 : Option Addr} {sl14 : Array (Option Value)} {oc14 kV14 dc14 pm14 cd14 ct14 : Value}
    {od15 an15 : Option Addr} {sl15 : Array (Option Value)} {oc15 kV15 dc15 pm15 cd15 ct15 : Value}
    {od16 an16 : Option Addr} {sl16 : Array (Option Value)} {oc16 kV16 dc16 pm16 ct16 : Value} {cc16 tt16 : Addr} {ocx16 : Value} {odx16 : Option Addr} {vsx16 : Array Value} {slx16 : Array (Option Value)}
    {od17 an17 : Option Addr} {sl17 : Array (Option Value)} {oc17 kV17 dc17 pm17 cd17 ct17 : Value}
    {od18 an18 : Option Addr} {sl18 : Array (Option Value)} {oc18 kV18 dc18 pm18 cd18 ct18 : Value}
    {nm0 q0 : Str} {Na0 : Addr} {bs0 bm0 : List Value} {sn0 : List Str} {su0 : List Value} {ab0 : Bool} {co0 : Option Bool} {dd0 : Option Addr} {m00 m10 m20 m30 m50 : Option Value} {ocC0 kVC0 dcC0 pmC0 cdC0 ctC0 : Value} {odC0 anC0 : Option Addr} {slC0 : Array (Option Value)}
    (a0 : PySem.W.nsIn K mainGlobals "is_integer" = some (some (.ref fa0)))
    (l0 : K.lookup fa0 = some ⟨oc0, od0, .func (PySem.W.fnOf "is_integer" "is_integer" (defArgs (top 5)) (defBody (top 5)) (defScope (top 5)) .none kV0 dc0 pm0 an0 cd0 ct0), sl0⟩)
    (c0 : PySem.W.codeIn K cd0 "is_integer" = true)
    (k0 : PySem.W.keepIn K (.ref fa0) = true)
    (a1 : PySem.W.nsIn K mainGlobals "is_pair" = some (some (.ref fa1)))
    (l1 : K.lookup fa1 = some ⟨oc1, od1, .func (PySem.W.fnOf "is_pair" "is_pair" (defArgs (top 6)) (defBody (top 6)) (defScope (top 6)) .none kV1 dc1 pm1 an1 cd1 ct1), sl1⟩)
    (c1 : PySem.W.codeIn K cd1 "is_pair" = true)
    (k1 : PySem.W.keepIn K (.ref fa1) = true)
    (a2 : PySem.W.nsIn K mainGlobals "is_scheme" = some (some (.ref fa2)))
    (l2 : K.lookup fa2 = some ⟨oc2, od2, .func (PySem.W.fnOf "is_scheme" "is_scheme" (defArgs (top 9)) (defBody (top 9)) (defScope (top 9)) .none kV2 dc2 pm2 an2 cd2 ct2), sl2⟩)
    (c2 : PySem.W.codeIn K cd2 "is_scheme" = true)
    (k2 : PySem.W.keepIn K (.ref fa2) = true)
    (a3 : PySem.W.nsIn K mainGlobals "need_scheme" = some (some (.ref fa3)))
    (l3 : K.lookup fa3 = some ⟨oc3, od3, .func (PySem.W.fnOf "need_scheme" "need_scheme" (defArgs (top 10)) (defBody (top 10)) (defScope (top 10)) .none kV3 dc3 pm3 an3 cd3 ct3), sl3⟩)
    (c3 : PySem.W.codeIn K cd3 "need_scheme" = true)
    (k3 : PySem.W.keepIn K (.ref fa3) = true)
    (a4 : PySem.W.nsIn K mainGlobals "radix" = some (some (.ref fa4)))
    (l4 : K.lookup fa4 = some ⟨oc4, od4, .func (PySem.W.fnOf "radix" "radix" (defArgs (top 11)) (defBody (top 11)) (defScope (top 11)) .none kV4 dc4 pm4 an4 cd4 ct4), sl4⟩)
    (c4 : PySem.W.codeIn K cd4 "radix" = true)
    (k4 : PySem.W.keepIn K (.ref fa4) = true)
    (a5 : PySem.W.nsIn K mainGlobals "bound" = some (some (.ref fa5)))
    (l5 : K.lookup fa5 = some ⟨oc5, od5, .func (PySem.W.fnOf "bound" "bound" (defArgs (top 12)) (defBody (top 12)) (defScope (top 12)) .none kV5 dc5 pm5 an5 cd5 ct5), sl5⟩)
    (c5 : PySem.W.codeIn K cd5 "bound" = true)
    (k5 : PySem.W.keepIn K (.ref fa5) = true)
    (a6 : PySem.W.nsIn K mainGlobals "_law_deck" = some (some (.ref fa6)))
    (l6 : K.lookup fa6 = some ⟨oc6, od6, .func (PySem.W.fnOf "_law_deck" "_law_deck" (defArgs (top 14)) (defBody (top 14)) (defScope (top 14)) .none kV6 dc6 pm6 an6 cd6 ct6), sl6⟩)
    (c6 : PySem.W.codeIn K cd6 "_law_deck" = true)
    (k6 : PySem.W.keepIn K (.ref fa6) = true)
    (a7 : PySem.W.nsIn K mainGlobals "_law_draw" = some (some (.ref fa7)))
    (l7 : K.lookup fa7 = some ⟨oc7, od7, .func (PySem.W.fnOf "_law_draw" "_law_draw" (defArgs (top 15)) (defBody (top 15)) (defScope (top 15)) .none kV7 dc7 pm7 an7 cd7 ct7), sl7⟩)
    (c7 : PySem.W.codeIn K cd7 "_law_draw" = true)
    (k7 : PySem.W.keepIn K (.ref fa7) = true)
    (a8 : PySem.W.nsIn K mainGlobals "_law_pick" = some (some (.ref fa8)))
    (l8 : K.lookup fa8 = some ⟨oc8, od8, .func (PySem.W.fnOf "_law_pick" "_law_pick" (defArgs (top 16)) (defBody (top 16)) (defScope (top 16)) .none kV8 dc8 pm8 an8 cd8 ct8), sl8⟩)
    (c8 : PySem.W.codeIn K cd8 "_law_pick" = true)
    (k8 : PySem.W.keepIn K (.ref fa8) = true)
    (a9 : PySem.W.nsIn K mainGlobals "_law_power" = some (some (.ref fa9)))
    (l9 : K.lookup fa9 = some ⟨oc9, od9, .func (PySem.W.fnOf "_law_power" "_law_power" (defArgs (top 17)) (defBody (top 17)) (defScope (top 17)) .none kV9 dc9 pm9 an9 cd9 ct9), sl9⟩)
    (c9 : PySem.W.codeIn K cd9 "_law_power" = true)
    (k9 : PySem.W.keepIn K (.ref fa9) = true)
    (a10 : PySem.W.nsIn K mainGlobals "_law_two" = some (some (.ref fa10)))
    (l10 : K.lookup fa10 = some ⟨oc10, od10, .func (PySem.W.fnOf "_law_two" "_law_two" (defArgs (top 18)) (defBody (top 18)) (defScope (top 18)) .none kV10 dc10 pm10 an10 cd10 ct10), sl10⟩)
    (c10 : PySem.W.codeIn K cd10 "_law_two" = true)
    (k10 : PySem.W.keepIn K (.ref fa10) = true)
    (a11 : PySem.W.nsIn K mainGlobals "_law_is_int" = some (some (.ref fa11)))
    (l11 : K.lookup fa11 = some ⟨oc11, od11, .func (PySem.W.fnOf "_law_is_int" "_law_is_int" (defArgs (top 19)) (defBody (top 19)) (defScope (top 19)) .none kV11 dc11 pm11 an11 cd11 ct11), sl11⟩)
    (c11 : PySem.W.codeIn K cd11 "_law_is_int" = true)
    (k11 : PySem.W.keepIn K (.ref fa11) = true)
    (a12 : PySem.W.nsIn K mainGlobals "_law_is_tuple" = some (some (.ref fa12)))
    (l12 : K.lookup fa12 = some ⟨oc12, od12, .func (PySem.W.fnOf "_law_is_tuple" "_law_is_tuple" (defArgs (top 20)) (defBody (top 20)) (defScope (top 20)) .none kV12 dc12 pm12 an12 cd12 ct12), sl12⟩)
    (c12 : PySem.W.codeIn K cd12 "_law_is_tuple" = true)
    (k12 : PySem.W.keepIn K (.ref fa12) = true)
    (a13 : PySem.W.nsIn K mainGlobals "_law_is_scheme" = some (some (.ref fa13)))
    (l13 : K.lookup fa13 = some ⟨oc13, od13, .func (PySem.W.fnOf "_law_is_scheme" "_law_is_scheme" (defArgs (top 21)) (defBody (top 21)) (defScope (top 21)) .none kV13 dc13 pm13 an13 cd13 ct13), sl13⟩)
    (c13 : PySem.W.codeIn K cd13 "_law_is_scheme" = true)
    (k13 : PySem.W.keepIn K (.ref fa13) = true)
    (a14 : PySem.W.nsIn K mainGlobals "_law_bound" = some (some (.ref fa14)))
    (l14 : K.lookup fa14 = some ⟨oc14, od14, .func (PySem.W.fnOf "_law_bound" "_law_bound" (defArgs (top 22)) (defBody (top 22)) (defScope (top 22)) .none kV14 dc14 pm14 an14 cd14 ct14), sl14⟩)
    (c14 : PySem.W.codeIn K cd14 "_law_bound" = true)
    (k14 : PySem.W.keepIn K (.ref fa14) = true)
    (a15 : PySem.W.nsIn K mainGlobals "_law_any" = some (some (.ref fa15)))
    (l15 : K.lookup fa15 = some ⟨oc15, od15, .func (PySem.W.fnOf "_law_any" "_law_any" (defArgs (top 24)) (defBody (top 24)) (defScope (top 24)) .none kV15 dc15 pm15 an15 cd15 ct15), sl15⟩)
    (c15 : PySem.W.codeIn K cd15 "_law_any" = true)
    (k15 : PySem.W.keepIn K (.ref fa15) = true)
    (a16 : PySem.W.nsIn K mainGlobals "law" = some (some (.ref fa16)))
    (l16 : K.lookup fa16 = some ⟨oc16, od16, .func (PySem.W.fnOf "law" "law" (defArgs (top 25)) (defBody (top 25)) (defScope (top 25)) .none kV16 dc16 pm16 an16 (.ref cc16) ct16), sl16⟩)
    (c16 : PySem.W.codeIn K (.ref cc16) "law" = true)
    (k16 : PySem.W.keepIn K (.ref fa16) = true)
    (x16 : K.lookup cc16 = some ⟨ocx16, odx16, .fields vsx16, slx16⟩)
    (y16 : vsx16.getD 11 .none = .ref tt16)
    (h16 : PySem.W.codeHdIn K cc16 tt16 = true)
    (n16 : K.lookup tt16 = none)
    (a17 : PySem.W.nsIn K mainGlobals "as_fraction" = some (some (.ref fa17)))
    (l17 : K.lookup fa17 = some ⟨oc17, od17, .func (PySem.W.fnOf "as_fraction" "as_fraction" (defArgs (top 7)) (defBody (top 7)) (defScope (top 7)) .none kV17 dc17 pm17 an17 cd17 ct17), sl17⟩)
    (c17 : PySem.W.codeIn K cd17 "as_fraction" = true)
    (k17 : PySem.W.keepIn K (.ref fa17) = true)
    (a18 : PySem.W.nsIn K mainGlobals "_law_tried" = some (some (.ref fa18)))
    (l18 : K.lookup fa18 = some ⟨oc18, od18, .func (PySem.W.fnOf "_law_tried" "_law_tried" (defArgs (top 23)) (defBody (top 23)) (defScope (top 23)) .none kV18 dc18 pm18 an18 cd18 ct18), sl18⟩)
    (c18 : PySem.W.codeIn K cd18 "_law_tried" = true)
    (k18 : PySem.W.keepIn K (.ref fa18) = true)
    (aC0 : PySem.W.nsIn K mainGlobals "BadScheme" = some (some (.ref C0)))
    (xL0 : K.lookup C0 = some (excClassObj nm0 q0 C0 Na0 bs0 bm0 true sn0 su0 ab0 co0 dd0 m00 m10 m20 m30 m50 "Exception.__new__"))
    (bm0h : QX.refsE bm0 = true)
    (sa0 : PySem.W.findIn K (.ref C0) "__setattr__" = some (some (.builtin "object.__setattr__")))
    (ga0 : PySem.W.findIn K (.ref C0) "__getattribute__" = some (some (.builtin "BaseException.__getattribute__")))
    (gg0 : PySem.W.findIn K (.ref C0) "__getattr__" = some none)
    (nb0 : PySem.W.findIn K (.ref C0) "thing" = some none)
    (iC0 : PySem.W.findIn K (.ref C0) "__init__" = some (some (.ref g0)))
    (tI0 : PySem.W.typeIn K (.ref g0) = some (.type "function"))
    (lI0 : K.lookup g0 = some ⟨ocC0, odC0, .func (PySem.W.fnOf "__init__" "BadScheme.__init__" (initA "self" "thing" ⟨7, 17, 7, 21⟩ ⟨7, 23, 7, 28⟩) (initB "self" "thing" "thing" ⟨8, 8, 8, 12⟩ ⟨8, 8, 8, 18⟩ ⟨8, 21, 8, 26⟩ ⟨8, 8, 8, 26⟩) (initS "self" "thing") .none kVC0 dcC0 pmC0 anC0 cdC0 ctC0), slC0⟩)
    (cI0 : PySem.W.codeIn K cdC0 "BadScheme.__init__" = true)
    (kC0 : PySem.W.keepIn K (.ref C0) = true)
    (eC0 : PySem.W.subIn K (.ref C0) (.type "BaseException") = some true)
    (tC0 : PySem.W.typeIn K (.ref C0) = some (.type "type"))
    (hC0 : PySem.W.hasDictIn K C0 = true)
    (oC0 : PySem.W.isClsIn K C0 = true)
    (s0_0 : PySem.W.subIn K (.ref C0) (.ref C0) = some true)
    (z0 : PySem.W.nsIn K mainGlobals "bool" = some none)
    (z1 : PySem.W.nsIn K mainGlobals "gcd" = some (some (.builtin "math.gcd")))
    (z2 : PySem.W.nsIn K mainGlobals "int" = some none)
    (z3 : PySem.W.nsIn K mainGlobals "isinstance" = some none)
    (z4 : PySem.W.nsIn K mainGlobals "len" = some none)
    (z5 : PySem.W.nsIn K mainGlobals "list" = some none)
    (z6 : PySem.W.nsIn K mainGlobals "max" = some none)
    (z7 : PySem.W.nsIn K mainGlobals "range" = some none)
    (z8 : PySem.W.nsIn K mainGlobals "repr" = some none)
    (z9 : PySem.W.nsIn K mainGlobals "str" = some none)
    (z10 : PySem.W.nsIn K mainGlobals "tuple" = some none)
    (hin : ∀ t ∈ [tt16], t ∈ ts)
    : LawQ l w K 63 "script" mg fa h := by
  have mh := hfa.symm.trans (PySem.W.mg_of X G a16)
  cases mh
  refine ⟨PySem.W.fnOf "law" "law" (defArgs (top 25)) (defBody (top 25)) (defScope (top 25)) .none kV16 dc16 pm16 an16 (.ref cc16) ct16, ([(cc16, tt16)] : List (Addr × Addr)), ?_, ?_, ?_, fun s v => .of_eq rfl, fun base kb nb tb => lawF_of (T := T) (P0 := (⟨[(tt16, lamQ "law")], fun c => [C0].getD c C0, fn, [], fun _ => none, []⟩ : Par)) (nm := "law") (f := 16) ?_ rfl hfa ?_ rfl rfl rfl pu⟩
  · intro p hp; simp only [List.mem_cons, List.not_mem_nil, or_false] at hp; obtain rfl := hp <;> exact hts _ (hin _ (by simp))
  · intro p hp; simp only [List.mem_cons, List.not_mem_nil, or_false] at hp; obtain rfl := hp
    · exact n16
  · intro p hp; simp only [List.mem_cons, List.not_mem_nil, or_false] at hp; obtain rfl := hp
    · exact PySem.W.codeHd_of_K X h16
  · refine ⟨?fn, ?ho, ?cl, ?sub, ?eg, rfl, ?bl, ?gc⟩
    case fn =>
      intro f nm ar e
      match f, e with
      | 0, e =>
        cases e
        exact ⟨f_is_integer, rfl, rfl, fa0, "is_integer", "is_integer", defArgs (top 5), defBody (top 5), defScope (top 5), .none, kV0, dc0, pm0, cd0, ct0, oc0, an0, od0, sl0, PySem.W.mg_of X G a0, k0, by decide +kernel, l0, c0, sc_f_is_integer, fun us (hl : us.length = 1) => match us, hl with | [_], _ => rfl, fun n ks ix hm => by simp [T, sg] at hm, ck_f_is_integer, fun hz => nomatch hz⟩
      | 1, e =>
        cases e
        exact ⟨f_is_pair, rfl, rfl, fa1, "is_pair", "is_pair", defArgs (top 6), defBody (top 6), defScope (top 6), .none, kV1, dc1, pm1, cd1, ct1, oc1, an1, od1, sl1, PySem.W.mg_of X G a1, k1, by decide +kernel, l1, c1, sc_f_is_pair, fun us (hl : us.length = 1) => match us, hl with | [_], _ => rfl, fun n ks ix hm => by simp [T, sg] at hm, ck_f_is_pair, fun hz => nomatch hz⟩
      | 2, e =>
        cases e
        exact ⟨f_is_scheme, rfl, rfl, fa2, "is_scheme", "is_scheme", defArgs (top 9), defBody (top 9), defScope (top 9), .none, kV2, dc2, pm2, cd2, ct2, oc2, an2, od2, sl2, PySem.W.mg_of X G a2, k2, by decide +kernel, l2, c2, sc_f_is_scheme, fun us (hl : us.length = 1) => match us, hl with | [_], _ => rfl, fun n ks ix hm => by
        simp [T, sg] at hm
        obtain ⟨rfl, rfl, rfl⟩ := hm
        exact fun us ws h1 h2 => match us, ws, h1, h2 with | [], [_], _, _ => rfl, ck_f_is_scheme, fun hz => nomatch hz⟩
      | 3, e =>
        cases e
        exact ⟨f_need_scheme, rfl, rfl, fa3, "need_scheme", "need_scheme", defArgs (top 10), defBody (top 10), defScope (top 10), .none, kV3, dc3, pm3, cd3, ct3, oc3, an3, od3, sl3, PySem.W.mg_of X G a3, k3, by decide +kernel, l3, c3, sc_f_need_scheme, fun us (hl : us.length = 1) => match us, hl with | [_], _ => rfl, fun n ks ix hm => by simp [T, sg] at hm, ck_f_need_scheme, fun hz => nomatch hz⟩
      | 4, e =>
        cases e
        exact ⟨f_radix, rfl, rfl, fa4, "radix", "radix", defArgs (top 11), defBody (top 11), defScope (top 11), .none, kV4, dc4, pm4, cd4, ct4, oc4, an4, od4, sl4, PySem.W.mg_of X G a4, k4, by decide +kernel, l4, c4, sc_f_radix, fun us (hl : us.length = 1) => match us, hl with | [_], _ => rfl, fun n ks ix hm => by simp [T, sg] at hm, ck_f_radix, fun hz => nomatch hz⟩
      | 5, e =>
        cases e
        exact ⟨f_bound, rfl, rfl, fa5, "bound", "bound", defArgs (top 12), defBody (top 12), defScope (top 12), .none, kV5, dc5, pm5, cd5, ct5, oc5, an5, od5, sl5, PySem.W.mg_of X G a5, k5, by decide +kernel, l5, c5, sc_f_bound, fun us (hl : us.length = 1) => match us, hl with | [_], _ => rfl, fun n ks ix hm => by
        simp [T, sg] at hm
        obtain ⟨rfl, rfl, rfl⟩ := hm
        exact fun us ws h1 h2 => match us, ws, h1, h2 with | [], [_], _, _ => rfl, ck_f_bound, fun hz => nomatch hz⟩
      | 6, e =>
        cases e
        exact ⟨f_law_deck, rfl, rfl, fa6, "_law_deck", "_law_deck", defArgs (top 14), defBody (top 14), defScope (top 14), .none, kV6, dc6, pm6, cd6, ct6, oc6, an6, od6, sl6, PySem.W.mg_of X G a6, k6, by decide +kernel, l6, c6, sc_f_law_deck, fun us (hl : us.length = 1) => match us, hl with | [_], _ => rfl, fun n ks ix hm => by simp [T, sg] at hm, ck_f_law_deck, fun hz => nomatch hz⟩
      | 7, e =>
        cases e
        exact ⟨f_law_draw, rfl, rfl, fa7, "_law_draw", "_law_draw", defArgs (top 15), defBody (top 15), defScope (top 15), .none, kV7, dc7, pm7, cd7, ct7, oc7, an7, od7, sl7, PySem.W.mg_of X G a7, k7, by decide +kernel, l7, c7, sc_f_law_draw, fun us (hl : us.length = 2) => match us, hl with | [_, _], _ => rfl, fun n ks ix hm => by simp [T, sg] at hm, ck_f_law_draw, fun hz => nomatch hz⟩
      | 8, e =>
        cases e
        exact ⟨f_law_pick, rfl, rfl, fa8, "_law_pick", "_law_pick", defArgs (top 16), defBody (top 16), defScope (top 16), .none, kV8, dc8, pm8, cd8, ct8, oc8, an8, od8, sl8, PySem.W.mg_of X G a8, k8, by decide +kernel, l8, c8, sc_f_law_pick, fun us (hl : us.length = 2) => match us, hl with | [_, _], _ => rfl, fun n ks ix hm => by simp [T, sg] at hm, ck_f_law_pick, fun hz => nomatch hz⟩
      | 9, e =>
        cases e
        exact ⟨f_law_power, rfl, rfl, fa9, "_law_power", "_law_power", defArgs (top 17), defBody (top 17), defScope (top 17), .none, kV9, dc9, pm9, cd9, ct9, oc9, an9, od9, sl9, PySem.W.mg_of X G a9, k9, by decide +kernel, l9, c9, sc_f_law_power, fun us (hl : us.length = 2) => match us, hl with | [_, _], _ => rfl, fun n ks ix hm => by simp [T, sg] at hm, ck_f_law_power, fun hz => nomatch hz⟩
      | 10, e =>
        cases e
        exact ⟨f_law_two, rfl, rfl, fa10, "_law_two", "_law_two", defArgs (top 18), defBody (top 18), defScope (top 18), .none, kV10, dc10, pm10, cd10, ct10, oc10, an10, od10, sl10, PySem.W.mg_of X G a10, k10, by decide +kernel, l10, c10, sc_f_law_two, fun us (hl : us.length = 1) => match us, hl with | [_], _ => rfl, fun n ks ix hm => by simp [T, sg] at hm, ck_f_law_two, fun hz => nomatch hz⟩
      | 11, e =>
        cases e
        exact ⟨f_law_is_int, rfl, rfl, fa11, "_law_is_int", "_law_is_int", defArgs (top 19), defBody (top 19), defScope (top 19), .none, kV11, dc11, pm11, cd11, ct11, oc11, an11, od11, sl11, PySem.W.mg_of X G a11, k11, by decide +kernel, l11, c11, sc_f_law_is_int, fun us (hl : us.length = 1) => match us, hl with | [_], _ => rfl, fun n ks ix hm => by simp [T, sg] at hm, ck_f_law_is_int, fun hz => nomatch hz⟩
      | 12, e =>
        cases e
        exact ⟨f_law_is_tuple, rfl, rfl, fa12, "_law_is_tuple", "_law_is_tuple", defArgs (top 20), defBody (top 20), defScope (top 20), .none, kV12, dc12, pm12, cd12, ct12, oc12, an12, od12, sl12, PySem.W.mg_of X G a12, k12, by decide +kernel, l12, c12, sc_f_law_is_tuple, fun us (hl : us.length = 2) => match us, hl with | [_, _], _ => rfl, fun n ks ix hm => by simp [T, sg] at hm, ck_f_law_is_tuple, fun hz => nomatch hz⟩
      | 13, e =>
        cases e
        exact ⟨f_law_is_scheme, rfl, rfl, fa13, "_law_is_scheme", "_law_is_scheme", defArgs (top 21), defBody (top 21), defScope (top 21), .none, kV13, dc13, pm13, cd13, ct13, oc13, an13, od13, sl13, PySem.W.mg_of X G a13, k13, by decide +kernel, l13, c13, sc_f_law_is_scheme, fun us (hl : us.length = 1) => match us, hl with | [_], _ => rfl, fun n ks ix hm => by simp [T, sg] at hm, ck_f_law_is_scheme, fun hz => nomatch hz⟩
      | 14, e =>
        cases e
        exact ⟨f_law_bound, rfl, rfl, fa14, "_law_bound", "_law_bound", defArgs (top 22), defBody (top 22), defScope (top 22), .none, kV14, dc14, pm14, cd14, ct14, oc14, an14, od14, sl14, PySem.W.mg_of X G a14, k14, by decide +kernel, l14, c14, sc_f_law_bound, fun us (hl : us.length = 1) => match us, hl with | [_], _ => rfl, fun n ks ix hm => by simp [T, sg] at hm, ck_f_law_bound, fun hz => nomatch hz⟩
      | 15, e =>
        cases e
        exact ⟨f_law_any, rfl, rfl, fa15, "_law_any", "_law_any", defArgs (top 24), defBody (top 24), defScope (top 24), .none, kV15, dc15, pm15, cd15, ct15, oc15, an15, od15, sl15, PySem.W.mg_of X G a15, k15, by decide +kernel, l15, c15, sc_f_law_any, fun us (hl : us.length = 1) => match us, hl with | [_], _ => rfl, fun n ks ix hm => by simp [T, sg] at hm, ck_f_law_any, fun hz => nomatch hz⟩
      | 16, e =>
        cases e
        exact ⟨f_law, rfl, rfl, fa, "law", "law", defArgs (top 25), defBody (top 25), defScope (top 25), .none, kV16, dc16, pm16, .ref cc16, ct16, oc16, an16, od16, sl16, PySem.W.mg_of X G a16, k16, by decide +kernel, l16, c16, sc_f_law, fun us (hl : us.length = 1) => match us, hl with | [_], _ => rfl, fun n ks ix hm => by simp [T, sg] at hm, ck_f_law, fun _ => ⟨cc16, tt16, rfl, tb (cc16, tt16) (by simp), by simp, fun p hp hq => by
        simp only [List.mem_cons, List.not_mem_nil, or_false] at hp
        obtain rfl := hp
        rfl⟩⟩
      | 17, e =>
        cases e
        exact ⟨f_as_fraction, rfl, rfl, fa17, "as_fraction", "as_fraction", defArgs (top 7), defBody (top 7), defScope (top 7), .none, kV17, dc17, pm17, cd17, ct17, oc17, an17, od17, sl17, PySem.W.mg_of X G a17, k17, by decide +kernel, l17, c17, sc_f_as_fraction, fun us (hl : us.length = 2) => match us, hl with | [_, _], _ => rfl, fun n ks ix hm => by simp [T, sg] at hm, ck_f_as_fraction, fun hz => nomatch hz⟩
      | n + 18, e => simp [T, sg] at e
    case ho =>
      intro f nm e
      match f, e with
      | 0, e =>
        cases e
        exact ⟨h_law_tried, rfl, "call", fa18, "_law_tried", defArgs (top 23), defBody (top 23), defScope (top 23), .none, kV18, dc18, pm18, cd18, ct18, oc18, an18, od18, sl18, rfl, PySem.W.mg_of X G a18, k18, by decide +kernel, l18, c18, sc_h_law_tried, rfl, .inl (by decide +kernel), by decide +kernel, fun us (hl : us.length = 1) => match us, hl with | [_], _ => rfl, ck_h_law_tried⟩
      | n + 1, e => simp [T, sg] at e
    case cl =>
      intro c nm f e
      have O0 : OwnE K C0 := ⟨⟨nm0, q0, Na0, bs0, bm0, sn0, su0, ab0, co0, dd0, m00, m10, m20, m30, m50, xL0, bm0h⟩, sa0, eC0, tC0, kC0⟩
      match c, e with
      | 0, e =>
        cases e
        exact ⟨rfl, PySem.W.mg_of X G aC0, by decide +kernel, O0, g0, _, _, iC0, tI0, init_ok O0 nb0 ⟨by decide +kernel, by decide +kernel, by decide +kernel, by decide +kernel, by decide +kernel⟩ lI0 cI0, rfl, fun us (hl : us.length = 2) => match us, hl with | [_, _], _ => rfl⟩
      | n + 1, e => simp [T, sg] at e
    case sub =>
      intro a b
      show PySem.W.exmOne K (.ref ((⟨[(tt16, lamQ "law")], fun c => [C0].getD c C0, fn, [], fun _ => none, []⟩ : Par).CA a)) (.ref ((⟨[(tt16, lamQ "law")], fun c => [C0].getD c C0, fn, [], fun _ => none, []⟩ : Par).CA b)) = some (sub a b)
      match a, b with
      | 0, 0 => exact exm_pair eC0 oC0 tC0 s0_0
      | 0, y + 1 => simpa [sub, nc] using exm_pair eC0 oC0 tC0 s0_0
      | x + 1, 0 => simpa [sub, nc] using exm_pair eC0 oC0 tC0 s0_0
      | x + 1, y + 1 => simpa [sub, nc] using exm_pair eC0 oC0 tC0 s0_0
    case eg =>
      intro c
      match c with
      | 0 => exact ⟨ga0, gg0, nb0, eC0, hC0⟩
      | x + 1 => exact ⟨ga0, gg0, nb0, eC0, hC0⟩
    case bl =>
      intro x hx hn
      have hx : x ∈ (["bool", "gcd", "int", "isinstance", "len", "list", "max", "range", "repr", "str", "tuple"] : List Str) := hx
      simp only [List.mem_cons, List.not_mem_nil, or_false] at hx
      rcases hx with rfl | rfl | rfl | rfl | rfl | rfl | rfl | rfl | rfl | rfl | rfl
      · exact PySem.W.mg_none_of X G z0
      · exact absurd rfl hn
      · exact PySem.W.mg_none_of X G z2
      · exact PySem.W.mg_none_of X G z3
      · exact PySem.W.mg_none_of X G z4
      · exact PySem.W.mg_none_of X G z5
      · exact PySem.W.mg_none_of X G z6
      · exact PySem.W.mg_none_of X G z7
      · exact PySem.W.mg_none_of X G z8
      · exact PySem.W.mg_none_of X G z9
      · exact PySem.W.mg_none_of X G z10
    case gc =>
      exact fun _ => PySem.W.mg_of X G z1
  · intro p hp
    simp only [List.mem_cons, List.not_mem_nil, or_false] at hp
    obtain rfl := hp
    exact ⟨(cc16, tt16), by simp, rfl⟩
end Q.K00
open PySem PySem.W PyProof.Rows
set_option maxRecDepth 100000 in
set_option maxHeartbeats 0 in
theorem PySem.Challenge.cw_quotientcells_k00_schemes_of_any_value_holds : PySem.Challenge.rw_quotientcells_k00_schemes_of_any_value.Holds := by
  w_on; o_law; k_head; (case hw => w_witness2)
  k_fill
  refine Q.walk_ofQ (l := PySem.Challenge.rw_quotientcells_k00_schemes_of_any_value) (n := 63) (x := "script") rfl (by decide) rfl (fun w h Y => Y.1) ?F
  case F =>
    intro w mg fa h Y KX G hmg
    refine' Q.K00.all_mk KX G hmg Y.2 Q.K00.pure ?a0 ?l0 ?c0 ?k0 ?a1 ?l1 ?c1 ?k1 ?a2 ?l2 ?c2 ?k2 ?a3 ?l3 ?c3 ?k3 ?a4 ?l4 ?c4 ?k4 ?a5 ?l5 ?c5 ?k5 ?a6 ?l6 ?c6 ?k6 ?a7 ?l7 ?c7 ?k7 ?a8 ?l8 ?c8 ?k8 ?a9 ?l9 ?c9 ?k9 ?a10 ?l10 ?c10 ?k10 ?a11 ?l11 ?c11 ?k11 ?a12 ?l12 ?c12 ?k12 ?a13 ?l13 ?c13 ?k13 ?a14 ?l14 ?c14 ?k14 ?a15 ?l15 ?c15 ?k15 ?a16 ?l16 ?c16 ?k16 ?x16 ?y16 ?h16 ?n16 ?a17 ?l17 ?c17 ?k17 ?a18 ?l18 ?c18 ?k18 ?aC0 ?xL0 ?bm0h ?sa0 ?ga0 ?gg0 ?nb0 ?iC0 ?tI0 ?lI0 ?cI0 ?kC0 ?eC0 ?tC0 ?hC0 ?oC0 ?s0_0 ?z0 ?z1 ?z2 ?z3 ?z4 ?z5 ?z6 ?z7 ?z8 ?z9 ?z10 ?hin
    (case a0 => k_is)
    (case l0 => k_is)
    (case c0 => k_is)
    (case k0 => k_is)
    (case a1 => k_is)
    (case l1 => k_is)
    (case c1 => k_is)
    (case k1 => k_is)
    (case a2 => k_is)
    (case l2 => k_is)
    (case c2 => k_is)
    (case k2 => k_is)
    (case a3 => k_is)
    (case l3 => k_is)
    (case c3 => k_is)
    (case k3 => k_is)
    (case a4 => k_is)
    (case l4 => k_is)
    (case c4 => k_is)
    (case k4 => k_is)
    (case a5 => k_is)
    (case l5 => k_is)
    (case c5 => k_is)
    (case k5 => k_is)
    (case a6 => k_is)
    (case l6 => k_is)
    (case c6 => k_is)
    (case k6 => k_is)
    (case a7 => k_is)
    (case l7 => k_is)
    (case c7 => k_is)
    (case k7 => k_is)
    (case a8 => k_is)
    (case l8 => k_is)
    (case c8 => k_is)
    (case k8 => k_is)
    (case a9 => k_is)
    (case l9 => k_is)
    (case c9 => k_is)
    (case k9 => k_is)
    (case a10 => k_is)
    (case l10 => k_is)
    (case c10 => k_is)
    (case k10 => k_is)
    (case a11 => k_is)
    (case l11 => k_is)
    (case c11 => k_is)
    (case k11 => k_is)
    (case a12 => k_is)
    (case l12 => k_is)
    (case c12 => k_is)
    (case k12 => k_is)
    (case a13 => k_is)
    (case l13 => k_is)
    (case c13 => k_is)
    (case k13 => k_is)
    (case a14 => k_is)
    (case l14 => k_is)
    (case c14 => k_is)
    (case k14 => k_is)
    (case a15 => k_is)
    (case l15 => k_is)
    (case c15 => k_is)
    (case k15 => k_is)
    (case a16 => k_is)
    (case l16 => k_is)
    (case c16 => k_is)
    (case k16 => k_is)
    (case x16 => k_is)
    (case y16 => rfl)
    (case h16 => kernel_rfl)
    (case n16 => kernel_rfl)
    (case a17 => k_is)
    (case l17 => k_is)
    (case c17 => k_is)
    (case k17 => k_is)
    (case a18 => k_is)
    (case l18 => k_is)
    (case c18 => k_is)
    (case k18 => k_is)
    (case aC0 => k_is)
    (case xL0 => k_is)
    (case bm0h => decide +kernel)
    (case sa0 => k_is)
    (case ga0 => k_is)
    (case gg0 => k_is)
    (case nb0 => k_is)
    (case iC0 => k_is)
    (case tI0 => k_is)
    (case lI0 => k_is)
    (case cI0 => k_is)
    (case kC0 => k_is)
    (case eC0 => k_is)
    (case tC0 => k_is)
    (case hC0 => k_is)
    (case oC0 => k_is)
    (case s0_0 => k_is)
    (case z0 => k_is)
    (case z1 => k_is)
    (case z2 => k_is)
    (case z3 => k_is)
    (case z4 => k_is)
    (case z5 => k_is)
    (case z6 => k_is)
    (case z7 => k_is)
    (case z8 => k_is)
    (case z9 => k_is)
    (case z10 => k_is)
    (case hin => decide)
end
